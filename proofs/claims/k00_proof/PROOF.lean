import PyProof.Rows.All
import Wide.All
import OpenK.AllK
import Wide.FinOn
import HandS.ForMost
import HandS.Wide
import HandS.Gcd
import HandS.IsInst
import PySem.Challenge.RW_standframes_k00_sums_in_lowest_terms
import HandS.Codes
import KE.KIntText
import PyProof.StrOps2
import HandS.ExcInit
import HandS.ExcCtx
import HandS.ExcSuper
import HandS.FStr
import HandS.CallSlots
import KE.KExcSuper
import HandS.Walk
import HandS.Defaults
import HandS.Style
import HandS.WideBits
import HandS.HotCalls
import HandS.ExcIs
import HandS.ExcField
import KE.KExcIs
import HandS.More
import KE.KStateDown
import HandS.Head0
import HandS.Head1
import HandS.Head2
import HandS.HeadEnd
import HandS.HeadHook1
import HandS.HeadHook2
import HandS.Head3
set_option Elab.async false
set_option linter.all false
set_option maxRecDepth 100000
set_option maxHeartbeats 4000000
namespace K00
open PySem L2
def top (i : Nat) : Stmt := PySem.Challenge.pw_standframes_k00_sums_in_lowest_terms.main.body.getD i (.Pass ⟨0, 0, 0, 0⟩)
/-! ### a def of the module, named: what a caller wants of it -/
structure Callee (P : Program) (w : World) (K : PySem.W.Frag) (mg : Str → Option Value) (base : Heap) (CX : CXT) (k : Nat) (x : Str) (ps : List Str) (sp : Sp) : Prop where
  go : ∃ (f : Addr) (fd : FuncData), FnOk P w K mg base CX k f fd ps sp ∧ mg x = some (.ref f) ∧ PySem.W.keepIn K (.ref f) = true ∧ Binds K fd ps []
theorem pe_fn {X : Cx} {CX : CXT} {k : Nat} {x : Str} {ps : List Str} {sp : Sp} {E : XK} {e : Expr} {es : List Expr} {t : TA} {p pos : Pos} (C : Callee X.prog X.w X.K X.mg X.base CX k x ps sp) (hr : Room k X.A) (hg : Gl X x) (hx : Passes CX X E)
    (ha : PA X (e :: es) t) (hdb : (x == ("__debug__" : Str)) = false := by decide) (he : starEach (e :: es) X.env = (false, eval e X.env) :: starEach es X.env := by rfl) (hpl : (backTo pos (starEach es X.env)).any (·.1) = false := by rfl) :
    PE X (.Call (.Name x p) (e :: es) [] pos) (tCall sp [] E t) := by
  obtain ⟨f, fd, F, hm, hk, hb⟩ := C.go
  exact pe_call F hr hg hm hk hb .nil hx ha hdb he hpl
/-- the built-in names that the module leaves alone -/
structure Txt (K : PySem.W.Frag) (mg : Str → Option Value) : Prop where
  len : mg "len" = none
  int : mg "int" = none
  max : mg "max" = none
  min : mg "min" = none
  list : mg "list" = none
  tuple : mg "tuple" = none
  isinstance : mg "isinstance" = none
  range : mg "range" = none
  zip : mg "zip" = none
  bool : mg "bool" = none
  str : mg "str" = none
  dict : mg "dict" = none
  gcd : mg "gcd" = some (.builtin "math.gcd")
/-! ### the store of the draws -/
/-- the numbers that the store keeps: none is negative, the mill's state is below 2 ^ 61 -/
structure Nums (i b c d e : Int) : Prop where
  hi : 0 ≤ i
  hb : 0 ≤ b
  hc : 0 ≤ c
  hd : 0 ≤ d
  hd2 : d < 2305843009213693951
  he : 0 ≤ e
abbrev cells (l : Addr) (i b c d e : Int) : List V := [.ref l, .int i, .int b, .int c, .int d, .int e]
def StAt (H : Hp) (st : Addr) : Prop := ∃ (l : Addr) (ns : List Int) (i b c d e : Int), H st = some (.lst (cells l i b c d e)) ∧ H l = some (.lst (ns.map V.int)) ∧ ns.length ≤ 63 ∧ l ≠ st ∧ Nums i b c d e
/-- behind a draw: all else is as it was, the store is a store -/
structure Ext (st : Addr) (H H' : Hp) : Prop where
  old : ∀ b o, b ≠ st → H b = some o → H' b = some o
  at_ : StAt H' st
  keep : ∀ (l : Addr) (r : List V), H st = some (.lst (.ref l :: r)) → ∃ r', H' st = some (.lst (.ref l :: r'))
theorem Ext.trans {st : Addr} {H H1 H2 : Hp} (a : Ext st H H1) (b : Ext st H1 H2) : Ext st H H2 := ⟨fun c o n h => b.old c o n (a.old c o n h), b.at_, fun l r h => (a.keep l r h).elim fun r' h' => b.keep l r' h'⟩
theorem StAt.ext {st : Addr} {H : Hp} (a : StAt H st) : Ext st H H := ⟨fun _ _ _ h => h, a, fun _ r h => ⟨r, h⟩⟩
def lim : Nat → Int
  | 0 => 1000000000
  | n + 1 => (lim n - 1) * 1000000000
/-- what a draw below m may be -/
def Rng (r m : Int) : Prop := 0 ≤ r ∧ (r < m ∨ (m < 2 ∧ r = 0))
def spTake : Nat → Sp
  | 0 => fun _ _ _ _ => False
  | n + 1 => fun vs H Q _ => ∃ (st : Addr) (m : Int), vs = [.ref st, .int m] ∧ StAt H st ∧ m ≤ lim n ∧ ∀ (r : Int) (H' : Hp), Rng r m → Ext st H H' → Q (.int r) H'
theorem lim_big : ∀ n, 1000000000 ≤ lim n
  | 0 => by decide
  | n + 1 => by
    have h := lim_big n
    show (1000000000 : Int) ≤ (lim n - 1) * 1000000000
    omega
section
variable {P : Program} {w : World} {K : PySem.W.Frag} {mg : Str → Option Value} {base : Heap}
abbrev s_store : Stmt := top 57
theorem sc_store : FnScope ["_law_script"] ["_law_script"] (defScope s_store) := ⟨rfl, rfl, rfl, by decide +kernel, rfl, by decide +kernel, by decide +kernel⟩
def spStore (K : PySem.W.Frag) : Sp := fun vs H Q _ => ∃ (a : Addr) (ns : List Int), vs = [.ref a] ∧ SqL K H a (ns.map V.int) ∧ ns.length ≤ 63 ∧ ∀ (st : Addr) (H' : Hp), H st = none → Same H H' → StAt H' st → Q (.ref st) H'
theorem ok_store {f : Addr} {fd : FuncData} (F : Fun K "_law_store" "_law_store" s_store f fd) (T : Txt K mg) : FnOk P w K mg base CX0 1 f fd ["_law_script"] (spStore K) := by
  refine F.ok sc_store (fun vs H Q E h => ?_) (fun cdv A outer s H vs Q E hr h => ?_)
  · obtain ⟨a, ns, rfl, _⟩ := h
    rfl
  · obtain ⟨a, ns, rfl, hS, hl, k⟩ := h
    refine ⟨_, (pss_one (ps_ret (pe_lst (pa_cons (pe_callTy call_list_of (by rfl) T.list (by decide +kernel) (pa_cons (pv 0) pa_nil)) (pa_cons pe_int (pa_cons pe_int (pa_cons pe_int (pa_cons pe_int (pa_cons pe_int pa_nil))))))))), ?_⟩
    refine ⟨_, rfl, _, _, rfl, .inl hS, fun l hl0 => ?_⟩
    refine ⟨by show 6 ≤ sizeLine; decide, fun p hp => ?_⟩
    have nlp : l ≠ p := fun e => by rw [← e, upd_same] at hp; cases hp
    have hp0 : H p = none := by rw [upd_ne nlp.symm] at hp; exact hp
    refine k p _ hp0 (fun b o e => ?_) ⟨l, ns, 0, 0, 0, 0, 0, upd_same, by rw [upd_ne nlp]; exact upd_same, hl, nlp, ⟨by decide, by decide, by decide, by decide, by decide, by decide⟩⟩
    rw [upd_ne (ne_of_none e hp0), upd_ne (ne_of_none e hl0)]
    exact e
end
end K00

set_option Elab.async false
set_option linter.all false
set_option maxRecDepth 100000
set_option maxHeartbeats 4000000
namespace K00
open PySem L2
section
variable {P : Program} {w : World} {K : PySem.W.Frag} {mg : Str → Option Value} {base : Heap}
abbrev s_take : Stmt := top 58
theorem sc_take : FnScope ["_law_store_here", "_law_many", "_law_cell", "_law_got", "_law_once", "_law_twice"] ["_law_store_here", "_law_many"] (defScope s_take) := ⟨rfl, rfl, rfl, by decide +kernel, rfl, by decide +kernel, by decide +kernel⟩
theorem ten18 : (10 : Int) ^ (18 : Int).toNat = 1000000000000000000 := by decide
theorem ten9 : (10 : Int) ^ (9 : Int).toNat = 1000000000 := by decide
theorem cdiv_of {i j : Int} (h : 0 < j) (h2 : j < 9223372036854775808) : CDivW i j := wide_div h (b := 63) (by omega) (by decide) (by decide)
theorem cmul_of {i j : Int} (a : -2305843009213693952 < i ∧ i < 2305843009213693952) (b : -9223372036854775808 < j ∧ j < 9223372036854775808) : CMulW i j :=
  wide_mul (a := 61) (b := 63) (by omega) (by omega) (by decide) (by decide) (by decide)
theorem ok_take_step {n : Nat} {f : Addr} {fd : FuncData} (F : Fun K "_law_take" "_law_take" s_take f fd) (T : Txt K mg) (C : Callee P w K mg base CX0 (n + 1) "_law_take" ["_law_store_here", "_law_many"] (spTake n))
    (hbig : ∀ m : Int, 0 ≤ m → m ≤ lim n → m.natAbs < 2 ^ 9000) :
    FnOk P w K mg base CX0 (n + 2) f fd ["_law_store_here", "_law_many"] (spTake (n + 1)) := by
  refine F.ok sc_take (fun vs H Q E h => ?_) (fun cdv A outer s H vs Q E hr h => ?_)
  · obtain ⟨a, ns, rfl, _⟩ := h
    rfl
  · obtain ⟨st, m, rfl, ⟨l, ns, i, b, c, d, e, hst, hl, hlen, lne, N⟩, hm, k⟩ := h
    refine ⟨_, (pss_cons (ps_if (pt_cmpR op_lt (pv 1) pe_int (nomark _)) (pss_one (ps_ret pe_int)) pss_nil)
  (pss_cons (ps_asg (pe_op op_add (pe_ix ix_list (pv 0) pe_int (fun _ _ => rfl)) pe_int) (pg_sub (pv 0) pe_int set_list))
  (C8.pss_cut (ps_if (PW.pt (pw_and (pt_cmpR op_eq (pe_ix ix_list (pv 0) pe_int (fun _ _ => rfl)) pe_int (nomark _)) (pw_and (pt_cmpR op_eq (pe_ix ix_list (pv 0) pe_int (fun _ _ => rfl)) pe_int (nomark _)) (pw_and1 (pt_cmpR op_lt (pe_ix ix_list (pv 0) pe_int (fun _ _ => rfl)) (pe_callB call_len_seq (by rfl) T.len PySem.boot_len (pa_cons (pe_ix ix_list (pv 0) pe_int (fun _ _ => rfl)) pa_nil)) (nomark _)))))) (pss_cons (ps_set (i := 2) sc_take.nd rfl (Or.inl rfl) (pe_callTy call_int1 (by rfl) T.int (by decide +kernel) (pa_cons (pe_ix ix_list (pe_ix ix_list (pv 0) pe_int (fun _ _ => rfl)) (pe_ix ix_list (pv 0) pe_int (fun _ _ => rfl)) (fun _ _ => rfl)) pa_nil)))
  (pss_cons (ps_asg (pe_op op_add (pe_ix ix_list (pv 0) pe_int (fun _ _ => rfl)) pe_int) (pg_sub (pv 0) pe_int set_list))
  (pss_cons (ps_asg (pe_op op_mod (pe_callTy call_int1 (by rfl) T.int (by decide +kernel) (pa_cons (pe_op op_add (pe_op op_add (pe_op op_mulW (pe_ix ix_list (pv 0) pe_int (fun _ _ => rfl)) pe_int) (pv 2)) pe_int) pa_nil)) pe_int) (pg_sub (pv 0) pe_int set_list))
  (pss_one (ps_if (pt_cmpR op_ge (pe_callB (call_max2 rfl) (by rfl) T.max (by decide +kernel) (pa_cons (pv 2) (pa_cons (pe_un un_neg (pv 2)) pa_nil))) (pe_op op_pow pe_int pe_int) (nomark _)) (pss_one (ps_asg (pe_callB (call_max2 rfl) (by rfl) T.max (by decide +kernel) (pa_cons (pv 2) (pa_cons (pe_un un_neg (pv 2)) pa_nil))) (pg_sub (pv 0) pe_int set_list))) (pss_one (ps_asg pe_int (pg_sub (pv 0) pe_int set_list)))))))) pss_nil)
  (pss_cons (ps_if (pt_cmpR op_gt (pe_ix ix_list (pv 0) pe_int (fun _ _ => rfl)) pe_int (nomark _)) (pss_cons (ps_set (i := 3) sc_take.nd rfl (Or.inl rfl) (pe_op op_mod (pe_callTy call_int1 (by rfl) T.int (by decide +kernel) (pa_cons (pe_ix ix_list (pv 0) pe_int (fun _ _ => rfl)) pa_nil)) (pv 1)))
  (pss_cons (ps_asg (pe_op op_fdivW (pe_ix ix_list (pv 0) pe_int (fun _ _ => rfl)) (pv 1)) (pg_sub (pv 0) pe_int set_list))
  (pss_one (ps_ret (pv 3))))) pss_nil)
  (pss_cons (ps_if (pt_cmpR op_gt (pv 1) (pe_op op_pow pe_int pe_int) (nomark _)) (pss_cons (ps_set (i := 3) sc_take.nd rfl (Or.inl rfl) (pe_fn C hr (by rfl) pass0 (pa_cons (pv 0) (pa_cons (pe_op op_pow pe_int pe_int) pa_nil))))
  (pss_one (ps_ret (pe_op op_mod (pe_callTy call_int1 (by rfl) T.int (by decide +kernel) (pa_cons (pe_op op_add (pv 3) (pe_op op_mulW (pe_op op_pow pe_int pe_int) (pe_fn C hr (by rfl) pass0 (pa_cons (pv 0) (pa_cons (pe_op op_add (pe_op op_fdivW (pv 1) (pe_op op_pow pe_int pe_int)) pe_int) pa_nil))))) pa_nil)) (pv 1))))) pss_nil)
  (pss_cons (ps_asg (pe_callB (call_max2 rfl) (by rfl) T.max (by decide +kernel) (pa_cons pe_int (pa_cons (pe_op op_sub (pe_ix ix_list (pv 0) pe_int (fun _ _ => rfl)) pe_int) pa_nil))) (pg_sub (pv 0) pe_int set_list))
  (pss_cons (ps_set (i := 4) sc_take.nd rfl (Or.inl rfl) (pe_op op_add (pe_op op_add (pe_op op_mulW (pe_ix ix_list (pv 0) pe_int (fun _ _ => rfl)) pe_int) (pe_op op_mul (pe_ix ix_list (pv 0) pe_int (fun _ _ => rfl)) pe_int)) pe_int))
  (pss_cons (ps_set (i := 4) sc_take.nd rfl (Or.inl rfl) (pe_op op_mod (pe_callTy call_int1 (by rfl) T.int (by decide +kernel) (pa_cons (pv 4) pa_nil)) pe_int))
  (pss_cons (ps_asg (pv 4) (pg_sub (pv 0) pe_int set_list))
  (pss_cons (ps_set (i := 5) sc_take.nd rfl (Or.inl rfl) (pe_op op_mod (pe_callTy call_int1 (by rfl) T.int (by decide +kernel) (pa_cons (pe_op op_add (pe_op op_add (pe_op op_mulW (pv 4) (pv 4)) (pe_op op_fdivW (pv 4) pe_int)) (pe_ix ix_list (pv 0) pe_int (fun _ _ => rfl))) pa_nil)) pe_int))
  (pss_one (ps_ret (pe_op op_mod (pe_callTy call_int1 (by rfl) T.int (by decide +kernel) (pa_cons (pe_op op_fdivW (pv 5) pe_int) pa_nil)) (pv 1)))))))))))))), ?_⟩
    refine ⟨_, rfl, _, _, rfl, rfl, _, rfl, ?_⟩
    refine ite2 (fun h2 => ?_) (fun h2 => ?_)
    · have h2' : m < 2 := of_decide_eq_true h2
      exact k 0 H ⟨by omega, .inr ⟨h2', rfl⟩⟩ (StAt.ext ⟨l, ns, i, b, c, d, e, hst, hl, hlen, lne, N⟩)
    have h2' : ¬ m < 2 := fun z => h2 (decide_eq_true z)
    -- store[5] = store[5] + 1
    refine ⟨_, rfl, _, _, _, _, rfl, rfl, SqL.of hst, rfl, _, _, rfl, rfl, ?_⟩
    refine ⟨_, rfl, _, _, _, _, rfl, rfl, hst, rfl, ?_⟩
    generalize eH1 : upd H st _ = H1
    have h1 : H1 st = some (.lst (cells l i b c d (e + 1))) := by rw [← eH1]; exact upd_same
    have o1 : ∀ a, a ≠ st → H1 a = H a := fun a na => by rw [← eH1]; exact upd_ne na
    have hl1 : H1 l = some (.lst (ns.map V.int)) := by rw [o1 l lne]; exact hl
    clear eH1
    have N1 : Nums i b c d (e + 1) := ⟨N.hi, N.hb, N.hc, N.hd, N.hd2, by have := N.he; omega⟩
    -- the first if: what joins
    refine ⟨fun σ H2 => ∃ (v : Option V) (i b c d : Int), σ = [some (.ref st), some (.int m), v, none, none, none] ∧ H2 st = some (.lst (cells l i b c d (e + 1))) ∧ (∀ a, a ≠ st → H2 a = H a) ∧ Nums i b c d (e + 1), ?_, ?_⟩
    · refine ⟨_, rfl, _, _, _, _, rfl, rfl, SqL.of h1, rfl, rfl, _, rfl, ?_⟩
      refine ite2 (fun q2 => ?_) (fun _ => ⟨_, i, b, c, d, rfl, h1, o1, N1⟩)
      refine ⟨_, rfl, _, _, _, _, rfl, rfl, SqL.of h1, rfl, rfl, _, rfl, ?_⟩
      refine ite2 (fun q3 => ?_) (fun _ => ⟨_, i, b, c, d, rfl, h1, o1, N1⟩)
      refine ⟨_, rfl, _, _, _, _, rfl, rfl, SqL.of h1, rfl, _, rfl, _, _, _, _, rfl, rfl, SqL.of h1, rfl, _, _, rfl, .inl (SqL.of hl1), _, _, rfl, rfl, _, rfl, ?_⟩
      refine ite2 (fun q4 => ?_) (fun _ => ⟨_, i, b, c, d, rfl, h1, o1, N1⟩)
      have i4 : i < ((ns.map V.int).length : Int) := of_decide_eq_true q4
      have i4' : i.toNat < ns.length := by rw [List.length_map] at i4; have := N.hi; omega
      -- cell = int(store[0][store[1]])
      refine ⟨_, rfl, _, _, _, _, rfl, rfl, SqL.of h1, rfl, _, rfl, _, _, _, _, rfl, rfl, SqL.of h1, rfl, _, _, _, .int (ns[i.toNat]), rfl, rfl, SqL.of hl1, at_of (j := i.toNat) (by have := N.hi; omega) (by rw [List.getElem?_map, List.getElem?_eq_getElem i4']; rfl), .inl ⟨_, rfl, ?_⟩⟩
      generalize ns[i.toNat] = z
      -- store[1] += 1
      refine ⟨_, rfl, _, _, _, _, rfl, rfl, SqL.of h1, rfl, _, _, rfl, rfl, ?_⟩
      refine ⟨_, rfl, _, _, _, _, rfl, rfl, h1, rfl, ?_⟩
      generalize eH2 : upd H1 st _ = H2
      have h2 : H2 st = some (.lst (cells l (i + 1) b c d (e + 1))) := by rw [← eH2]; exact upd_same
      have o2 : ∀ a, a ≠ st → H2 a = H a := fun a na => by rw [← eH2, upd_ne na]; exact o1 a na
      clear eH2
      -- store[4] = ..
      refine ⟨_, rfl, _, _, _, _, rfl, rfl, SqL.of h2, rfl, _, _, rfl, rfl, cmul_of ⟨by have := N.hd; omega, by have := N.hd2; omega⟩ ⟨by decide, by decide⟩, _, rfl, _, _, rfl, rfl, _, _, rfl, rfl, .inl ⟨_, rfl, _, _, rfl, rfl, (by show (0 : Int) < 2305843009213693951; decide), ?_⟩⟩
      refine ⟨_, rfl, _, _, _, _, rfl, rfl, h2, rfl, ?_⟩
      generalize eH3 : upd H2 st _ = H3
      have h3 : H3 st = some (.lst (cells l (i + 1) b c ((d * 31 + z + 48611) % 2305843009213693951) (e + 1))) := by rw [← eH3]; exact upd_same
      have o3 : ∀ a, a ≠ st → H3 a = H a := fun a na => by rw [← eH3, upd_ne na]; exact o2 a na
      clear eH3
      have d0 := Int.emod_nonneg (d * 31 + z + 48611) (show (2305843009213693951 : Int) ≠ 0 by decide)
      have d1 := Int.emod_lt_of_pos (d * 31 + z + 48611) (show (0 : Int) < 2305843009213693951 by decide)
      generalize (d * 31 + z + 48611) % 2305843009213693951 = d' at h3 d0 d1
      have N3 : Nums (i + 1) b c d' (e + 1) := ⟨by have := N.hi; omega, N.hb, N.hc, d0, d1, N1.he⟩
      -- if max(cell, -cell) >= 10 ** 18
      refine ⟨_, rfl, _, rfl, _, rfl, _, _, rfl, _, _, rfl, rfl, ⟨by decide, by decide, by decide⟩, _, _, rfl, rfl, _, rfl, ?_⟩
      refine ite2 (fun q5 => ?_) (fun _ => ?_)
      · refine ⟨_, rfl, _, rfl, _, rfl, _, _, rfl, ?_⟩
        refine ⟨_, rfl, _, _, _, _, rfl, rfl, h3, rfl, ?_⟩
        refine ⟨_, i + 1, _, c, d', rfl, upd_same, fun a na => by rw [upd_ne na]; exact o3 a na, ⟨N3.hi, ?_, N.hc, d0, d1, N1.he⟩⟩
        by_cases hz : -z > z
        · rw [if_pos hz]; omega
        · rw [if_neg hz]; omega
      · refine ⟨_, rfl, _, _, _, _, rfl, rfl, h3, rfl, ?_⟩
        exact ⟨_, i + 1, b, _, d', rfl, upd_same, fun a na => by rw [upd_ne na]; exact o3 a na, ⟨N3.hi, N.hb, by decide, d0, d1, N1.he⟩⟩
    · have hst0 : ∀ l' r, H st = some (.lst (V.ref l' :: r)) → l' = l := fun l' r h => by
        rw [hst] at h
        cases h
        rfl
      clear h1 o1 hl1 N1 H1 hst N i b c d
      rintro σ H1 ⟨v, i, b, c, d, rfl, h1, o1, N⟩
      have hl1 : H1 l = some (.lst (ns.map V.int)) := by rw [o1 l lne]; exact hl
      have done : ∀ (i b c d : Int) (H2 : Hp), H2 st = some (.lst (cells l i b c d (e + 1))) → (∀ a, a ≠ st → H2 a = H a) → Nums i b c d (e + 1) → Ext st H H2 := fun i b c d H2 h2 o2 N2 =>
        ⟨fun a o na ha => by rw [o2 a na]; exact ha, ⟨l, ns, i, b, c, d, e + 1, h2, by rw [o2 l lne]; exact hl, hlen, lne, N2⟩, fun l' r h => by rw [hst0 l' r h]; exact ⟨_, h2⟩⟩
      have m2 : 2 ≤ m := by omega
      -- if store[2] > 0
      refine ⟨_, rfl, _, _, _, _, rfl, rfl, SqL.of h1, rfl, _, _, rfl, rfl, _, rfl, ?_⟩
      refine ite2 (fun q2 => ?_) (fun _ => ?_)
      · refine ⟨_, rfl, _, _, _, _, rfl, rfl, SqL.of h1, rfl, .inl ⟨_, rfl, _, rfl, _, _, rfl, rfl, (by show (0 : Int) < m; omega), ?_⟩⟩
        refine ⟨_, rfl, _, _, _, _, rfl, rfl, SqL.of h1, rfl, _, rfl, _, _, rfl, rfl, wide_div (by omega) (hbig m (by omega) hm) (by decide) (by decide), ?_⟩
        refine ⟨_, rfl, _, _, _, _, rfl, rfl, h1, rfl, ?_⟩
        refine ⟨_, rfl, k _ _ ⟨Int.emod_nonneg _ (by omega), .inl (Int.emod_lt_of_pos _ (by omega))⟩ (done _ _ _ _ _ upd_same (fun a na => by rw [upd_ne na]; exact o1 a na) ⟨N.hi, ?_, N.hc, N.hd, N.hd2, N.he⟩)⟩
        exact Int.ediv_nonneg N.hb (by omega)
      -- if many > 10 ** 9
      refine ⟨_, rfl, _, _, rfl, rfl, ⟨by decide, by decide, by decide⟩, _, _, rfl, rfl, _, rfl, ?_⟩
      refine ite2 (fun q3 => ?_) (fun _ => ?_)
      · have m9 : 1000000000 < m := by have := of_decide_eq_true q3; rw [ten9] at this; exact this
        cases n with
        | zero => exact absurd hm (by show ¬ m ≤ 1000000000; omega)
        | succ n =>
          have lb := lim_big n
          have hm' : m ≤ (lim n - 1) * 1000000000 := hm
          refine ⟨_, rfl, _, _, rfl, rfl, ⟨by decide, by decide, by decide⟩, st, 1000000000, rfl, (done _ _ _ _ _ h1 o1 N).at_, lb, fun r H2 hr2 x2 => ?_⟩
          refine ⟨_, rfl, _, _, rfl, rfl, ⟨by decide, by decide, by decide⟩, _, rfl, _, rfl, _, _, rfl, rfl, ⟨by decide, by decide, by decide⟩, _, _, rfl, rfl, cdiv_of (by decide) (by decide), _, _, rfl, rfl, st, m / 1000000000 + 1, rfl, x2.at_, by omega, fun r2 H3 hr3 x3 => ?_⟩
          have r2b : r2.natAbs < 2 ^ 9000 := by
            have z := hr3.1
            have z2 : r2 ≤ m := by rcases hr3.2 with y | y <;> omega
            have z3 := hbig m (by omega) hm
            exact Nat.lt_of_le_of_lt (by omega) z3
          refine ⟨_, _, rfl, rfl, wide_mul (a := 30) (b := 9000) (by decide) r2b (by decide) (by decide) (by decide), _, _, rfl, rfl, .inl ⟨_, rfl, _, rfl, _, _, rfl, rfl, (by show (0 : Int) < m; omega), ?_⟩⟩
          refine k _ _ ⟨Int.emod_nonneg _ (by omega), .inl (Int.emod_lt_of_pos _ (by omega))⟩ ?_
          have x3' := (x2.trans x3)
          exact (done _ _ _ _ _ h1 o1 N).trans x3'
      -- store[3] = max(0, store[3] - 1)
      refine ⟨_, rfl, _, _, _, _, rfl, rfl, SqL.of h1, rfl, _, _, rfl, rfl, _, _, rfl, ?_⟩
      refine ⟨_, rfl, _, _, _, _, rfl, rfl, h1, rfl, ?_⟩
      have c0 : 0 ≤ (if c - 1 > 0 then c - 1 else 0) := by
        by_cases hz : c - 1 > 0
        · rw [if_pos hz]; omega
        · rw [if_neg hz]; omega
      generalize (if c - 1 > 0 then c - 1 else 0) = c' at c0
      generalize eH2 : upd H1 st _ = H2
      have h2 : H2 st = some (.lst (cells l i b c' d (e + 1))) := by rw [← eH2]; exact upd_same
      have o2 : ∀ a, a ≠ st → H2 a = H a := fun a na => by rw [← eH2, upd_ne na]; exact o1 a na
      clear eH2
      -- once
      refine ⟨_, rfl, _, _, _, _, rfl, rfl, SqL.of h2, rfl, _, _, rfl, rfl, cmul_of ⟨by have := N.hd; omega, by have := N.hd2; omega⟩ ⟨by decide, by decide⟩, _, rfl, _, _, _, _, rfl, rfl, SqL.of h2, rfl, _, _, rfl, rfl, .inr ⟨by decide, by decide⟩, _, _, rfl, rfl, _, _, rfl, rfl, ?_⟩
      have dy : ∃ y, y = d * 3935559000370003845 + (e + 1) * 2691343689449507681 + 1442695040888963407 := ⟨_, rfl⟩
      obtain ⟨y, ey⟩ := dy
      refine ⟨_, rfl, .inl ⟨_, rfl, _, _, rfl, rfl, (by show (0 : Int) < 2305843009213693951; decide), ?_⟩⟩
      have d0 := Int.emod_nonneg y (show (2305843009213693951 : Int) ≠ 0 by decide)
      have d1 := Int.emod_lt_of_pos y (show (0 : Int) < 2305843009213693951 by decide)
      rw [ey] at d0 d1
      refine ⟨_, rfl, _, rfl, _, _, _, _, rfl, rfl, h2, rfl, ?_⟩
      generalize eH3 : upd H2 st _ = H3
      have h3 : H3 st = some (.lst (cells l i b c' ((d * 3935559000370003845 + (e + 1) * 2691343689449507681 + 1442695040888963407) % 2305843009213693951) (e + 1))) := by rw [← eH3]; exact upd_same
      have o3 : ∀ a, a ≠ st → H3 a = H a := fun a na => by rw [← eH3, upd_ne na]; exact o2 a na
      clear eH3
      refine ⟨_, rfl, _, rfl, _, _, rfl, rfl, cmul_of ⟨by omega, by omega⟩ ⟨by omega, by omega⟩, _, rfl, _, _, rfl, rfl, cdiv_of (by decide) (by decide), _, _, rfl, rfl, _, rfl, _, _, _, _, rfl, rfl, SqL.of h3, rfl, _, _, rfl, rfl, .inl ⟨_, rfl, _, _, rfl, rfl, (by show (0 : Int) < 2305843009213693951; decide), ?_⟩⟩
      refine ⟨_, rfl, _, _, rfl, rfl, cdiv_of (by decide) (by decide), .inl ⟨_, rfl, _, rfl, _, _, rfl, rfl, (by show (0 : Int) < m; omega), ?_⟩⟩
      exact k _ _ ⟨Int.emod_nonneg _ (by omega), .inl (Int.emod_lt_of_pos _ (by omega))⟩ (done _ _ _ _ _ h3 o3 ⟨N.hi, N.hb, c0, d0, d1, N.he⟩)
theorem lim_lt : ∀ n, lim n < 2 ^ (30 * (n + 1))
  | 0 => by decide
  | n + 1 => by
    have h := lim_lt n
    have lb := lim_big n
    show (lim n - 1) * 1000000000 < (2 : Int) ^ (30 * (n + 1 + 1))
    have e : (2 : Int) ^ (30 * (n + 1 + 1)) = 2 ^ (30 * (n + 1)) * 1073741824 := by
      rw [show 30 * (n + 1 + 1) = 30 * (n + 1) + 30 by omega, Int.pow_add]
      rfl
    rw [e]
    generalize (2 : Int) ^ (30 * (n + 1)) = B at h
    omega
theorem ok_take {f : Addr} {fd : FuncData} (F : Fun K "_law_take" "_law_take" s_take f fd) (T : Txt K mg) (hm : mg "_law_take" = some (.ref f)) (hb : Binds K fd ["_law_store_here", "_law_many"] []) : ∀ n, n ≤ 200 → FnOk P w K mg base CX0 (n + 1) f fd ["_law_store_here", "_law_many"] (spTake n)
  | 0, _ => ⟨fun _ _ _ _ h => h.elim, fun _ _ _ _ _ _ _ _ _ _ _ _ _ h => h.elim⟩
  | n + 1, hn => by
    refine ok_take_step F T ⟨f, fd, ok_take F T hm hb n (by omega), hm, F.kp, hb⟩ fun m h0 h1 => ?_
    have z := lim_lt n
    have e : (2 : Int) ^ (30 * (n + 1)) ≤ 2 ^ 9000 := by
      have q : (2 : Nat) ^ (30 * (n + 1)) ≤ 2 ^ 9000 := Nat.pow_le_pow_right (by decide) (by omega)
      exact_mod_cast q
    have y : m < (2 : Int) ^ 9000 := by omega
    have y2 : ((m.natAbs : Nat) : Int) < ((2 ^ 9000 : Nat) : Int) := by
      rw [Int.natAbs_of_nonneg h0]
      exact_mod_cast y
    exact_mod_cast y2
end
end K00

set_option Elab.async false
set_option linter.all false
set_option maxRecDepth 100000
set_option maxHeartbeats 4000000
namespace PySem.W
open PySem PySem.Calls PySem.NumText PyProof.Rows
namespace WIN
/-- the limit of digits: asked for a long text -/
theorem text_any {K : Frag} {M : Model} {A : Around} {E : Value → Shared → Prop} {s : Shared} {Q : Value → Shared → Prop} {v : Value} {x : PySem.Str} {n : Int} (X : K.In s.heap)
    (hz : nsIn K cStatics "sys.int_max_str_digits" = some none) (hr : (int_private% "readNumeral") (numLimitOf x) 10 (numSeenOf x) = (int_private% "Numeral.value") n)
    (ha : ((numSeenOf x).length == (numTextOf x).length) = true) (h : Q (.int n s.toks) { s with toks := s.toks + 1 }) :
    wpAny M A ((int_private% "intFromText") v (numTextOf x) 10) Q E s := by
  by_cases hl : (numSeenOf x).length ≤ 640
  · have e : numLimitOf x = 0 := if_pos hl
    rw [e] at hr
    exact KIN.wp_text hl hr ha h
  · have e : numLimitOf x = 4300 := if_neg hl
    rw [e] at hr
    have lim : ∀ {Q : Nat → Shared → Prop}, Q 4300 s → wpAny M A Builtin.intMaxStrDigits Q E s := fun {Q} q => by
      unfold Builtin.intMaxStrDigits
      exact wpAny_bind ((looks_nsIn X hz).here (wpAny_pure q))
    show wpAny M A (do
      let limit ← if (numSeenOf x).length ≤ 640 then pure 0 else Builtin.intMaxStrDigits
      _) Q E s
    dsimp only
    rw [if_neg hl]
    refine wpAny_bind (lim ?_)
    rw [hr]
    dsimp only
    rw [if_pos ha]
    obtain ⟨hp, g, d, tk, os⟩ := s
    repeat (any_goals (first
      | assumption
      | wp_step))
structure Hid (p : Prop) : Prop where
  out : p
set_option maxHeartbeats 8000000 in
theorem new_any {K : Frag} {x : PySem.Str} {u : Tok} {n : Int} (hz : nsIn K cStatics "sys.int_max_str_digits" = some none) (hl : x.length ≤ 4300) (hn : PySem.intText? x = some n) :
    Meets (Builtin.«int.__new__» ⟨[.type "int", .str x u], []⟩) (fun _ R s => K.In s.heap ∧ (Made.int n).post (fun v s' => R (.ok (.ret v)) s') s) :=
  .of_wp fun prog w A R s h => by
    obtain ⟨X, h⟩ := h
    obtain ⟨hp, g, d, tk, os⟩ := s
    have f1 := F.conv_sub_int
    have f2 := F.madeHere_int
    have f3 := KIN.str_int
    have f4 := KIN.str_idx
    have f5 := KIN.str_trunc
    have f6 : typeOf (.str x u) = pure (.type "str") := rfl
    have hr : (int_private% "readNumeral") (numLimitOf x) 10 (numSeenOf x) = (int_private% "Numeral.value") n ∧ ((numSeenOf x).length == (numTextOf x).length) = true := by
      rcases readAny x (by rw [sizeLine_eq]; omega) with ⟨m, h1, h2, h3⟩ | ⟨h1, _⟩
      · rw [hn] at h1
        injection h1 with h1
        subst h1
        exact ⟨h3, h2⟩
      · rw [hn] at h1
        cases h1
    have hk := Hid.mk (And.intro X hr)
    clear hr hl hn X
    repeat (any_goals (first
      | assumption
      | ((with_reducible show wpAny _ _ ((int_private% "intFromText") _ _ _) _ _ _); refine text_any hk.out.1 hz hk.out.2.1 hk.out.2.2 ?_)
      | wp_step))
    all_goals first | exact ⟨_, rfl, h⟩ | skip
end WIN
end PySem.W
namespace K00
open PySem L2
theorem call_int_text {X : Cx} (hz : PySem.W.nsIn X.K cStatics "sys.int_max_str_digits" = some none) : CallR X (.type "int") (fun xs H Q => ∃ a n, xs = [.str a] ∧ PySem.intText? a = some n ∧ a.length ≤ 4300 ∧ Q (.int n) H) := by
  intro pins s σ H xs us Q I rs h
  obtain ⟨a, n, rfl, hn, hl, h⟩ := h
  cases rs with
  | cons r1 rs =>
    cases rs
    obtain ⟨t, rfl⟩ := r1
    exact call_int_1 (PySem.W.WIN.new_any hz hl hn) ⟨I.kIn, rfl, .int n, H, I.tok _, ⟨_, rfl⟩, h⟩
/-- text * int -/
theorem op_rep_str {X : Cx} : OpR X (binaryOp .Mult) (fun x y H Q => ∃ c n, x = .str ⟨#[c]⟩ ∧ y = .int n ∧ 0 ≤ n ∧ n ≤ 4000 ∧ Q (.str ⟨(List.replicate n.toNat c).toArray⟩) H) := by
  intro pins s σ H x y v u Q I rx ry h
  obtain ⟨c, n, rfl, rfl, h0, h1, q⟩ := h
  obtain ⟨t, rfl⟩ := rx
  obtain ⟨t', rfl⟩ := ry
  have fold : ∀ (k : Nat) (acc : Array Nat), (List.replicate k (#[c] : Array Nat)).foldl (· ++ ·) acc = acc ++ (List.replicate k c).toArray := fun k => by
    induction k with
    | zero => intro acc; simp
    | succ k ih =>
      intro acc
      rw [List.replicate_succ, List.foldl_cons, ih, List.replicate_succ]
      apply Array.toList_inj.mp
      simp
  refine PySem.P.mul_str (by rw [decide_eq_false (by omega), decide_eq_false (by omega)]; rfl) (fun hn hx => ?_) (fun hn hx => ?_) ?_
  · show ¬ ((1 : Nat) : Int) > (2 ^ 63 - 1) / n
    have : (1 : Int) ≤ (2 ^ 63 - 1) / n := Int.le_ediv_of_mul_le (by omega) (by omega)
    omega
  · exact decide_eq_false (by show ¬ 1 * n.toNat > sizeLine; rw [sizeLine_eq]; omega)
  · have e := fold n.toNat #[]
    have e2 : (⟨(List.replicate n.toNat (#[c] : Array Nat)).foldl (· ++ ·) #[]⟩ : Str) = ⟨(List.replicate n.toNat c).toArray⟩ := by rw [e]; simp
    by_cases hn : n < 1
    · rw [if_pos hn]
      have e : n = 0 := by omega
      subst e
      exact ⟨by decide, ⟨.str ⟨#[]⟩, H, I.tok _, ⟨_, rfl⟩, q⟩⟩
    · rw [if_neg hn]
      by_cases hx : (n == 1 || (⟨#[c]⟩ : Str).length == 0) = true
      · rw [if_pos hx]
        have e : n = 1 := by simpa [PySem.Str.length] using hx
        subst e
        exact ⟨.str ⟨#[c]⟩, H, I, ⟨_, rfl⟩, q⟩
      · rw [if_neg hx]
        have e3 : (⟨(List.replicate n.toNat (⟨#[c]⟩ : Str).cps).foldl (· ++ ·) #[]⟩ : Str) = ⟨(List.replicate n.toNat c).toArray⟩ := e2
        rw [e3]
        refine ⟨?_, ⟨.str ⟨(List.replicate n.toNat c).toArray⟩, H, I.tok _, ⟨_, rfl⟩, q⟩⟩
        show (List.replicate n.toNat c).toArray.size ≤ sizeLine
        rw [List.size_toArray, List.length_replicate, sizeLine_eq]
        omega
end K00

set_option Elab.async false
set_option linter.all false
set_option maxRecDepth 100000
set_option maxHeartbeats 4000000
namespace K00
open PySem L2
theorem op_fdivZ {X : Cx} : OpR X (binaryOp .FloorDiv) (rI (fun _ j => j ≠ 0 ∧ j.natAbs < 2 ^ 9000) fun i j => .int (i.fdiv j)) := opI fun i j _ _ _ _ _ hc q => by
  have h2 : j.natAbs.log2 < 9000 := PySem.Flt.log2_lt_of (by decide) hc.2
  exact PyProof.Rows.floordiv_int hc.1 q (.inl (PyProof.noPylong_of_log2 h2))
/-! ### lowest terms -/
def lowG (u d : Int) : Int := if d < 0 then -((Nat.gcd u.natAbs d.natAbs : Nat) : Int) else ((Nat.gcd u.natAbs d.natAbs : Nat) : Int)
def lowN (u d : Int) : Int := u.fdiv (lowG u d)
def lowD (u d : Int) : Int := d.fdiv (lowG u d)
theorem lowG_ne {u d : Int} (h : d ≠ 0) : lowG u d ≠ 0 := by
  have g : Nat.gcd u.natAbs d.natAbs ≠ 0 := fun z => h (Int.natAbs_eq_zero.mp (Nat.eq_zero_of_gcd_eq_zero_right z))
  unfold lowG
  split <;> omega
theorem lowG_abs {u d : Int} : (lowG u d).natAbs = Nat.gcd u.natAbs d.natAbs := by
  unfold lowG
  split <;> simp
theorem lowG_dvd_u {u d : Int} : lowG u d ∣ u := by
  rw [← Int.natAbs_dvd_natAbs, lowG_abs]
  exact Nat.gcd_dvd_left _ _
theorem lowG_dvd_d {u d : Int} : lowG u d ∣ d := by
  rw [← Int.natAbs_dvd_natAbs, lowG_abs]
  exact Nat.gcd_dvd_right _ _
theorem lowN_mul {u d : Int} : lowN u d * lowG u d = u := by
  unfold lowN
  rw [Int.fdiv_eq_ediv_of_dvd lowG_dvd_u]
  exact Int.ediv_mul_cancel lowG_dvd_u
theorem lowD_mul {u d : Int} : lowD u d * lowG u d = d := by
  unfold lowD
  rw [Int.fdiv_eq_ediv_of_dvd lowG_dvd_d]
  exact Int.ediv_mul_cancel lowG_dvd_d
theorem lowD_pos {u d : Int} (h : d ≠ 0) : 0 < lowD u d := by
  have e := lowD_mul (u := u) (d := d)
  have hs : (0 < d ∧ 0 < lowG u d) ∨ (d < 0 ∧ lowG u d < 0) := by
    have g : Nat.gcd u.natAbs d.natAbs ≠ 0 := fun z => h (Int.natAbs_eq_zero.mp (Nat.eq_zero_of_gcd_eq_zero_right z))
    unfold lowG
    by_cases q : d < 0
    · rw [if_pos q]; right; omega
    · rw [if_neg q]; left; omega
  rcases hs with ⟨a, b⟩ | ⟨a, b⟩
  · by_cases q : 0 < lowD u d
    · exact q
    · have := Int.mul_nonpos_of_nonpos_of_nonneg (show lowD u d ≤ 0 by omega) (show 0 ≤ lowG u d by omega)
      omega
  · by_cases q : 0 < lowD u d
    · exact q
    · have := Int.mul_nonneg_of_nonpos_of_nonpos (show lowD u d ≤ 0 by omega) (show lowG u d ≤ 0 by omega)
      omega
theorem low_abs_n {u d : Int} : (lowN u d).natAbs * Nat.gcd u.natAbs d.natAbs = u.natAbs := by
  have e := congrArg Int.natAbs (lowN_mul (u := u) (d := d))
  rw [Int.natAbs_mul, lowG_abs] at e
  exact e
theorem low_abs_d {u d : Int} : (lowD u d).natAbs * Nat.gcd u.natAbs d.natAbs = d.natAbs := by
  have e := congrArg Int.natAbs (lowD_mul (u := u) (d := d))
  rw [Int.natAbs_mul, lowG_abs] at e
  exact e
theorem low_cop {u d : Int} (h : d ≠ 0) : Nat.gcd (lowN u d).natAbs (lowD u d).natAbs = 1 := by
  have g : 0 < Nat.gcd u.natAbs d.natAbs := Nat.pos_of_ne_zero fun z => h (Int.natAbs_eq_zero.mp (Nat.eq_zero_of_gcd_eq_zero_right z))
  have e := Nat.gcd_mul_right (lowN u d).natAbs (Nat.gcd u.natAbs d.natAbs) (lowD u d).natAbs
  rw [low_abs_n, low_abs_d] at e
  exact Nat.eq_of_mul_eq_mul_right g (by rw [← e, Nat.one_mul])
theorem low_le_n {u d : Int} : (lowN u d).natAbs ≤ u.natAbs := by
  by_cases h : d = 0
  · by_cases q : u = 0
    · subst h; subst q; decide
    · have e := low_abs_n (u := u) (d := d)
      have g : 0 < Nat.gcd u.natAbs d.natAbs := Nat.gcd_pos_of_pos_left _ (by omega)
      rw [← e]
      exact Nat.le_mul_of_pos_right _ g
  · have g : 0 < Nat.gcd u.natAbs d.natAbs := Nat.gcd_pos_of_pos_right _ (by omega)
    rw [← low_abs_n (u := u) (d := d)]
    exact Nat.le_mul_of_pos_right _ g
theorem low_le_d {u d : Int} (h : d ≠ 0) : (lowD u d).natAbs ≤ d.natAbs := by
  have g : 0 < Nat.gcd u.natAbs d.natAbs := Nat.gcd_pos_of_pos_right _ (by omega)
  rw [← low_abs_d (u := u) (d := d)]
  exact Nat.le_mul_of_pos_right _ g
theorem low_cross {u d : Int} : lowN u d * d = lowD u d * u := by
  have a := lowN_mul (u := u) (d := d)
  have b := lowD_mul (u := u) (d := d)
  calc lowN u d * d = lowN u d * (lowD u d * lowG u d) := by rw [b]
    _ = lowD u d * (lowN u d * lowG u d) := by rw [Int.mul_left_comm]
    _ = lowD u d * u := by rw [a]
/-- two ratios in lowest terms that are equal crosswise are one -/
theorem low_uniq {n d n' d' : Int} (h1 : 0 < d) (h2 : 0 < d') (c1 : Nat.gcd n.natAbs d.natAbs = 1) (c2 : Nat.gcd n'.natAbs d'.natAbs = 1) (e : n * d' = d * n') : n = n' ∧ d = d' := by
  have e' : n.natAbs * d'.natAbs = d.natAbs * n'.natAbs := by rw [← Int.natAbs_mul, ← Int.natAbs_mul, e]
  have a1 : d.natAbs ∣ d'.natAbs := by
    have q : d.natAbs ∣ n.natAbs * d'.natAbs := by rw [e']; exact Nat.dvd_mul_right _ _
    exact (Nat.Coprime.symm c1).dvd_of_dvd_mul_left q
  have a2 : d'.natAbs ∣ d.natAbs := by
    have q : d'.natAbs ∣ d.natAbs * n'.natAbs := by rw [← e']; exact Nat.dvd_mul_left _ _
    exact (Nat.Coprime.symm c2).dvd_of_dvd_mul_right q
  have ed : d = d' := by
    have := Nat.dvd_antisymm a1 a2
    omega
  subst ed
  refine ⟨?_, rfl⟩
  rw [Int.mul_comm d n'] at e
  exact Int.eq_of_mul_eq_mul_right (by omega) e
theorem low_self {n d : Int} (h : 0 < d) (c : Nat.gcd n.natAbs d.natAbs = 1) : lowN n d = n ∧ lowD n d = d := by
  have g : lowG n d = 1 := by
    unfold lowG
    rw [if_neg (by omega), c]
    rfl
  unfold lowN lowD
  rw [g]
  exact ⟨Int.fdiv_one n, Int.fdiv_one d⟩
/-- a ratio's value -/
def RatV (K : PySem.W.Frag) (H : Hp) (v : V) (n d : Int) : Prop := ∃ a, v = .ref a ∧ SqT K H a [.int n, .int d]
/-- in lowest terms, with a positive denominator -/
structure Lo (n d : Int) : Prop where
  pos : 0 < d
  cop : Nat.gcd n.natAbs d.natAbs = 1
theorem lo_low {u d : Int} (h : d ≠ 0) : Lo (lowN u d) (lowD u d) := ⟨lowD_pos h, low_cop h⟩
theorem sqT_ext {K : PySem.W.Frag} {st a : Addr} {H H' : Hp} {xs : List V} (hs : StAt H st) (x : Ext st H H') (h : SqT K H a xs) : SqT K H' a xs := by
  obtain ⟨l, ns, i, b, c, d, e, hst, _⟩ := hs
  rcases h with (h | ⟨o, h⟩) | h
  · exact .inl (.inl (x.old _ _ (ne_of h hst (by intro z; cases z)) h))
  · exact .inl (.inr ⟨o, x.old _ _ (ne_of h hst (by intro z; cases z)) h⟩)
  · exact .inr h
theorem sqT_same {K : PySem.W.Frag} {a : Addr} {H H' : Hp} {xs : List V} (e : Same H H') (h : SqT K H a xs) : SqT K H' a xs := by
  rcases h with (h | ⟨o, h⟩) | h
  · exact .inl (.inl (e _ _ h))
  · exact .inl (.inr ⟨o, e _ _ h⟩)
  · exact .inr h
theorem RatV.ext {K : PySem.W.Frag} {st : Addr} {H H' : Hp} {v : V} {n d : Int} (hs : StAt H st) (x : Ext st H H') : RatV K H v n d → RatV K H' v n d := fun ⟨a, e, h⟩ => ⟨a, e, sqT_ext hs x h⟩
theorem RatV.same {K : PySem.W.Frag} {H H' : Hp} {v : V} {n d : Int} (x : Same H H') : RatV K H v n d → RatV K H' v n d := fun ⟨a, e, h⟩ => ⟨a, e, sqT_same x h⟩
theorem StAt.same {H H' : Hp} {st : Addr} (x : Same H H') : StAt H st → StAt H' st := fun ⟨l, ns, i, b, c, d, e, h1, h2, h3⟩ => ⟨l, ns, i, b, c, d, e, x _ _ h1, x _ _ h2, h3⟩
theorem Ext.ofSame {H H' : Hp} {st : Addr} (hs : StAt H st) (x : Same H H') : Ext st H H' := ⟨fun b o _ h => x b o h, hs.same x, fun _ r h => ⟨r, x _ _ h⟩⟩
theorem Same.new {H : Hp} {p : Addr} {o : HO} (h : H p = none) : Same H (upd H p o) := fun b u e => by rw [upd_ne (ne_of_none e h)]; exact e
end K00

set_option Elab.async false
set_option linter.all false
set_option maxRecDepth 100000
set_option maxHeartbeats 4000000
namespace K00
open PySem L2
structure TxtD (K : PySem.W.Frag) (mg : Str → Option Value) : Prop extends Txt K mg where
  dig : PySem.W.nsIn K cStatics "sys.int_max_str_digits" = some none
def spEdge : Sp := fun vs H Q _ => ∃ (st : Addr) (m : Int), vs = [.ref st, .int m] ∧ StAt H st ∧ m ≤ lim 124 ∧ ∀ (r : Int) (H' : Hp), Rng r m → Ext st H H' → Q (.int r) H'
def spBetween : Sp := fun vs H Q _ => ∃ (st : Addr) (lo hi : Int), vs = [.ref st, .int lo, .int hi] ∧ StAt H st ∧ lo ≤ hi ∧ hi - lo < 1000000 ∧ ∀ (r : Int) (H' : Hp), lo ≤ r → r ≤ hi → Ext st H H' → Q (.int r) H'
def spTens : Sp := fun vs H Q _ => ∃ (n : Int), vs = [.int n] ∧ 0 ≤ n ∧ n ≤ 1000 ∧ Q (.int ((10 ^ n.toNat : Nat) : Int)) H
def spInteger : Sp := fun vs H Q _ => ∃ (st : Addr) (f : Int), vs = [.ref st, .int f] ∧ StAt H st ∧ 1 ≤ f ∧ f ≤ 1000 ∧ ∀ (r : Int) (H' : Hp), r.natAbs < 10 ^ f.toNat → Ext st H H' → Q (.int r) H'
theorem lim124 : ((10 ^ 1000 : Nat) : Int) ≤ lim 124 := by
  have h : ∀ n, ((10 ^ (9 + 8 * n) : Nat) : Int) ≤ lim n := by
    intro n
    induction n with
    | zero => decide
    | succ n ih =>
      have lb := lim_big n
      show _ ≤ (lim n - 1) * 1000000000
      have e : ((10 ^ (9 + 8 * (n + 1)) : Nat) : Int) = ((10 ^ (9 + 8 * n) : Nat) : Int) * 100000000 := by
        rw [show 9 + 8 * (n + 1) = (9 + 8 * n) + 8 by omega, Nat.pow_add]
        rfl
      rw [e]
      generalize ((10 ^ (9 + 8 * n) : Nat) : Int) = z at ih
      omega
  refine Int.le_trans ?_ (h 124)
  exact Int.ofNat_le.mpr (Nat.pow_le_pow_right (by decide) (by decide))
theorem lim124s {m : Int} (h : m ≤ 1000000000) : m ≤ lim 124 := by have := lim_big 124; omega
theorem int_eq {i j : Int} (h : decide (V.int i = V.int j) = true) : i = j := V.int.inj (of_decide_eq_true h)
theorem int_ne {i j : Int} (h : ¬ decide (V.int i = V.int j) = true) : i ≠ j := fun e => h (decide_eq_true (by rw [e]))
abbrev psT : List Str := ["_law_store_here", "_law_many"]
section
variable {P : Program} {w : World} {K : PySem.W.Frag} {mg : Str → Option Value} {base : Heap}
abbrev s_edge : Stmt := top 59
theorem sc_edge : FnScope ["_law_store_here", "_law_many"] ["_law_store_here", "_law_many"] (defScope s_edge) := ⟨rfl, rfl, rfl, by decide +kernel, rfl, by decide +kernel, by decide +kernel⟩
theorem ok_edge {f : Addr} {fd : FuncData} (F : Fun K "_law_edge" "_law_edge" s_edge f fd) (T : TxtD K mg) (c_take : Callee P w K mg base CX0 126 "_law_take" psT (spTake 125)) : FnOk P w K mg base CX0 127 f fd psT spEdge := by
  refine F.ok sc_edge (fun vs H Q E h => ?_) (fun cdv A outer s H vs Q E hr h => ?_)
  · obtain ⟨a, ns, rfl, _⟩ := h
    rfl
  · obtain ⟨st, m, rfl, hS, hm, k⟩ := h
    refine ⟨_, (pss_cons (ps_if (pt_cmpR op_lt (pv 1) pe_int (nomark _)) (pss_one (ps_ret pe_int)) pss_nil)
  (pss_cons (ps_if (pt_cmpR op_eq (pe_fn c_take (hr.mono (by decide)) (by rfl) pass0 (pa_cons (pv 0) (pa_cons pe_int pa_nil))) pe_int (nomark _)) (pss_one (ps_ret (pe_op op_mul (pe_op op_sub (pv 1) pe_int) (pe_fn c_take (hr.mono (by decide)) (by rfl) pass0 (pa_cons (pv 0) (pa_cons pe_int pa_nil)))))) pss_nil)
  (pss_one (ps_ret (pe_fn c_take (hr.mono (by decide)) (by rfl) pass0 (pa_cons (pv 0) (pa_cons (pv 1) pa_nil))))))), ?_⟩
    refine ⟨_, rfl, _, _, rfl, rfl, _, rfl, ite2 (fun h2 => ?_) (fun h2 => ?_)⟩
    · exact k 0 H ⟨by decide, .inr ⟨of_decide_eq_true h2, rfl⟩⟩ hS.ext
    have h2' : ¬ m < 2 := fun z => h2 (decide_eq_true z)
    refine ⟨_, rfl, st, 3, rfl, hS, lim124s (by decide), fun r H1 r1 x1 => ⟨rfl, _, rfl, ite2 (fun h3 => ?_) (fun h3 => ?_)⟩⟩
    · refine ⟨_, rfl, _, _, rfl, rfl, _, rfl, st, 2, rfl, x1.at_, lim124s (by decide), fun r2 H2 r2r x2 => ⟨_, _, rfl, rfl, .inr ?_, ?_⟩⟩
      · have := r2r.1
        have := r2r.2
        omega
      · refine k _ _ ?_ (x1.trans x2)
        have a := r2r.1
        have b := r2r.2
        have c : r2 = 0 ∨ r2 = 1 := by omega
        rcases c with c | c
        · subst c; exact ⟨by omega, .inl (by omega)⟩
        · subst c; exact ⟨by omega, .inl (by omega)⟩
    · exact ⟨_, rfl, _, rfl, st, m, rfl, x1.at_, hm, fun r H2 r2 x2 => k r H2 r2 (x1.trans x2)⟩
abbrev s_between : Stmt := top 60
theorem sc_between : FnScope ["_law_store_here", "_law_low_here", "_law_high"] ["_law_store_here", "_law_low_here", "_law_high"] (defScope s_between) := ⟨rfl, rfl, rfl, by decide +kernel, rfl, by decide +kernel, by decide +kernel⟩
abbrev psB : List Str := ["_law_store_here", "_law_low_here", "_law_high"]
theorem ok_between {f : Addr} {fd : FuncData} (F : Fun K "_law_between" "_law_between" s_between f fd) (T : TxtD K mg) (c_edge : Callee P w K mg base CX0 127 "_law_edge" psT spEdge) : FnOk P w K mg base CX0 128 f fd psB spBetween := by
  refine F.ok sc_between (fun vs H Q E h => ?_) (fun cdv A outer s H vs Q E hr h => ?_)
  · obtain ⟨_, _, _, rfl, _⟩ := h
    rfl
  · obtain ⟨st, lo, hi, rfl, hS, hl, hb, k⟩ := h
    refine ⟨_, (pss_one (ps_ret (pe_op op_add (pv 1) (pe_fn c_edge (hr.mono (by decide)) (by rfl) pass0 (pa_cons (pv 0) (pa_cons (pe_op op_add (pe_op op_sub (pv 2) (pv 1)) pe_int) pa_nil)))))), ?_⟩
    refine ⟨_, rfl, _, rfl, _, rfl, _, rfl, _, _, rfl, rfl, _, _, rfl, rfl, st, hi - lo + 1, rfl, hS, lim124s (by omega), fun r H1 r1 x1 => ⟨_, _, rfl, rfl, k _ _ ?_ ?_ x1⟩⟩
    · have := r1.1; omega
    · have := r1.1; have := r1.2; omega
abbrev s_tens : Stmt := top 61
theorem sc_tens : FnScope ["_law_figures"] ["_law_figures"] (defScope s_tens) := ⟨rfl, rfl, rfl, by decide +kernel, rfl, by decide +kernel, by decide +kernel⟩
theorem digits_zeros : ∀ (k acc : Nat), (List.replicate k 48).foldl (fun acc c => acc * 10 + (c - 48)) acc = acc * 10 ^ k
  | 0, acc => by simp
  | k + 1, acc => by
    rw [List.replicate_succ, List.foldl_cons, digits_zeros k]
    simp only [Nat.sub_self, Nat.add_zero, Nat.pow_succ]
    rw [Nat.mul_assoc, Nat.mul_comm 10]
theorem ok_tens {f : Addr} {fd : FuncData} (F : Fun K "_law_tens" "_law_tens" s_tens f fd) (T : TxtD K mg) : FnOk P w K mg base CX0 1 f fd ["_law_figures"] spTens := by
  refine F.ok sc_tens (fun vs H Q E h => ?_) (fun cdv A outer s H vs Q E hr h => ?_)
  · obtain ⟨_, rfl, _⟩ := h
    rfl
  · obtain ⟨n, rfl, h0, h1, k⟩ := h
    refine ⟨_, (pss_one (ps_ret (pe_callTy (call_int_text T.dig) (by rfl) T.int (by decide +kernel) (pa_cons (pe_op op_add_str pe_str (pe_op op_rep_str pe_str (pv 0))) pa_nil)))), ?_⟩
    have hcs : (Str.mk ((#[49] : Array Nat) ++ (List.replicate n.toNat 48).toArray)).cps.toList = 49 :: List.replicate n.toNat 48 := by simp
    have hlen : (Str.mk ((#[49] : Array Nat) ++ (List.replicate n.toNat 48).toArray)).length = n.toNat + 1 := by
      show ((#[49] : Array Nat) ++ (List.replicate n.toNat 48).toArray).size = _
      simp
      omega
    have hd : PySem.NumText.AllDigits (49 :: List.replicate n.toNat 48) := fun c hc => by
      rcases List.mem_cons.mp hc with e | e
      · omega
      · have := List.eq_of_mem_replicate e
        omega
    refine ⟨_, rfl, 48, _, rfl, rfl, h0, by omega, _, _, rfl, rfl, ?_, _, _, rfl, PySem.intText_digits (x := Str.mk ((#[49] : Array Nat) ++ (List.replicate n.toNat 48).toArray)) (by rw [hcs]; exact hd) (by rw [hcs]; simp) (by rw [hlen]; omega), by show (Str.mk ((#[49] : Array Nat) ++ (List.replicate n.toNat 48).toArray)).length ≤ 4300; rw [hlen]; omega, ?_⟩
    · show 1 + (List.replicate n.toNat 48).toArray.size ≤ sizeLine
      rw [List.size_toArray, List.length_replicate, sizeLine_eq]
      omega
    · rw [hcs]
      have e : PySem.NumText.digitsVal (49 :: List.replicate n.toNat 48) = 10 ^ n.toNat := by
        show (List.replicate n.toNat 48).foldl _ (0 * 10 + (49 - 48)) = _
        rw [digits_zeros]
        simp
      rw [e]
      exact k
end
end K00

set_option Elab.async false
set_option linter.all false
set_option maxRecDepth 100000
set_option maxHeartbeats 4000000
namespace K00
open PySem L2
def lowP (u d : Int) : Int × Int := if d = 0 then (0, 1) else (lowN u d, lowD u d)
def spLow : Sp := fun vs H Q _ => ∃ (u d : Int), vs = [.int u, .int d] ∧ u.natAbs < 2 ^ 9000 ∧ d.natAbs < 2 ^ 9000 ∧ ∀ p, H p = none → Q (.ref p) (upd H p (.tup [.int (lowP u d).1, .int (lowP u d).2]))
def sgn (n : Int) : Int := if 0 < n then 1 else if n < 0 then -1 else 0
def spSgn (K : PySem.W.Frag) : Sp := fun vs H Q _ => ∃ (a : Addr) (n : Int) (r : List V), vs = [.ref a] ∧ (SqL K H a (.int n :: r) ∨ SqT K H a (.int n :: r)) ∧ Q (.int (sgn n)) H
def spSmall (K : PySem.W.Frag) : Sp := fun vs H Q _ => ∃ (st : Addr), vs = [.ref st] ∧ StAt H st ∧ ∀ (v : V) (H' : Hp) (n d : Int), Ext st H H' → RatV K H' v n d → Lo n d → n.natAbs ≤ 4 → d ≤ 3 → Q v H'
def spRatio (K : PySem.W.Frag) : Sp := fun vs H Q _ => ∃ (st : Addr) (f : Int), vs = [.ref st, .int f] ∧ StAt H st ∧ 1 ≤ f ∧ f ≤ 1000 ∧ ∀ (v : V) (H' : Hp) (n d : Int), Ext st H H' → RatV K H' v n d → Lo n d → n.natAbs < 10 ^ f.toNat → d.natAbs < 10 ^ f.toNat → Q v H'
theorem pow10_le {f : Int} (h1 : 1 ≤ f) : 10 ≤ 10 ^ f.toNat := by
  have : 10 ^ 1 ≤ 10 ^ f.toNat := Nat.pow_le_pow_right (by decide) (by omega)
  exact this
theorem pow10_2 {f : Nat} (h : f ≤ 1000) : 10 ^ f < 2 ^ 4001 := by
  have a : 10 ^ f ≤ 16 ^ 1000 := Nat.le_trans (Nat.pow_le_pow_left (by decide) f) (Nat.pow_le_pow_right (by decide) h)
  have b : (16 : Nat) ^ 1000 = 2 ^ 4000 := by rw [show (16 : Nat) = 2 ^ 4 by decide, ← Nat.pow_mul]
  have c : (2 : Nat) ^ 4000 < 2 ^ 4001 := Nat.pow_lt_pow_right (by decide) (by decide)
  omega
theorem pow_up {a : Nat} {k m : Nat} (h : a < 2 ^ k) (hk : k ≤ m) : a < 2 ^ m := Nat.lt_of_lt_of_le h (Nat.pow_le_pow_right (by decide) hk)
section
variable {P : Program} {w : World} {K : PySem.W.Frag} {mg : Str → Option Value} {base : Heap}
abbrev s_integer : Stmt := top 62
theorem sc_integer : FnScope ["_law_store_here", "_law_figures", "_law_size", "_law_way", "_law_got"] ["_law_store_here", "_law_figures"] (defScope s_integer) := ⟨rfl, rfl, rfl, by decide +kernel, rfl, by decide +kernel, by decide +kernel⟩
abbrev psI : List Str := ["_law_store_here", "_law_figures"]
theorem ok_integer {f : Addr} {fd : FuncData} (F : Fun K "_law_integer" "_law_integer" s_integer f fd) (T : TxtD K mg) (c_take : Callee P w K mg base CX0 126 "_law_take" psT (spTake 125)) (c_edge : Callee P w K mg base CX0 127 "_law_edge" psT spEdge)
    (c_between : Callee P w K mg base CX0 128 "_law_between" psB spBetween) (c_tens : Callee P w K mg base CX0 1 "_law_tens" ["_law_figures"] spTens) : FnOk P w K mg base CX0 129 f fd psI spInteger := by
  refine F.ok sc_integer (fun vs H Q E h => ?_) (fun cdv A outer s H vs Q E hr h => ?_)
  · obtain ⟨a, ns, rfl, _⟩ := h
    rfl
  · obtain ⟨st, fg, rfl, hS, h1, h2, k⟩ := h
    refine ⟨_, (pss_cons (ps_if (pt_cmpR op_eq (pe_fn c_take (hr.mono (by decide)) (by rfl) pass0 (pa_cons (pv 0) (pa_cons pe_int pa_nil))) pe_int (nomark _)) (pss_one (ps_ret (pe_fn c_between (hr.mono (by decide)) (by rfl) pass0 (pa_cons (pv 0) (pa_cons (pe_un un_neg pe_int) (pa_cons pe_int pa_nil)))))) pss_nil)
  (pss_cons (ps_set (i := 2) sc_integer.nd rfl (Or.inl rfl) (pe_op op_add pe_int (pe_fn c_edge (hr.mono (by decide)) (by rfl) pass0 (pa_cons (pv 0) (pa_cons (pv 1) pa_nil)))))
  (pss_cons (ps_set (i := 3) sc_integer.nd rfl (Or.inl rfl) (pe_fn c_take (hr.mono (by decide)) (by rfl) pass0 (pa_cons (pv 0) (pa_cons pe_int pa_nil))))
  (C8.pss_cut (ps_if (pt_cmpR op_eq (pv 3) pe_int (nomark _)) (pss_one (ps_set (i := 4) sc_integer.nd rfl (Or.inl rfl) (pe_op op_sub (pe_fn c_tens (hr.mono (by decide)) (by rfl) pass0 (pa_cons (pv 2) pa_nil)) pe_int))) (pss_one (ps_if (pt_cmpR op_eq (pv 3) pe_int (nomark _)) (pss_one (ps_set (i := 4) sc_integer.nd rfl (Or.inl rfl) (pe_fn c_tens (hr.mono (by decide)) (by rfl) pass0 (pa_cons (pe_op op_sub (pv 2) pe_int) pa_nil)))) (pss_one (ps_set (i := 4) sc_integer.nd rfl (Or.inl rfl) (pe_fn c_take (hr.mono (by decide)) (by rfl) pass0 (pa_cons (pv 0) (pa_cons (pe_fn c_tens (hr.mono (by decide)) (by rfl) pass0 (pa_cons (pv 2) pa_nil)) pa_nil))))))))
  (pss_cons (ps_if (pt_cmpR op_eq (pe_fn c_take (hr.mono (by decide)) (by rfl) pass0 (pa_cons (pv 0) (pa_cons pe_int pa_nil))) pe_int (nomark _)) (pss_one (ps_ret (pe_un un_neg (pv 4)))) pss_nil)
  (pss_one (ps_ret (pv 4)))))))), ?_⟩
    have p10 := pow10_le h1
    have mono : ∀ {z : Int}, 0 ≤ z → z ≤ fg → 10 ^ z.toNat ≤ 10 ^ fg.toNat := fun {z} a b => Nat.pow_le_pow_right (by decide) (by omega)
    have big : ∀ {z : Int}, 0 ≤ z → z ≤ fg → ((10 ^ z.toNat : Nat) : Int) ≤ lim 124 := fun {z} a b => by
      refine Int.le_trans (Int.ofNat_le.mpr ?_) lim124
      exact Nat.pow_le_pow_right (by decide) (by omega)
    refine ⟨_, rfl, st, 2, rfl, hS, lim124s (by decide), fun r H1 r1 x1 => ⟨rfl, _, rfl, ite2 (fun _ => ?_) (fun _ => ?_)⟩⟩
    · refine ⟨_, rfl, _, rfl, st, -9, 9, rfl, x1.at_, by decide, by decide, fun r2 H2 a b x2 => k r2 H2 ?_ (x1.trans x2)⟩
      omega
    -- size = 1 + edge(figures)
    refine ⟨_, rfl, _, rfl, st, fg, rfl, x1.at_, lim124s (by omega), fun e H2 re x2 => ⟨_, _, rfl, rfl, ?_⟩⟩
    have e0 := re.1
    have e1 : e < fg := by have := re.2; omega
    -- way = take(4)
    refine ⟨_, rfl, st, 4, rfl, x2.at_, lim124s (by decide), fun wy H3 rw3 x3 => ?_⟩
    have x13 := (x1.trans x2).trans x3
    refine ⟨fun σ H4 => ∃ g : Int, σ = [some (.ref st), some (.int fg), some (.int (1 + e)), some (.int wy), some (.int g)] ∧ Ext st H H4 ∧ g.natAbs < 10 ^ fg.toNat, ?_, ?_⟩
    · refine ⟨_, rfl, rfl, _, rfl, ite2 (fun _ => ?_) (fun _ => ?_)⟩
      · refine ⟨_, rfl, 1 + e, rfl, by omega, by omega, _, _, rfl, rfl, _, rfl, x13, ?_⟩
        have := mono (z := 1 + e) (by omega) (by omega)
        have : 0 < 10 ^ (1 + e).toNat := Nat.pow_pos (by decide)
        omega
      · refine ⟨_, rfl, rfl, _, rfl, ite2 (fun _ => ?_) (fun _ => ?_)⟩
        · refine ⟨_, rfl, _, _, rfl, rfl, 1 + e - 1, rfl, by omega, by omega, _, rfl, x13, ?_⟩
          have : 10 ^ (1 + e - 1).toNat < 10 ^ fg.toNat := Nat.pow_lt_pow_right (by decide) (by omega)
          rw [Int.natAbs_natCast]
          exact this
        · refine ⟨_, rfl, _, rfl, 1 + e, rfl, by omega, by omega, st, _, rfl, x3.at_, big (z := 1 + e) (by omega) (by omega), fun g H4 rg x4 => ⟨g, rfl, x13.trans x4, ?_⟩⟩
          have := mono (z := 1 + e) (by omega) (by omega)
          have g0 := rg.1
          have g1 := rg.2
          have : 10 ≤ 10 ^ (1 + e).toNat := pow10_le (by omega)
          omega
    · rintro σ H4 ⟨g, rfl, x4, hg⟩
      refine ⟨_, rfl, st, 2, rfl, x4.at_, lim124s (by decide), fun r H5 r5 x5 => ⟨rfl, _, rfl, ite2 (fun _ => ?_) (fun _ => ?_)⟩⟩
      · exact ⟨_, rfl, _, rfl, k _ _ (by rw [Int.natAbs_neg]; exact hg) (x4.trans x5)⟩
      · exact ⟨_, rfl, k _ _ hg (x4.trans x5)⟩
abbrev s_low : Stmt := top 63
theorem sc_low : FnScope ["_law_up", "_law_down", "_law_one", "_law_two", "_law_rest"] ["_law_up", "_law_down"] (defScope s_low) := ⟨rfl, rfl, rfl, by decide +kernel, rfl, by decide +kernel, by decide +kernel⟩
abbrev psL : List Str := ["_law_up", "_law_down"]
theorem ok_low {f : Addr} {fd : FuncData} (F : Fun K "_law_low" "_law_low" s_low f fd) (T : TxtD K mg) : FnOk P w K mg base CX0 1 f fd psL spLow := by
  refine F.ok sc_low (fun vs H Q E h => ?_) (fun cdv A outer s H vs Q E hr h => ?_)
  · obtain ⟨a, ns, rfl, _⟩ := h
    rfl
  · obtain ⟨u, d, rfl, hu, hd, k⟩ := h
    refine ⟨_, (pss_cons (ps_if (pt_cmpR op_eq (pv 1) pe_int (nomark _)) (pss_one (ps_ret (pe_tup (pa_cons pe_int (pa_cons pe_int pa_nil))))) pss_nil)
  (pss_cons (ps_set (i := 2) sc_low.nd rfl (Or.inl rfl) (pe_callB (call_max2 rfl) (by rfl) T.max (by decide +kernel) (pa_cons (pv 0) (pa_cons (pe_un un_neg (pv 0)) pa_nil))))
  (pss_cons (ps_set (i := 3) sc_low.nd rfl (Or.inl rfl) (pe_callB (call_max2 rfl) (by rfl) T.max (by decide +kernel) (pa_cons (pv 1) (pa_cons (pe_un un_neg (pv 1)) pa_nil))))
  (pss_cons (ps_while PassesOwn.never (pt_cmpR op_gt (pv 3) pe_int (nomark _)) (pss_cons (ps_set (i := 4) sc_low.nd rfl (Or.inl rfl) (pe_op op_mod (pe_callTy call_int1 (by rfl) T.int (by decide +kernel) (pa_cons (pv 2) pa_nil)) (pv 3)))
  (pss_cons (ps_set (i := 2) sc_low.nd rfl (Or.inl rfl) (pv 3))
  (pss_one (ps_set (i := 3) sc_low.nd rfl (Or.inl rfl) (pv 4))))))
  (C8.pss_cut (ps_if (pt_cmpR op_lt (pv 1) pe_int (nomark _)) (pss_one (ps_set (i := 2) sc_low.nd rfl (Or.inl rfl) (pe_un un_neg (pv 2)))) pss_nil)
  (pss_one (ps_ret (pe_tup (pa_cons (pe_op op_fdivZ (pv 0) (pv 2)) (pa_cons (pe_op op_fdivZ (pv 1) (pv 2)) pa_nil)))))))))), ?_⟩
    refine ⟨_, rfl, rfl, _, rfl, ite2 (fun h0 => ?_) (fun h0 => ?_)⟩
    · refine ⟨by show 2 ≤ sizeLine; decide, fun p hp => ?_⟩
      have e := k p hp
      unfold lowP at e
      rw [if_pos (int_eq h0)] at e
      exact e
    have d0 : d ≠ 0 := int_ne h0
    refine ⟨_, rfl, _, rfl, _, rfl, _, _, rfl, ?_⟩
    refine ⟨_, rfl, _, rfl, _, rfl, _, _, rfl, ?_⟩
    have ea : ∀ z : Int, (if -z > z then -z else z) = ((z.natAbs : Nat) : Int) := fun z => by
      by_cases q : -z > z
      · rw [if_pos q]; omega
      · rw [if_neg q]; omega
    rw [ea u, ea d]
    refine while_by (fun σ H' => H' = H ∧ ∃ (a b : Nat) (v : Option V), σ = [some (.int u), some (.int d), some (.int a), some (.int b), v] ∧ Nat.gcd a b = Nat.gcd u.natAbs d.natAbs) (fun σ _ => match σ with | [_, _, _, some (.int b), _] => b.toNat | _ => 0)
      ⟨rfl, u.natAbs, d.natAbs, none, rfl, rfl⟩ ?_ ?_
    · rintro σ H' ⟨rfl, a, b, v, rfl, hg⟩
      refine ⟨_, rfl, _, _, rfl, rfl, _, rfl, ite2 (fun hb => ?_) (fun hb => ?_)⟩
      · have b0 : (0 : Int) < b := of_decide_eq_true hb
        refine ⟨_, rfl, .inl ⟨_, rfl, _, rfl, _, _, rfl, rfl, b0, ?_⟩⟩
        refine ⟨_, rfl, _, rfl, ⟨rfl, b, a % b, some (.int ((a % b : Nat) : Int)), rfl, ?_⟩, ?_⟩
        · rw [Nat.gcd_comm, ← Nat.gcd_rec, Nat.gcd_comm]
          exact hg
        · show ((a : Int) % (b : Int)).toNat < (b : Int).toNat
          have := Int.emod_lt_of_pos (a : Int) b0
          have := Int.emod_nonneg (a : Int) (show (b : Int) ≠ 0 by omega)
          omega
      · have b0 : b = 0 := by
          have : ¬ (0 : Int) < b := fun z => hb (decide_eq_true z)
          omega
        subst b0
        rw [Nat.gcd_zero_right] at hg
        subst hg
        -- if down < 0: one = -one
        refine ⟨fun σ H2 => H2 = H' ∧ ∃ (v w : Option V), σ = [some (.int u), some (.int d), some (.int (lowG u d)), v, w], ?_, ?_⟩
        · refine ⟨_, rfl, _, _, rfl, rfl, _, rfl, ite2 (fun hq => ?_) (fun hq => ?_)⟩
          · refine ⟨_, rfl, _, rfl, rfl, some (.int ((0 : Nat) : Int)), v, ?_⟩
            have e : lowG u d = -((Nat.gcd u.natAbs d.natAbs : Nat) : Int) := if_pos (of_decide_eq_true hq)
            rw [e]
            rfl
          · refine ⟨rfl, some (.int ((0 : Nat) : Int)), v, ?_⟩
            have e : lowG u d = ((Nat.gcd u.natAbs d.natAbs : Nat) : Int) := if_neg (fun z => hq (decide_eq_true z))
            rw [e]
        · rintro σ H2 ⟨rfl, v, w, rfl⟩
          have gb : (lowG u d).natAbs < 2 ^ 9000 := by
            rw [lowG_abs]
            exact Nat.lt_of_le_of_lt (Nat.le_of_dvd (by omega) (Nat.gcd_dvd_right _ _)) hd
          refine ⟨_, rfl, _, rfl, _, _, rfl, rfl, ⟨lowG_ne d0, gb⟩, _, rfl, _, rfl, _, _, rfl, rfl, ⟨lowG_ne d0, gb⟩, by show 2 ≤ sizeLine; decide, fun p hp => ?_⟩
          have e := k p hp
          unfold lowP at e
          rw [if_neg d0] at e
          exact e
    · rintro σ H' Q1 Q2 hq ⟨v, e1, i, j, e2, e3, b, e4, q⟩
      exact ⟨v, e1, i, j, e2, e3, b, e4, hq _ _ q⟩
end
end K00

set_option Elab.async false
set_option linter.all false
set_option maxRecDepth 100000
set_option maxHeartbeats 4000000
namespace K00
open PySem L2
section
variable {P : Program} {w : World} {K : PySem.W.Frag} {mg : Str → Option Value} {base : Heap}
abbrev s_sgn : Stmt := top 64
theorem sc_sgn : FnScope ["_law_one"] ["_law_one"] (defScope s_sgn) := ⟨rfl, rfl, rfl, by decide +kernel, rfl, by decide +kernel, by decide +kernel⟩
theorem rIx_head {K : PySem.W.Frag} {H : Hp} {a : Addr} {x : V} {r : List V} {Q : VK} (h : SqL K H a (x :: r) ∨ SqT K H a (x :: r)) (q : Q x H) : rIx K (.ref a) (.int 0) H Q := by
  rcases h with h | h
  · exact .inl ⟨a, _, 0, x, rfl, rfl, h, atI_nat (j := 0) rfl, q⟩
  · exact .inr (.inl ⟨a, _, 0, x, rfl, rfl, h, atI_nat (j := 0) rfl, q⟩)
theorem ok_sgn {f : Addr} {fd : FuncData} (F : Fun K "_law_sgn" "_law_sgn" s_sgn f fd) (T : TxtD K mg) : FnOk P w K mg base CX0 1 f fd ["_law_one"] (spSgn K) := by
  refine F.ok sc_sgn (fun vs H Q E h => ?_) (fun cdv A outer s H vs Q E hr h => ?_)
  · obtain ⟨_, _, _, rfl, _⟩ := h
    rfl
  · obtain ⟨a, n, r, rfl, hx, k⟩ := h
    refine ⟨_, (pss_one (ps_ret (pe_op op_sub (pe_callTy call_int1 (by rfl) T.int (by decide +kernel) (pa_cons (pe_cmpR op_gt (pe_ix ix_seq (pv 0) pe_int (fun _ _ => rfl)) pe_int (nomark _)) pa_nil)) (pe_callTy call_int1 (by rfl) T.int (by decide +kernel) (pa_cons (pe_cmpR op_lt (pe_ix ix_seq (pv 0) pe_int (fun _ _ => rfl)) pe_int (nomark _)) pa_nil))))), ?_⟩
    refine ⟨_, rfl, rIx_head hx ⟨_, _, rfl, rfl, .inr ⟨_, rfl, _, rfl, rIx_head hx ⟨_, _, rfl, rfl, .inr ⟨_, rfl, _, _, rfl, rfl, ?_⟩⟩⟩⟩⟩
    have e : (if decide (0 < n) = true then (1 : Int) else 0) - (if decide (n < 0) = true then (1 : Int) else 0) = sgn n := by
      unfold sgn
      by_cases h1 : 0 < n
      · rw [if_pos h1, if_pos (decide_eq_true h1), if_neg (by rw [decide_eq_false (by omega)]; exact Bool.false_ne_true)]
        rfl
      · rw [if_neg h1, if_neg (by rw [decide_eq_false h1]; exact Bool.false_ne_true)]
        by_cases h2 : n < 0
        · rw [if_pos h2, if_pos (decide_eq_true h2)]
          rfl
        · rw [if_neg h2, if_neg (by rw [decide_eq_false h2]; exact Bool.false_ne_true)]
          rfl
    show Q (.int ((if decide (0 < n) = true then (1 : Int) else 0) - (if decide (n < 0) = true then (1 : Int) else 0))) H
    rw [e]
    exact k
abbrev s_small : Stmt := top 65
theorem sc_small : FnScope ["_law_store_here", "_law_up"] ["_law_store_here"] (defScope s_small) := ⟨rfl, rfl, rfl, by decide +kernel, rfl, by decide +kernel, by decide +kernel⟩
/-- a new tuple of a ratio -/
theorem RatV.new {K : PySem.W.Frag} {H : Hp} {p : Addr} {n d : Int} : RatV K (upd H p (.tup [.int n, .int d])) (.ref p) n d := ⟨p, rfl, SqT.of upd_same⟩
theorem Ext.new {st p : Addr} {H : Hp} {o : HO} (hs : StAt H st) (hp : H p = none) : Ext st H (upd H p o) := Ext.ofSame hs (Same.new hp)
theorem lowP_lo {u d : Int} : Lo (lowP u d).1 (lowP u d).2 := by
  unfold lowP
  by_cases h : d = 0
  · rw [if_pos h]; exact ⟨by decide, by decide⟩
  · rw [if_neg h]; exact lo_low h
theorem lowP_n {u d : Int} : (lowP u d).1.natAbs ≤ u.natAbs := by
  unfold lowP
  by_cases h : d = 0
  · rw [if_pos h]; exact Nat.zero_le _
  · rw [if_neg h]; exact low_le_n
theorem lowP_d {u d : Int} (h : d ≠ 0) : (lowP u d).2.natAbs ≤ d.natAbs := by
  unfold lowP
  rw [if_neg h]
  exact low_le_d h
theorem ok_small {f : Addr} {fd : FuncData} (F : Fun K "_law_small" "_law_small" s_small f fd) (T : TxtD K mg) (c_take : Callee P w K mg base CX0 126 "_law_take" psT (spTake 125))
    (c_between : Callee P w K mg base CX0 128 "_law_between" psB spBetween) (c_low : Callee P w K mg base CX0 1 "_law_low" psL spLow) : FnOk P w K mg base CX0 129 f fd ["_law_store_here"] (spSmall K) := by
  refine F.ok sc_small (fun vs H Q E h => ?_) (fun cdv A outer s H vs Q E hr h => ?_)
  · obtain ⟨_, rfl, _⟩ := h
    rfl
  · obtain ⟨st, rfl, hS, k⟩ := h
    refine ⟨_, (pss_cons (ps_set (i := 1) sc_small.nd rfl (Or.inl rfl) (pe_op op_sub (pe_fn c_between (hr.mono (by decide)) (by rfl) pass0 (pa_cons (pv 0) (pa_cons pe_int (pa_cons pe_int pa_nil)))) pe_int))
  (C8.pss_cut (ps_if (pt_cmpR op_eq (pe_fn c_take (hr.mono (by decide)) (by rfl) pass0 (pa_cons (pv 0) (pa_cons pe_int pa_nil))) pe_int (nomark _)) (pss_one (ps_set (i := 1) sc_small.nd rfl (Or.inl rfl) pe_int)) pss_nil)
  (pss_one (ps_ret (pe_fn c_low (hr.mono (by decide)) (by rfl) pass0 (pa_cons (pv 1) (pa_cons (pe_ix ix_list (pe_lst (pa_cons pe_int (pa_cons pe_int (pa_cons pe_int (pa_cons pe_int pa_nil))))) (pe_fn c_take (hr.mono (by decide)) (by rfl) pass0 (pa_cons (pv 0) (pa_cons pe_int pa_nil))) (fun _ _ => rfl)) pa_nil))))))), ?_⟩
    refine ⟨_, rfl, st, 0, 8, rfl, hS, by decide, by decide, fun u H1 u0 u8 x1 => ⟨_, _, rfl, rfl, ?_⟩⟩
    refine ⟨fun σ H4 => ∃ g : Int, σ = [some (.ref st), some (.int g)] ∧ Ext st H H4 ∧ g.natAbs ≤ 4, ?_, ?_⟩
    · refine ⟨_, rfl, st, 4, rfl, x1.at_, lim124s (by decide), fun r H2 r2 x2 => ⟨rfl, _, rfl, ite2 (fun _ => ?_) (fun _ => ?_)⟩⟩
      · exact ⟨_, rfl, x1.trans x2, by decide⟩
      · exact ⟨_, rfl, x1.trans x2, by omega⟩
    · rintro σ H2 ⟨g, rfl, x2, hg⟩
      refine ⟨_, rfl, by show 4 ≤ sizeLine; decide, fun p hp => ?_⟩
      have x3 : Ext st H2 (upd H2 p (.lst [.int 1, .int 1, .int 2, .int 3])) := Ext.new x2.at_ hp
      have nps : p ≠ st := fun e => by
        obtain ⟨_, _, _, _, _, _, _, q, _⟩ := x2.at_
        rw [e, q] at hp
        cases hp
      refine ⟨_, rfl, st, 4, rfl, x3.at_, lim124s (by decide), fun r H3 r3 x4 => ?_⟩
      have hp3 : H3 p = some (.lst [.int 1, .int 1, .int 2, .int 3]) := x4.old _ _ nps upd_same
      have r0 := r3.1
      have r4 : r < 4 := by have := r3.2; omega
      obtain ⟨j, hj⟩ : ∃ j : Nat, r = (j : Int) := ⟨r.toNat, by omega⟩
      obtain ⟨z, hz, z1, z3⟩ : ∃ z : Int, ([.int 1, .int 1, .int 2, .int 3] : List V)[j]? = some (.int z) ∧ 1 ≤ z ∧ z ≤ 3 := by
        match j, hj with
        | 0, _ => exact ⟨1, rfl, by decide, by decide⟩
        | 1, _ => exact ⟨1, rfl, by decide, by decide⟩
        | 2, _ => exact ⟨2, rfl, by decide, by decide⟩
        | 3, _ => exact ⟨3, rfl, by decide, by decide⟩
        | j + 4, hj => omega
      refine ⟨_, _, _, _, rfl, rfl, SqL.of hp3, at_of hj hz, ?_⟩
      refine ⟨g, z, rfl, pow_up (k := 3) (by omega) (by decide), pow_up (k := 2) (by omega) (by decide), fun q hq => ?_⟩
      refine k _ _ _ _ (((x2.trans x3).trans x4).trans (Ext.new x4.at_ hq)) RatV.new lowP_lo (Nat.le_trans lowP_n hg) ?_
      have a := lowP_d (u := g) (d := z) (by omega)
      have b := (lowP_lo (u := g) (d := z)).pos
      omega
abbrev s_ratio : Stmt := top 66
theorem sc_ratio : FnScope ["_law_store_here", "_law_figures", "_law_up", "_law_down"] ["_law_store_here", "_law_figures"] (defScope s_ratio) := ⟨rfl, rfl, rfl, by decide +kernel, rfl, by decide +kernel, by decide +kernel⟩
theorem ok_ratio {f : Addr} {fd : FuncData} (F : Fun K "_law_ratio" "_law_ratio" s_ratio f fd) (T : TxtD K mg) (c_take : Callee P w K mg base CX0 126 "_law_take" psT (spTake 125))
    (c_integer : Callee P w K mg base CX0 129 "_law_integer" psI spInteger) (c_low : Callee P w K mg base CX0 1 "_law_low" psL spLow) (c_small : Callee P w K mg base CX0 129 "_law_small" ["_law_store_here"] (spSmall K)) : FnOk P w K mg base CX0 130 f fd psI (spRatio K) := by
  refine F.ok sc_ratio (fun vs H Q E h => ?_) (fun cdv A outer s H vs Q E hr h => ?_)
  · obtain ⟨_, _, rfl, _⟩ := h
    rfl
  · obtain ⟨st, fg, rfl, hS, h1, h2, k⟩ := h
    refine ⟨_, (pss_cons (ps_if (pt_cmpR op_eq (pe_fn c_take (hr.mono (by decide)) (by rfl) pass0 (pa_cons (pv 0) (pa_cons pe_int pa_nil))) pe_int (nomark _)) (pss_one (ps_ret (pe_fn c_small (hr.mono (by decide)) (by rfl) pass0 (pa_cons (pv 0) pa_nil)))) pss_nil)
  (pss_cons (ps_set (i := 2) sc_ratio.nd rfl (Or.inl rfl) (pe_fn c_integer (hr.mono (by decide)) (by rfl) pass0 (pa_cons (pv 0) (pa_cons (pv 1) pa_nil))))
  (pss_cons (ps_set (i := 3) sc_ratio.nd rfl (Or.inl rfl) (pe_fn c_integer (hr.mono (by decide)) (by rfl) pass0 (pa_cons (pv 0) (pa_cons (pv 1) pa_nil))))
  (C8.pss_cut (ps_if (pt_cmpR op_eq (pv 3) pe_int (nomark _)) (pss_one (ps_set (i := 3) sc_ratio.nd rfl (Or.inl rfl) pe_int)) pss_nil)
  (pss_one (ps_ret (pe_fn c_low (hr.mono (by decide)) (by rfl) pass0 (pa_cons (pv 2) (pa_cons (pv 3) pa_nil))))))))), ?_⟩
    have p10 := pow10_le h1
    have hb : ∀ {z : Int}, z.natAbs < 10 ^ fg.toNat → z.natAbs < 2 ^ 9000 := fun {z} hz => pow_up (Nat.lt_trans hz (pow10_2 (by omega))) (by decide)
    refine ⟨_, rfl, st, 2, rfl, hS, lim124s (by decide), fun r H1 r1 x1 => ⟨rfl, _, rfl, ite2 (fun _ => ?_) (fun _ => ?_)⟩⟩
    · refine ⟨_, rfl, st, rfl, x1.at_, fun v H2 n d x2 hv hl hn hd => k v H2 n d (x1.trans x2) hv hl (by omega) ?_⟩
      have := hl.pos
      omega
    refine ⟨_, rfl, _, rfl, st, fg, rfl, x1.at_, h1, h2, fun u H2 hu x2 => ?_⟩
    refine ⟨_, rfl, _, rfl, st, fg, rfl, x2.at_, h1, h2, fun d H3 hd x3 => ?_⟩
    refine ⟨fun σ H4 => ∃ g : Int, σ = [some (.ref st), some (.int fg), some (.int u), some (.int g)] ∧ Ext st H H4 ∧ g.natAbs < 10 ^ fg.toNat ∧ g ≠ 0, ?_, ?_⟩
    · refine ⟨_, rfl, rfl, _, rfl, ite2 (fun q => ?_) (fun q => ?_)⟩
      · exact ⟨_, rfl, (x1.trans x2).trans x3, by show 1 < _; omega, by decide⟩
      · exact ⟨_, rfl, (x1.trans x2).trans x3, hd, int_ne q⟩
    · rintro σ H4 ⟨g, rfl, x4, hg, g0⟩
      refine ⟨_, rfl, _, rfl, u, g, rfl, hb hu, hb hg, fun q hq => ?_⟩
      exact k _ _ _ _ (x4.trans (Ext.new x4.at_ hq)) RatV.new lowP_lo (Nat.lt_of_le_of_lt lowP_n hu) (Nat.lt_of_le_of_lt (lowP_d g0) hg)
end
end K00

set_option Elab.async false
set_option linter.all false
set_option maxRecDepth 100000
set_option maxHeartbeats 4000000
namespace K00
open PySem L2
/-! ### data: what a value is, at any depth -/
inductive D where
  | non | bl (b : Bool) | int (i : Int) | str (s : Str) | tup (l : List D) | lst (l : List D) | dct
mutual
inductive Val (K : PySem.W.Frag) (st : Addr) (H : Hp) : V → D → Prop
  | non : Val K st H .non .non
  | bl (b : Bool) : Val K st H (.bl b) (.bl b)
  | int (i : Int) : Val K st H (.int i) (.int i)
  | str (s : Str) : Val K st H (.str s) (.str s)
  | tup {a : Addr} {xs : List V} {ds : List D} (h : SqT K H a xs) (r : ValAll K st H xs ds) : Val K st H (.ref a) (.tup ds)
  | lst {a : Addr} {xs : List V} {ds : List D} (n : a ≠ st) (h : SqL K H a xs) (r : ValAll K st H xs ds) : Val K st H (.ref a) (.lst ds)
  | dct {a : Addr} (n : a ≠ st) (h : H a = some (.dK [])) : Val K st H (.ref a) .dct
inductive ValAll (K : PySem.W.Frag) (st : Addr) (H : Hp) : List V → List D → Prop
  | nil : ValAll K st H [] []
  | cons {v : V} {vs : List V} {d : D} {ds : List D} (h : Val K st H v d) (r : ValAll K st H vs ds) : ValAll K st H (v :: vs) (d :: ds)
end
section
variable {K : PySem.W.Frag} {st : Addr} {H H' : Hp}
theorem sqL_same {a : Addr} {xs : List V} (e : ∀ b o, b ≠ st → H b = some o → H' b = some o) (n : a ≠ st) (h : SqL K H a xs) : SqL K H' a xs := by
  rcases h with (h | ⟨o, h⟩) | h
  · exact .inl (.inl (e _ _ n h))
  · exact .inl (.inr ⟨o, e _ _ n h⟩)
  · exact .inr h
mutual
theorem Val.mono (e : ∀ b o, b ≠ st → H b = some o → H' b = some o) (ht : ∀ a xs, SqT K H a xs → SqT K H' a xs) : ∀ {v : V} {d : D}, Val K st H v d → Val K st H' v d
  | _, _, .non => .non
  | _, _, .bl b => .bl b
  | _, _, .int i => .int i
  | _, _, .str s => .str s
  | _, _, .tup h r => .tup (ht _ _ h) (ValAll.mono e ht r)
  | _, _, .lst n h r => .lst n (sqL_same e n h) (ValAll.mono e ht r)
  | _, _, .dct n h => .dct n (e _ _ n h)
theorem ValAll.mono (e : ∀ b o, b ≠ st → H b = some o → H' b = some o) (ht : ∀ a xs, SqT K H a xs → SqT K H' a xs) : ∀ {vs : List V} {ds : List D}, ValAll K st H vs ds → ValAll K st H' vs ds
  | _, _, .nil => .nil
  | _, _, .cons h r => .cons (Val.mono e ht h) (ValAll.mono e ht r)
end
theorem Val.ext {v : V} {d : D} (hs : StAt H st) (x : Ext st H H') (h : Val K st H v d) : Val K st H' v d := h.mono x.old fun _ _ => sqT_ext hs x
theorem Val.same {v : V} {d : D} (x : Same H H') (h : Val K st H v d) : Val K st H' v d := h.mono (fun b o _ q => x b o q) fun _ _ => sqT_same x
theorem ValAll.same {vs : List V} {ds : List D} (x : Same H H') (h : ValAll K st H vs ds) : ValAll K st H' vs ds := h.mono (fun b o _ q => x b o q) fun _ _ => sqT_same x
theorem ValAll.ext {vs : List V} {ds : List D} (hs : StAt H st) (x : Ext st H H') (h : ValAll K st H vs ds) : ValAll K st H' vs ds := h.mono x.old fun _ _ => sqT_ext hs x
theorem ValAll.length : ∀ {vs : List V} {ds : List D}, ValAll K st H vs ds → vs.length = ds.length
  | _, _, .nil => rfl
  | _, _, .cons _ r => congrArg (· + 1) r.length
theorem ValAll.get : ∀ {vs : List V} {ds : List D} {i : Nat} {v : V}, ValAll K st H vs ds → vs[i]? = some v → ∃ d, ds[i]? = some d ∧ Val K st H v d
  | _, _, _, _, .nil, e => by simp at e
  | _, _, 0, _, .cons h _, e => ⟨_, rfl, by cases (Option.some.inj e); exact h⟩
  | _, _, i + 1, v, .cons _ r, e => by
    obtain ⟨d, h1, h2⟩ := ValAll.get (i := i) (v := v) r (by simpa using e)
    exact ⟨d, by simpa using h1, h2⟩
theorem ValAll.getD : ∀ {vs : List V} {ds : List D} {i : Nat} {d : D}, ValAll K st H vs ds → ds[i]? = some d → ∃ v, vs[i]? = some v ∧ Val K st H v d
  | _, _, _, _, .nil, e => by simp at e
  | _, _, 0, _, .cons h _, e => ⟨_, rfl, by cases (Option.some.inj e); exact h⟩
  | _, _, i + 1, v, .cons _ r, e => by
    obtain ⟨d, h1, h2⟩ := ValAll.getD (i := i) r (by simpa using e)
    exact ⟨d, by simpa using h1, h2⟩
theorem RatV.val {v : V} {n d : Int} (h : RatV K H v n d) : Val K st H v (.tup [.int n, .int d]) := by
  obtain ⟨a, rfl, h⟩ := h
  exact .tup h (.cons (.int _) (.cons (.int _) .nil))
def tyN : D → String
  | .non => "NoneType" | .bl _ => "bool" | .int _ => "int" | .str _ => "str" | .tup _ => "tuple" | .lst _ => "list" | .dct => "dict"
theorem Val.ty {v : V} {d : D} (h : Val K st H v d) : TyX K H v (.type (tyN d)) := by
  cases h with
  | non => exact .base .non
  | bl b => exact .base (.bl b)
  | int i => exact .base (.int i)
  | str s => exact .base (.str s)
  | tup h r =>
    rcases h with (h | ⟨o, h⟩) | ⟨o, its, n, h, c, _⟩
    · exact .base (.tup h)
    · exact .fTuple h
    · exact .kTuple h c
  | lst n h r =>
    rcases h with (h | ⟨o, h⟩) | ⟨o, its, n, h, c, _⟩
    · exact .base (.lst h)
    · exact .base (.frz h)
    · exact .kList h c
  | dct n h => exact .base (.dK h)
/-- the built-in classes that are asked -/
inductive Ty where
  | int | bool | str | list | tuple | dict
def Ty.nm : Ty → String
  | .int => "int" | .bool => "bool" | .str => "str" | .list => "list" | .tuple => "tuple" | .dict => "dict"
/-- isinstance(v, c) -/
def isC : Ty → D → Bool
  | .int, .bl _ => true
  | .bool, .bl _ => true
  | .int, .int _ => true
  | .str, .str _ => true
  | .tuple, .tup _ => true
  | .list, .lst _ => true
  | .dict, .dct => true
  | _, _ => false
theorem isC_kit (c : Ty) (d : D) : PySem.W.kitOne K (.type (tyN d)) (.type c.nm) = some (isC c d) := by
  have k : ∀ (a b : String) (r : Bool), kitB a b = some r → PySem.W.kitOne K (.type a) (.type b) = some r := fun a b r h => kit_ty h
  cases d with
  | non => cases c <;> exact k "NoneType" _ false (by decide +kernel)
  | bl b => cases c <;> first | exact k "bool" _ false (by decide +kernel) | exact k "bool" _ true (by decide +kernel)
  | int b => cases c <;> first | exact k "int" _ false (by decide +kernel) | exact k "int" _ true (by decide +kernel)
  | str b => cases c <;> first | exact k "str" _ false (by decide +kernel) | exact k "str" _ true (by decide +kernel)
  | tup b => cases c <;> first | exact k "tuple" _ false (by decide +kernel) | exact k "tuple" _ true (by decide +kernel)
  | lst b => cases c <;> first | exact k "list" _ false (by decide +kernel) | exact k "list" _ true (by decide +kernel)
  | dct => cases c <;> first | exact k "dict" _ false (by decide +kernel) | exact k "dict" _ true (by decide +kernel)
theorem isi_rd {v : V} {d : D} (c : Ty) {Q : VK} (h : Val K st H v d) (q : Q (.bl (isC c d)) H) : rIsi K [v, .ty c.nm] H Q :=
  ⟨v, .ty c.nm, _, _, _, rfl, .ty c.nm, h.ty, isC_kit c d, q⟩
end
/-- x is True, x is False -/
theorem op_isB {X : Cx} : OpR X (compareOp .Is) (fun x y H Q => ∃ b, y = .bl b ∧ Q (.bl (decide (x = .bl b))) H) := by
  intro pins s σ H x y v u Q I rx ry h
  obtain ⟨b, rfl, q⟩ := h
  cases (show u = Value.bool b from ry)
  have other : x ≠ .bl b → PySem.plainIs v (Value.bool b) = true → v ≠ Value.bool b → wpAny (model X.prog X.w) X.A (compareOp .Is v (Value.bool b)) (EP X pins σ Q) X.xe s := fun hx e hv =>
    wpAny_is_other e hv ⟨.bl false, H, I, rfl, by rw [decide_eq_false hx] at q; exact q⟩
  cases x with
  | bl a =>
    cases (show v = Value.bool a from rx)
    by_cases e : a = b
    · subst e
      exact wpAny_is_self rfl ⟨.bl true, H, I, rfl, by simpa using q⟩
    · exact wpAny_is_other rfl (fun z => e (Value.bool.inj z)) ⟨.bl false, H, I, rfl, by simpa [e] using q⟩
  | non => cases rx; exact other (by intro z; cases z) rfl (by intro z; cases z)
  | int i => obtain ⟨t, rfl⟩ := rx; exact other (by intro z; cases z) rfl (by intro z; cases z)
  | str i => obtain ⟨t, rfl⟩ := rx; exact other (by intro z; cases z) rfl (by intro z; cases z)
  | byt i => obtain ⟨t, rfl⟩ := rx; exact other (by intro z; cases z) rfl (by intro z; cases z)
  | flt i => obtain ⟨t, rfl⟩ := rx; exact other (by intro z; cases z) rfl (by intro z; cases z)
  | ref i => cases rx; exact other (by intro z; cases z) rfl (by intro z; cases z)
  | ty i => cases rx; exact other (by intro z; cases z) rfl (by intro z; cases z)
end K00

set_option Elab.async false
set_option linter.all false
set_option maxRecDepth 100000
set_option maxHeartbeats 4000000
namespace K00
open PySem L2
/-- nothing below the depth n but None, bools, ints, texts -/
def Fit : Nat → D → Prop
  | _, .non => True
  | _, .bl _ => True
  | _, .int _ => True
  | _, .str _ => True
  | n + 1, .tup ds => ds.length ≤ 100000 ∧ ∀ d ∈ ds, Fit n d
  | n + 1, .lst ds => ds.length ≤ 100000 ∧ ∀ d ∈ ds, Fit n d
  | _, _ => False
def spSame (K : PySem.W.Frag) : Nat → Sp
  | 0 => fun _ _ _ _ => False
  | n + 1 => fun vs H Q _ => ∃ (st : Addr) (g e : V) (d : D), vs = [g, e] ∧ Val K st H g d ∧ Val K st H e d ∧ Fit n d ∧ ∀ H', Same H H' → Q (.bl true) H'
def isIntD : D → Bool
  | .int _ => true
  | _ => false
def isRatioD : D → Bool
  | .tup [.int n, .int m] => decide (1 ≤ m) && decide (Nat.gcd n.natAbs m.natAbs = 1)
  | _ => false
/-- the numbers of a pair are below 2 ^ 9000 -/
def Bd (d : D) : Prop := ∀ n m, d = .tup [.int n, .int m] → n.natAbs < 2 ^ 9000 ∧ m.natAbs < 2 ^ 9000
def spIsInt (K : PySem.W.Frag) : Sp := fun vs H Q _ => ∃ (st : Addr) (v : V) (d : D), vs = [v] ∧ Val K st H v d ∧ Q (.bl (isIntD d)) H
def spIsRatio (K : PySem.W.Frag) : Sp := fun vs H Q _ => ∃ (st : Addr) (v : V) (d : D), vs = [v] ∧ Val K st H v d ∧ Bd d ∧ ∀ H', Same H H' → Q (.bl (isRatioD d)) H'
def spIsRatios (K : PySem.W.Frag) : Sp := fun vs H Q _ => ∃ (st : Addr) (v : V) (d : D) (n : Int), vs = [v, .int n] ∧ Val K st H v d ∧ (∀ ds, d = .lst ds → ∀ x ∈ ds, Bd x) ∧ ∀ H', Same H H' → Q (.bl (match d with | .lst ds => decide ((ds.length : Int) = n) && ds.all isRatioD | _ => false)) H'
theorem ite_ne {i j : Int} {A B : Prop} (h : i ≠ j) (a : A) : if (!decide (V.int i = V.int j)) = true then A else B := by
  rw [decide_eq_false (fun z => h (V.int.inj z))]
  exact iteT a
theorem ite_nn {i j : Int} {A B : Prop} (h : i = j) (b : B) : if (!decide (V.int i = V.int j)) = true then A else B := by
  rw [decide_eq_true (by rw [h])]
  exact iteF b
section
variable {P : Program} {w : World} {K : PySem.W.Frag} {mg : Str → Option Value} {base : Heap}
abbrev s_is_int : Stmt := top 70
theorem sc_is_int : FnScope ["_law_thing"] ["_law_thing"] (defScope s_is_int) := ⟨rfl, rfl, rfl, by decide +kernel, rfl, by decide +kernel, by decide +kernel⟩
theorem ok_is_int {f : Addr} {fd : FuncData} (F : Fun K "_law_is_int" "_law_is_int" s_is_int f fd) (T : TxtD K mg) : FnOk P w K mg base CX0 1 f fd ["_law_thing"] (spIsInt K) := by
  refine F.ok sc_is_int (fun vs H Q E h => ?_) (fun cdv A outer s H vs Q E hr h => ?_)
  · obtain ⟨_, _, _, rfl, _⟩ := h
    rfl
  · obtain ⟨st, v, d, rfl, hv, k⟩ := h
    refine ⟨_, (pss_one (ps_ret (pe_and (pe_callB call_isi (by rfl) T.isinstance (by decide +kernel) (pa_cons (pv 0) (pa_cons (pe_bltn (v := .ty "int") (by rfl) T.int (by decide +kernel) rfl) pa_nil))) (pe_one (pe_not (pe_callB call_isi (by rfl) T.isinstance (by decide +kernel) (pa_cons (pv 0) (pa_cons (pe_bltn (v := .ty "bool") (by rfl) T.bool (by decide +kernel) rfl) pa_nil)))))))), ?_⟩
    refine ⟨_, rfl, _, _, _, _, _, rfl, .ty _, hv.ty, isC_kit .int _, _, rfl, ?_⟩
    cases hv with
    | non => exact iteF k
    | bl b => exact iteT ⟨_, rfl, _, _, _, _, _, rfl, .ty _, (Val.bl (K := K) (st := st) b).ty, isC_kit .bool _, _, rfl, k⟩
    | int i => exact iteT ⟨_, rfl, _, _, _, _, _, rfl, .ty _, (Val.int (K := K) (st := st) i).ty, isC_kit .bool _, _, rfl, k⟩
    | str s => exact iteF k
    | tup h r => exact iteF k
    | lst n h r => exact iteF k
    | dct n h => exact iteF k
abbrev s_is_ratio : Stmt := top 71
theorem sc_is_ratio : FnScope ["_law_thing"] ["_law_thing"] (defScope s_is_ratio) := ⟨rfl, rfl, rfl, by decide +kernel, rfl, by decide +kernel, by decide +kernel⟩
theorem eqv_pair {a b n m : Int} : PyData.eqv (.tuple [.int a, .int b]) (.tuple [.int n, .int m]) = (decide (a = n) && decide (b = m)) := by
  show ((a == n) && ((b == m) && true)) = _
  rw [Bool.and_true]
  rfl
theorem rIx_at {K : PySem.W.Frag} {H : Hp} {a : Addr} {xs : List V} {j : Nat} {v : V} {Q : VK} (h : SqL K H a xs ∨ SqT K H a xs) (hj : xs[j]? = some v) (q : Q v H) : rIx K (.ref a) (.int (j : Int)) H Q := by
  rcases h with h | h
  · exact .inl ⟨a, _, _, v, rfl, rfl, h, atI_nat hj, q⟩
  · exact .inr (.inl ⟨a, _, _, v, rfl, rfl, h, atI_nat hj, q⟩)
theorem ok_is_ratio {f : Addr} {fd : FuncData} (F : Fun K "_law_is_ratio" "_law_is_ratio" s_is_ratio f fd) (T : TxtD K mg) (c_is_int : Callee P w K mg base CX0 1 "_law_is_int" ["_law_thing"] (spIsInt K)) (c_low : Callee P w K mg base CX0 1 "_law_low" psL spLow) :
    FnOk P w K mg base CX0 2 f fd ["_law_thing"] (spIsRatio K) := by
  refine F.ok sc_is_ratio (fun vs H Q E h => ?_) (fun cdv A outer s H vs Q E hr h => ?_)
  · obtain ⟨_, _, _, rfl, _⟩ := h
    rfl
  · obtain ⟨st, v, d, rfl, hv, hb, k⟩ := h
    refine ⟨_, (pss_cons (ps_if (PW.pt (pw_or (pt_not (pt_val (pe_callB call_isi (by rfl) T.isinstance (by decide +kernel) (pa_cons (pv 0) (pa_cons (pe_bltn (v := .ty "tuple") (by rfl) T.tuple (by decide +kernel) rfl) pa_nil))))) (pw_or (pt_cmpR op_ne (pe_callB call_len_seq (by rfl) T.len PySem.boot_len (pa_cons (pv 0) pa_nil)) pe_int (nomark _)) (pw_or (pt_not (pt_val (pe_fn c_is_int (hr.mono (by decide)) (by rfl) pass0 (pa_cons (pe_ix ix_tup (pv 0) pe_int (fun _ _ => rfl)) pa_nil)))) (pw_or1 (pt_not (pt_val (pe_fn c_is_int (hr.mono (by decide)) (by rfl) pass0 (pa_cons (pe_ix ix_tup (pv 0) pe_int (fun _ _ => rfl)) pa_nil))))))))) (pss_one (ps_ret pe_bl)) pss_nil)
  (pss_one (ps_ret (pe_and (pe_cmpR op_ge (pe_ix ix_tup (pv 0) pe_int (fun _ _ => rfl)) pe_int (nomark _)) (pe_one (pe_cmpR (op_eqD hr.units) (pe_fn c_low (hr.mono (by decide)) (by rfl) pass0 (pa_cons (pe_ix ix_tup (pv 0) pe_int (fun _ _ => rfl)) (pa_cons (pe_ix ix_tup (pv 0) pe_int (fun _ _ => rfl)) pa_nil))) (pv 0) (nomark _))))))), ?_⟩
    refine ⟨_, rfl, _, _, _, _, _, rfl, .ty _, hv.ty, isC_kit .tuple _, _, rfl, ?_⟩
    cases hv with
    | non => exact iteT (iteT (k _ (Same.refl H)))
    | bl b => exact iteT (iteT (k _ (Same.refl H)))
    | int i => exact iteT (iteT (k _ (Same.refl H)))
    | str s => exact iteT (iteT (k _ (Same.refl H)))
    | lst n h r => exact iteT (iteT (k _ (Same.refl H)))
    | dct n h => exact iteT (iteT (k _ (Same.refl H)))
    | @tup a xs ds h r =>
      refine iteF ⟨_, rfl, _, _, rfl, .inr h, rfl, _, rfl, ?_⟩
      have hlen : xs.length = ds.length := r.length
      cases r with
      | nil => exact ite_ne (by simp only [List.length_cons, List.length_nil]; omega) (iteT (k _ (Same.refl H)))
      | @cons v1 vs1 d1 ds1 h1 r1 =>
        cases r1 with
        | nil =>
          have ed : isRatioD (.tup [d1]) = false := by cases d1 <;> rfl
          rw [ed] at k
          exact ite_ne (by simp only [List.length_cons, List.length_nil]; omega) (iteT (k _ (Same.refl H)))
        | @cons v2 vs2 d2 ds2 h2 r2 =>
          cases r2 with
          | @cons v3 vs3 d3 ds3 h3 r3 =>
            have ed : isRatioD (.tup (d1 :: d2 :: d3 :: ds3)) = false := by cases d1 <;> cases d2 <;> rfl
            rw [ed] at k
            exact ite_ne (by simp only [List.length_cons]; omega) (iteT (k _ (Same.refl H)))
          | nil =>
            refine ite_nn rfl ⟨_, rfl, ⟨a, _, _, _, rfl, rfl, h, atI_nat (j := 0) rfl, st, v1, d1, rfl, h1, ⟨_, rfl, ?_⟩⟩⟩
            by_cases i1 : isIntD d1 = true
            · rw [i1]
              refine iteF ⟨_, rfl, ⟨a, _, _, _, rfl, rfl, h, atI_nat (j := 1) rfl, st, v2, d2, rfl, h2, ⟨_, rfl, ?_⟩⟩⟩
              by_cases i2 : isIntD d2 = true
              · rw [i2]
                refine iteF ?_
                cases h1 with
                | int n =>
                  cases h2 with
                  | int m =>
                    obtain ⟨bn, bm⟩ := hb n m rfl
                    refine ⟨_, rfl, a, _, _, _, rfl, rfl, h, atI_nat (j := 1) rfl, _, _, rfl, rfl, _, rfl, ?_⟩
                    refine ite2 (fun mm => ?_) (fun mm => ?_)
                    · have m1 : (1 : Int) ≤ m := of_decide_eq_true mm
                      refine ⟨_, rfl, a, _, _, _, rfl, rfl, h, atI_nat (j := 0) rfl, _, rfl, a, _, _, _, rfl, rfl, h, atI_nat (j := 1) rfl, n, m, rfl, bn, bm, fun p hp => ?_⟩
                      have sm : Same H (upd H p (.tup [.int (lowP n m).1, .int (lowP n m).2])) := Same.new hp
                      refine ⟨_, rfl, .tuple [.int (lowP n m).1, .int (lowP n m).2], .tuple [.int n, .int m], .tup (SqT.of upd_same) (.cons (.int _) (.cons (.int _) .nil)), .tup (sqT_same sm h) (.cons (.int _) (.cons (.int _) .nil)), by rfl, by rfl, ?_⟩
                      have q := k _ sm
                      have e : isRatioD (.tup [.int n, .int m]) = PyData.eqv (.tuple [.int (lowP n m).1, .int (lowP n m).2]) (.tuple [.int n, .int m]) := by
                        rw [eqv_pair]
                        show (decide (1 ≤ m) && decide (Nat.gcd n.natAbs m.natAbs = 1)) = _
                        rw [decide_eq_true m1, Bool.true_and]
                        unfold lowP
                        rw [if_neg (show ¬ m = 0 by omega)]
                        by_cases c : Nat.gcd n.natAbs m.natAbs = 1
                        · obtain ⟨e1, e2⟩ := low_self (show 0 < m by omega) c
                          rw [decide_eq_true c]
                          show true = (decide (lowN n m = n) && decide (lowD n m = m))
                          rw [e1, e2, decide_eq_true rfl, decide_eq_true rfl]
                          rfl
                        · rw [decide_eq_false c]
                          show false = (decide (lowN n m = n) && decide (lowD n m = m))
                          by_cases z : lowN n m = n ∧ lowD n m = m
                          · exfalso
                            have := low_cop (u := n) (d := m) (by omega)
                            rw [z.1, z.2] at this
                            exact c this
                          · by_cases z1 : lowN n m = n
                            · rw [decide_eq_false (fun y => z ⟨z1, y⟩), Bool.and_false]
                            · rw [decide_eq_false z1, Bool.false_and]
                      rw [e] at q
                      exact q
                    · have m1 : ¬ (1 : Int) ≤ m := fun z => mm (decide_eq_true z)
                      have q := k _ (Same.refl H)
                      have e : isRatioD (.tup [.int n, .int m]) = false := by
                        show (decide (1 ≤ m) && decide (Nat.gcd n.natAbs m.natAbs = 1)) = _
                        rw [decide_eq_false m1, Bool.false_and]
                      rw [e] at q
                      exact q
                  | _ => cases i2
                | _ => cases i1
              · have i2' : isIntD d2 = false := by simpa using i2
                rw [i2']
                have e : isRatioD (.tup [d1, d2]) = false := by
                  cases d1 <;> cases d2 <;> first | rfl | (cases i2')
                rw [e] at k
                exact iteT (k _ (Same.refl H))
            · have i1' : isIntD d1 = false := by simpa using i1
              rw [i1']
              have e : isRatioD (.tup [d1, d2]) = false := by
                cases d1 <;> first | rfl | (cases i1')
              rw [e] at k
              exact iteT (iteT (k _ (Same.refl H)))
end
end K00

set_option Elab.async false
set_option linter.all false
set_option maxRecDepth 100000
set_option maxHeartbeats 4000000
namespace K00
open PySem L2
section
variable {P : Program} {w : World} {K : PySem.W.Frag} {mg : Str → Option Value} {base : Heap}
abbrev s_is_ratios : Stmt := top 72
theorem sc_is_ratios : FnScope ["_law_thing", "_law_many", "_law_one"] ["_law_thing", "_law_many"] (defScope s_is_ratios) := ⟨rfl, rfl, rfl, by decide +kernel, rfl, by decide +kernel, by decide +kernel⟩
theorem ok_is_ratios {f : Addr} {fd : FuncData} (F : Fun K "_law_is_ratios" "_law_is_ratios" s_is_ratios f fd) (T : TxtD K mg) (c_is_ratio : Callee P w K mg base CX0 2 "_law_is_ratio" ["_law_thing"] (spIsRatio K)) :
    FnOk P w K mg base CX0 3 f fd ["_law_thing", "_law_many"] (spIsRatios K) := by
  refine F.ok sc_is_ratios (fun vs H Q E h => ?_) (fun cdv A outer s H vs Q E hr h => ?_)
  · obtain ⟨_, _, _, _, rfl, _⟩ := h
    rfl
  · obtain ⟨st, v, d, n, rfl, hv, hb, k⟩ := h
    refine ⟨_, (pss_cons (ps_if (PW.pt (pw_or (pt_not (pt_val (pe_callB call_isi (by rfl) T.isinstance (by decide +kernel) (pa_cons (pv 0) (pa_cons (pe_bltn (v := .ty "list") (by rfl) T.list (by decide +kernel) rfl) pa_nil))))) (pw_or1 (pt_cmpR op_ne (pe_callB call_len_seq (by rfl) T.len PySem.boot_len (pa_cons (pv 0) pa_nil)) (pv 1) (nomark _))))) (pss_one (ps_ret pe_bl)) pss_nil)
  (pss_cons (ps_for PassesOwn.never rfl (pi_list (pv 0)) (pg_name (i := 2) sc_is_ratios.nd rfl (Or.inl rfl)) (pss_one (ps_if (pt_not (pt_val (pe_fn c_is_ratio (hr.mono (by decide)) (by rfl) pass0 (pa_cons (pv 2) pa_nil)))) (pss_one (ps_ret pe_bl)) pss_nil)))
  (pss_one (ps_ret pe_bl)))), ?_⟩
    refine ⟨_, rfl, _, _, _, _, _, rfl, .ty _, hv.ty, isC_kit .list _, _, rfl, ?_⟩
    cases hv with
    | non => exact iteT (k _ (Same.refl H))
    | bl b => exact iteT (k _ (Same.refl H))
    | int i => exact iteT (k _ (Same.refl H))
    | str s => exact iteT (k _ (Same.refl H))
    | tup h r => exact iteT (k _ (Same.refl H))
    | dct n h => exact iteT (k _ (Same.refl H))
    | @lst a xs ds na h r =>
      refine iteF ⟨_, rfl, _, _, rfl, .inl h, _, rfl, rfl, _, rfl, ?_⟩
      have hlen : xs.length = ds.length := r.length
      refine ite2 (fun q => ?_) (fun q => ?_)
      · have ne : (xs.length : Int) ≠ n := fun e => by
          rw [decide_eq_true (by rw [e])] at q
          cases q
        have k' := k _ (Same.refl H)
        have e : (decide ((ds.length : Int) = n) && ds.all isRatioD) = false := by
          rw [decide_eq_false (by rw [← hlen]; exact ne), Bool.false_and]
        have k2 : Q (.bl (decide ((ds.length : Int) = n) && ds.all isRatioD)) H := k'
        rw [e] at k2
        exact k2
      · have en : (xs.length : Int) = n := by
          by_cases z : (xs.length : Int) = n
          · exact z
          · exact absurd (by rw [decide_eq_false (fun y => z (V.int.inj y))]; rfl) q
        refine ⟨_, rfl, a, rfl, ⟨_, h⟩, for_list (K := K) (a := a) (xs := xs) (fun i σ H' => ∃ v, σ = [some (.ref a), some (.int n), v] ∧ Same H H' ∧ ∀ j, j < i → ∀ x, ds[j]? = some x → isRatioD x = true)
          ⟨none, rfl, Same.refl H, fun j hj => absurd hj (Nat.not_lt_zero _)⟩ (fun i σ H' _ ⟨_, _, sm, _⟩ => sm.seq h) ?_ ?_⟩
        · rintro i x σ H' hi ⟨v, rfl, sm, ih⟩
          obtain ⟨d, hd, hx⟩ := r.get hi
          refine ⟨_, rfl, st, x, d, rfl, hx.same sm, hb _ rfl d (List.mem_of_getElem? hd), fun H2 s2 => ⟨_, rfl, ?_⟩⟩
          by_cases e : isRatioD d = true
          · rw [e]
            refine iteF ⟨_, rfl, sm.trans s2, fun j hj y hy => ?_⟩
            by_cases ej : j = i
            · subst ej
              rw [hd] at hy
              cases hy
              exact e
            · exact ih j (by omega) y hy
          · have e' : isRatioD d = false := by simpa using e
            rw [e']
            have k' : Q (.bl (decide ((ds.length : Int) = n) && ds.all isRatioD)) H2 := k _ (sm.trans s2)
            have ea : ds.all isRatioD = false := by
              rw [List.all_eq_false]
              exact ⟨d, List.mem_of_getElem? hd, by rw [e']; exact Bool.false_ne_true⟩
            rw [ea, Bool.and_false] at k'
            exact iteT k'
        · rintro σ H' ⟨v, rfl, sm, ih⟩
          have k' : Q (.bl (decide ((ds.length : Int) = n) && ds.all isRatioD)) H' := k _ sm
          have ea : ds.all isRatioD = true := by
            rw [List.all_eq_true]
            intro x hx
            obtain ⟨j, hj, e⟩ := List.getElem_of_mem hx
            exact ih j (by rw [hlen]; exact hj) x (by rw [List.getElem?_eq_getElem hj, e])
          rw [ea, decide_eq_true (by rw [← hlen]; exact en)] at k'
          exact k'
abbrev s_same : Stmt := top 69
theorem sc_same : FnScope ["_law_got", "_law_due", "_law_key", "_law_k"] ["_law_got", "_law_due"] (defScope s_same) := ⟨rfl, rfl, rfl, by decide +kernel, rfl, by decide +kernel, by decide +kernel⟩
theorem ok_same_step {n : Nat} {f : Addr} {fd : FuncData} (F : Fun K "_law_same" "_law_same" s_same f fd) (T : TxtD K mg) (c_same : Callee P w K mg base CX0 (n + 1) "_law_same" ["_law_got", "_law_due"] (spSame K n)) :
    FnOk P w K mg base CX0 (n + 2) f fd ["_law_got", "_law_due"] (spSame K (n + 1)) := by
  refine F.ok sc_same (fun vs H Q E h => ?_) (fun cdv A outer s H vs Q E hr h => ?_)
  · obtain ⟨_, _, _, _, rfl, _⟩ := h
    rfl
  · obtain ⟨st, g, e, d, rfl, hg, he, hf, k⟩ := h
    refine ⟨_, (pss_cons (ps_if (pt_cmpR op_isN (pv 1) pe_non (nomark _)) (pss_one (ps_ret (pe_cmpR op_isN (pv 0) pe_non (nomark _)))) pss_nil)
  (pss_cons (ps_if (pt_cmpR op_isB (pv 1) pe_bl (nomark _)) (pss_one (ps_ret (pe_cmpR op_isB (pv 0) pe_bl (nomark _)))) pss_nil)
  (pss_cons (ps_if (pt_cmpR op_isB (pv 1) pe_bl (nomark _)) (pss_one (ps_ret (pe_cmpR op_isB (pv 0) pe_bl (nomark _)))) pss_nil)
  (pss_cons (ps_if (pt_val (pe_callB call_isi (by rfl) T.isinstance (by decide +kernel) (pa_cons (pv 1) (pa_cons (pe_bltn (v := .ty "int") (by rfl) T.int (by decide +kernel) rfl) pa_nil)))) (pss_one (ps_ret (pe_and (pe_callB call_isi (by rfl) T.isinstance (by decide +kernel) (pa_cons (pv 0) (pa_cons (pe_bltn (v := .ty "int") (by rfl) T.int (by decide +kernel) rfl) pa_nil))) (pe_and (pe_not (pe_callB call_isi (by rfl) T.isinstance (by decide +kernel) (pa_cons (pv 0) (pa_cons (pe_bltn (v := .ty "bool") (by rfl) T.bool (by decide +kernel) rfl) pa_nil)))) (pe_one (pe_cmpR op_eq (pv 0) (pv 1) (nomark _))))))) pss_nil)
  (pss_cons (ps_if (pt_val (pe_callB call_isi (by rfl) T.isinstance (by decide +kernel) (pa_cons (pv 1) (pa_cons (pe_bltn (v := .ty "str") (by rfl) T.str (by decide +kernel) rfl) pa_nil)))) (pss_one (ps_ret (pe_and (pe_callB call_isi (by rfl) T.isinstance (by decide +kernel) (pa_cons (pv 0) (pa_cons (pe_bltn (v := .ty "str") (by rfl) T.str (by decide +kernel) rfl) pa_nil))) (pe_one (pe_cmpR op_eq (pv 0) (pv 1) (nomark _)))))) pss_nil)
  (pss_cons (ps_if (pt_val (pe_callB call_isi (by rfl) T.isinstance (by decide +kernel) (pa_cons (pv 1) (pa_cons (pe_bltn (v := .ty "dict") (by rfl) T.dict (by decide +kernel) rfl) pa_nil)))) (pss_cons ps_never (pss_cons ps_never (pss_one ps_never))) pss_nil)
  (pss_cons (ps_if (PW.pt (pw_or (PW.pt (pw_and (pt_val (pe_callB call_isi (by rfl) T.isinstance (by decide +kernel) (pa_cons (pv 1) (pa_cons (pe_bltn (v := .ty "list") (by rfl) T.list (by decide +kernel) rfl) pa_nil)))) (pw_and1 (pt_not (pt_val (pe_callB call_isi (by rfl) T.isinstance (by decide +kernel) (pa_cons (pv 0) (pa_cons (pe_bltn (v := .ty "list") (by rfl) T.list (by decide +kernel) rfl) pa_nil)))))))) (pw_or1 (PW.pt (pw_and (pt_val (pe_callB call_isi (by rfl) T.isinstance (by decide +kernel) (pa_cons (pv 1) (pa_cons (pe_bltn (v := .ty "tuple") (by rfl) T.tuple (by decide +kernel) rfl) pa_nil)))) (pw_and1 (pt_not (pt_val (pe_callB call_isi (by rfl) T.isinstance (by decide +kernel) (pa_cons (pv 0) (pa_cons (pe_bltn (v := .ty "tuple") (by rfl) T.tuple (by decide +kernel) rfl) pa_nil))))))))))) (pss_one (ps_ret pe_bl)) pss_nil)
  (pss_cons (ps_if (pt_not (pt_val (pe_callB call_isiT (by rfl) T.isinstance (by decide +kernel) (pa_cons (pv 1) (pa_cons (pe_tup (pa_cons (pe_bltn (v := .ty "list") (by rfl) T.list (by decide +kernel) rfl) (pa_cons (pe_bltn (v := .ty "tuple") (by rfl) T.tuple (by decide +kernel) rfl) pa_nil))) pa_nil))))) (pss_one ps_never) pss_nil)
  (pss_cons (ps_if (pt_cmpR op_ne (pe_callB call_len_seq (by rfl) T.len PySem.boot_len (pa_cons (pv 0) pa_nil)) (pe_callB call_len_seq (by rfl) T.len PySem.boot_len (pa_cons (pv 1) pa_nil)) (nomark _)) (pss_one (ps_ret pe_bl)) pss_nil)
  (pss_cons (ps_for PassesOwn.never rfl (pi_range1 rfl T.range (pa_cons (pe_callB call_len_seq (by rfl) T.len PySem.boot_len (pa_cons (pv 1) pa_nil)) pa_nil)) (pg_name (i := 3) sc_same.nd rfl (Or.inl rfl)) (pss_one (ps_if (pt_not (pt_val (pe_fn c_same hr (by rfl) pass0 (pa_cons (pe_ix ix_seq (pv 0) (pv 3) (fun _ _ => rfl)) (pa_cons (pe_ix ix_seq (pv 1) (pv 3) (fun _ _ => rfl)) pa_nil))))) (pss_one (ps_ret pe_bl)) pss_nil)))
  (pss_one (ps_ret pe_bl)))))))))))), ?_⟩
    cases d with
    | non =>
      cases hg; cases he
      exact ⟨_, rfl, rfl, _, rfl, iteT ⟨_, rfl, rfl, k _ (Same.refl H)⟩⟩
    | bl b =>
      cases hg; cases he
      cases b with
      | true => exact ⟨_, rfl, rfl, _, rfl, iteF ⟨_, rfl, _, rfl, _, rfl, iteT ⟨_, rfl, _, rfl, k _ (Same.refl H)⟩⟩⟩
      | false => exact ⟨_, rfl, rfl, _, rfl, iteF ⟨_, rfl, _, rfl, _, rfl, iteF ⟨_, rfl, _, rfl, _, rfl, iteT ⟨_, rfl, _, rfl, k _ (Same.refl H)⟩⟩⟩⟩
    | int i =>
      cases hg; cases he
      refine ⟨_, rfl, rfl, _, rfl, iteF ⟨_, rfl, _, rfl, _, rfl, iteF ⟨_, rfl, _, rfl, _, rfl, iteF ?_⟩⟩⟩
      have ti := (Val.int (K := K) (st := st) (H := H) i).ty
      refine ⟨_, rfl, _, _, _, _, _, rfl, .ty _, ti, isC_kit .int (.int i), _, rfl, iteT ?_⟩
      refine ⟨_, rfl, _, _, _, _, _, rfl, .ty _, ti, isC_kit .int (.int i), _, rfl, iteT ?_⟩
      refine ⟨_, rfl, _, _, _, _, _, rfl, .ty _, ti, isC_kit .bool (.int i), _, rfl, _, rfl, iteT ?_⟩
      refine ⟨_, rfl, _, rfl, rfl, ?_⟩
      have q := k _ (Same.refl H)
      show Q (.bl (decide (V.int i = V.int i))) H
      rw [decide_eq_true rfl]
      exact q
    | str z =>
      cases hg; cases he
      refine ⟨_, rfl, rfl, _, rfl, iteF ⟨_, rfl, _, rfl, _, rfl, iteF ⟨_, rfl, _, rfl, _, rfl, iteF ?_⟩⟩⟩
      have ti := (Val.str (K := K) (st := st) (H := H) z).ty
      refine ⟨_, rfl, _, _, _, _, _, rfl, .ty _, ti, isC_kit .int (.str z), _, rfl, iteF ?_⟩
      refine ⟨_, rfl, _, _, _, _, _, rfl, .ty _, ti, isC_kit .str (.str z), _, rfl, iteT ?_⟩
      refine ⟨_, rfl, _, _, _, _, _, rfl, .ty _, ti, isC_kit .str (.str z), _, rfl, iteT ?_⟩
      refine ⟨_, rfl, _, rfl, rfl, ?_⟩
      have q := k _ (Same.refl H)
      show Q (.bl (decide (V.str z = V.str z))) H
      rw [decide_eq_true rfl]
      exact q
    | dct => cases n <;> exact hf.elim
    | tup ds =>
      cases n with
      | zero => exact hf.elim
      | succ n =>
        obtain ⟨hlen, hf⟩ := hf
        cases hg with
        | @tup a xs _ hxa rxa =>
          cases he with
          | @tup b ys _ hyb ryb =>
            have tb := (Val.tup hyb ryb).ty
            have ta := (Val.tup hxa rxa).ty
            refine ⟨_, rfl, rfl, _, rfl, iteF ⟨_, rfl, _, rfl, _, rfl, iteF ⟨_, rfl, _, rfl, _, rfl, iteF ?_⟩⟩⟩
            refine ⟨_, rfl, _, _, _, _, _, rfl, .ty _, tb, isC_kit .int (.tup ds), _, rfl, iteF ?_⟩
            refine ⟨_, rfl, _, _, _, _, _, rfl, .ty _, tb, isC_kit .str (.tup ds), _, rfl, iteF ?_⟩
            refine ⟨_, rfl, _, _, _, _, _, rfl, .ty _, tb, isC_kit .dict (.tup ds), _, rfl, iteF ?_⟩
            refine ⟨_, rfl, _, _, _, _, _, rfl, .ty _, tb, isC_kit .list (.tup ds), _, rfl, iteF (iteF ?_)⟩
            refine ⟨_, rfl, _, _, _, _, _, rfl, .ty _, tb, isC_kit .tuple (.tup ds), _, rfl, iteT ?_⟩
            refine ⟨_, rfl, _, _, _, _, _, rfl, .ty _, ta, isC_kit .tuple (.tup ds), _, rfl, iteF ?_⟩
            -- isinstance(due, (list, tuple))
            refine ⟨_, rfl, by show 2 ≤ sizeLine; decide, fun tp htp => ?_⟩
            have s1 : Same H (upd H tp (.tup [.ty "list", .ty "tuple"])) := Same.new htp
            refine ⟨_, tp, _, _, _, true, rfl, upd_same, .cons (.ty _) (.cons (.ty _) .nil), (Val.same s1 (Val.tup hyb ryb)).ty, (kitAny_cons (isC_kit .list (.tup ds)) (fun _ => kitAny_cons (isC_kit .tuple (.tup ds)) (fun h => by cases h) (fun _ => rfl)) (fun h => by cases h)), _, rfl, iteF ?_⟩
            refine ⟨_, rfl, _, _, rfl, .inr (sqT_same s1 hxa), _, rfl, _, _, rfl, .inr (sqT_same s1 hyb), rfl, _, rfl, ?_⟩
            refine ite_nn (by rw [rxa.length, ryb.length]) ?_
            refine ⟨_, rfl, _, _, rfl, .inr (sqT_same s1 hyb), _, rfl, by omega, ?_, ?_⟩
            · have := ryb.length
              omega
            refine for_range (lo := 0) (n := ((ys.length : Int)).toNat) (fun i σ H' => ∃ v w, σ = [some (.ref a), some (.ref b), w, v] ∧ Same H H') ⟨none, none, rfl, s1⟩ ?_ ?_
            · rintro i σ H' hi ⟨v, w, rfl, sm⟩
              have hiy : i < ys.length := by omega
              have hix : i < xs.length := by rw [rxa.length, ← ryb.length]; exact hiy
              obtain ⟨dx, hdx, vx⟩ := rxa.get (List.getElem?_eq_getElem hix)
              obtain ⟨dy, hdy, vy⟩ := ryb.get (List.getElem?_eq_getElem hiy)
              rw [hdx] at hdy
              cases hdy
              have ei : (0 : Int) + (i : Int) = (i : Int) := by omega
              refine ⟨_, rfl, _, rfl, ?_⟩
              rw [ei]
              refine rIx_at (.inr (sqT_same sm hxa)) (List.getElem?_eq_getElem hix) ?_
              refine ⟨_, rfl, _, rfl, ?_⟩
              refine rIx_at (.inr (sqT_same sm hyb)) (List.getElem?_eq_getElem hiy) ?_
              exact ⟨st, _, _, dx, rfl, vx.same sm, vy.same sm, hf _ (List.mem_of_getElem? hdx), fun H2 s2 => ⟨_, rfl, iteF ⟨_, _, rfl, sm.trans s2⟩⟩⟩
            · rintro σ H' ⟨v, w, rfl, sm⟩
              exact k _ sm
    | lst ds =>
      cases n with
      | zero => exact hf.elim
      | succ n =>
        obtain ⟨hlen, hf⟩ := hf
        cases hg with
        | @lst a xs _ na hxa rxa =>
          cases he with
          | @lst b ys _ nb hyb ryb =>
            have tb := (Val.lst nb hyb ryb).ty
            have ta := (Val.lst na hxa rxa).ty
            refine ⟨_, rfl, rfl, _, rfl, iteF ⟨_, rfl, _, rfl, _, rfl, iteF ⟨_, rfl, _, rfl, _, rfl, iteF ?_⟩⟩⟩
            refine ⟨_, rfl, _, _, _, _, _, rfl, .ty _, tb, isC_kit .int (.lst ds), _, rfl, iteF ?_⟩
            refine ⟨_, rfl, _, _, _, _, _, rfl, .ty _, tb, isC_kit .str (.lst ds), _, rfl, iteF ?_⟩
            refine ⟨_, rfl, _, _, _, _, _, rfl, .ty _, tb, isC_kit .dict (.lst ds), _, rfl, iteF ?_⟩
            refine ⟨_, rfl, _, _, _, _, _, rfl, .ty _, tb, isC_kit .list (.lst ds), _, rfl, iteT ?_⟩
            refine ⟨_, rfl, _, _, _, _, _, rfl, .ty _, ta, isC_kit .list (.lst ds), _, rfl, iteF ?_⟩
            refine ⟨_, rfl, _, _, _, _, _, rfl, .ty _, tb, isC_kit .tuple (.lst ds), _, rfl, iteF (iteF ?_)⟩
            -- isinstance(due, (list, tuple))
            refine ⟨_, rfl, by show 2 ≤ sizeLine; decide, fun tp htp => ?_⟩
            have s1 : Same H (upd H tp (.tup [.ty "list", .ty "tuple"])) := Same.new htp
            refine ⟨_, tp, _, _, _, true, rfl, upd_same, .cons (.ty _) (.cons (.ty _) .nil), (Val.same s1 (Val.lst nb hyb ryb)).ty, (kitAny_cons (isC_kit .list (.lst ds)) (fun h => by cases h) (fun _ => rfl)), _, rfl, iteF ?_⟩
            refine ⟨_, rfl, _, _, rfl, .inl (s1.seq hxa), _, rfl, _, _, rfl, .inl (s1.seq hyb), rfl, _, rfl, ?_⟩
            refine ite_nn (by rw [rxa.length, ryb.length]) ?_
            refine ⟨_, rfl, _, _, rfl, .inl (s1.seq hyb), _, rfl, by omega, ?_, ?_⟩
            · have := ryb.length
              omega
            refine for_range (lo := 0) (n := ((ys.length : Int)).toNat) (fun i σ H' => ∃ v w, σ = [some (.ref a), some (.ref b), w, v] ∧ Same H H') ⟨none, none, rfl, s1⟩ ?_ ?_
            · rintro i σ H' hi ⟨v, w, rfl, sm⟩
              have hiy : i < ys.length := by omega
              have hix : i < xs.length := by rw [rxa.length, ← ryb.length]; exact hiy
              obtain ⟨dx, hdx, vx⟩ := rxa.get (List.getElem?_eq_getElem hix)
              obtain ⟨dy, hdy, vy⟩ := ryb.get (List.getElem?_eq_getElem hiy)
              rw [hdx] at hdy
              cases hdy
              have ei : (0 : Int) + (i : Int) = (i : Int) := by omega
              refine ⟨_, rfl, _, rfl, ?_⟩
              rw [ei]
              refine rIx_at (.inl (sm.seq hxa)) (List.getElem?_eq_getElem hix) ?_
              refine ⟨_, rfl, _, rfl, ?_⟩
              refine rIx_at (.inl (sm.seq hyb)) (List.getElem?_eq_getElem hiy) ?_
              exact ⟨st, _, _, dx, rfl, vx.same sm, vy.same sm, hf _ (List.mem_of_getElem? hdx), fun H2 s2 => ⟨_, rfl, iteF ⟨_, _, rfl, sm.trans s2⟩⟩⟩
            · rintro σ H' ⟨v, w, rfl, sm⟩
              exact k _ sm
theorem ok_same {f : Addr} {fd : FuncData} (F : Fun K "_law_same" "_law_same" s_same f fd) (T : TxtD K mg) (hm : mg "_law_same" = some (.ref f)) (hb : Binds K fd ["_law_got", "_law_due"] []) : ∀ n, FnOk P w K mg base CX0 (n + 1) f fd ["_law_got", "_law_due"] (spSame K n)
  | 0 => ⟨fun _ _ _ _ h => h.elim, fun _ _ _ _ _ _ _ _ _ _ _ _ _ h => h.elim⟩
  | n + 1 => ok_same_step F T ⟨f, fd, ok_same F T hm hb n, hm, F.kp, hb⟩
end
end K00

set_option Elab.async false
set_option linter.all false
set_option maxRecDepth 100000
set_option maxHeartbeats 4000000
namespace K00
open PySem L2
/-! ### what a written value gives: new objects alone are laid -/
section
variable {K : PySem.W.Frag} {st : Addr} {σ : L2.St} {H : Hp}
/-- the expression gives a value that is d -/
def Gv (K : PySem.W.Frag) (st : Addr) (σ : L2.St) (H : Hp) (t : TE) (d : D) : Prop := ∀ H1, Same H H1 → ∀ Q : VK, (∀ v H2, Same H1 H2 → Val K st H2 v d → Q v H2) → t σ H1 Q
def GvA (K : PySem.W.Frag) (st : Addr) (σ : L2.St) (H : Hp) (t : TA) (ds : List D) : Prop := ∀ H1, Same H H1 → ∀ Q : List V → Hp → Prop, (∀ vs H2, Same H1 H2 → ValAll K st H2 vs ds → Q vs H2) → t σ H1 Q
/-- .. a list that may be written -/
def GvL (K : PySem.W.Frag) (st : Addr) (σ : L2.St) (H : Hp) (t : TE) (ds : List D) : Prop := ∀ H1, Same H H1 → ∀ Q : VK, (∀ p vs H2, Same H1 H2 → p ≠ st → H2 p = some (.lst vs) → ValAll K st H2 vs ds → Q (.ref p) H2) → t σ H1 Q
theorem Gv.pure {t : TE} {v : V} {d : D} (hv : ∀ H', Val K st H' v d) (h : ∀ H1 Q, Q v H1 → t σ H1 Q) : Gv K st σ H t d := fun H1 _ Q k => h H1 Q (k v H1 (Same.refl _) (hv H1))
theorem Gv.int {i : Int} : Gv K st σ H (tC (.int i)) (.int i) := .pure (fun _ => .int i) fun _ _ q => q
theorem Gv.bl {b : Bool} : Gv K st σ H (tC (.bl b)) (.bl b) := .pure (fun _ => .bl b) fun _ _ q => q
theorem Gv.str {z : Str} : Gv K st σ H (tC (.str z)) (.str z) := .pure (fun _ => .str z) fun _ _ q => q
theorem Gv.non : Gv K st σ H (tC .non) .non := .pure (fun _ => .non) fun _ _ q => q
theorem Gv.neg {i : Int} : Gv K st σ H (tUn (rU fun i => .int (-i)) (tC (.int i))) (.int (-i)) := .pure (fun _ => .int (-i)) fun _ _ q => ⟨_, rfl, q⟩
theorem Gv.var {i : Nat} {v : V} {d : D} (h : σ[i]? = some (some v)) (hv : ∀ H', Val K st H' v d) : Gv K st σ H (tVar i) d := .pure hv fun _ _ q => ⟨_, h, q⟩
theorem Gv.varH {i : Nat} {v : V} {d : D} (h : σ[i]? = some (some v)) (hv : Val K st H v d) : Gv K st σ H (tVar i) d := fun H1 s1 Q k => ⟨_, h, k v H1 (Same.refl _) (hv.same s1)⟩
theorem GvA.nil : GvA K st σ H tNil [] := fun H1 _ Q k => k [] H1 (Same.refl _) .nil
theorem GvA.cons {te : TE} {t : TA} {d : D} {ds : List D} (h : Gv K st σ H te d) (r : GvA K st σ H t ds) : GvA K st σ H (tCons te t) (d :: ds) := fun H1 s1 Q k =>
  h H1 s1 _ fun v H2 s2 hv => r H2 (s1.trans s2) _ fun vs H3 s3 hvs => k (v :: vs) H3 (s2.trans s3) (.cons (hv.same s3) hvs)
theorem Gv.tup {t : TA} {ds : List D} (h : GvA K st σ H t ds) (hl : ds.length ≤ 1000) : Gv K st σ H (tTup t) (.tup ds) := fun H1 s1 Q k =>
  h H1 s1 _ fun vs H2 s2 hvs => ⟨by rw [hvs.length, sizeLine_eq]; omega, fun p hp => k _ _ (s2.trans (Same.new hp)) (.tup (SqT.of upd_same) (hvs.same (Same.new hp)))⟩
theorem GvL.lst {t : TA} {ds : List D} (hs : StAt H st) (h : GvA K st σ H t ds) (hl : ds.length ≤ 1000) : GvL K st σ H (tLst t) ds := fun H1 s1 Q k =>
  h H1 s1 _ fun vs H2 s2 hvs => ⟨by rw [hvs.length, sizeLine_eq]; omega, fun p hp => k p vs _ (s2.trans (Same.new hp)) (fun e => by
    obtain ⟨_, _, _, _, _, _, _, q, _⟩ := hs
    rw [e, (s1.trans s2) _ _ q] at hp
    cases hp) upd_same (hvs.same (Same.new hp))⟩
theorem GvL.gv {t : TE} {ds : List D} (h : GvL K st σ H t ds) : Gv K st σ H t (.lst ds) := fun H1 s1 Q k =>
  h H1 s1 Q fun p vs H2 s2 n hp hvs => k _ _ s2 (.lst n (SqL.of hp) hvs)
theorem Gv.lst {t : TA} {ds : List D} (hs : StAt H st) (h : GvA K st σ H t ds) (hl : ds.length ≤ 1000) : Gv K st σ H (tLst t) (.lst ds) := (GvL.lst hs h hl).gv
theorem Gv.dct (hs : StAt H st) : Gv K st σ H tDNewK .dct := fun H1 s1 Q k d hd => k _ _ (Same.new hd) (.dct (fun e => by
    obtain ⟨_, _, _, _, _, _, _, q, _⟩ := hs
    rw [e, s1 _ _ q] at hd
    cases hd) upd_same)
theorem GvL.var {i : Nat} {p : Addr} {vs : List V} {ds : List D} (h : σ[i]? = some (some (.ref p))) (n : p ≠ st) (hp : H p = some (.lst vs)) (hv : ValAll K st H vs ds) : GvL K st σ H (tVar i) ds := fun H1 s1 Q k =>
  ⟨_, h, k p vs H1 (Same.refl _) n (s1 _ _ hp) (hv.same s1)⟩
theorem ValAll.append : ∀ {xs ys : List V} {ds es : List D}, ValAll K st H xs ds → ValAll K st H ys es → ValAll K st H (xs ++ ys) (ds ++ es)
  | _, _, _, _, .nil, s => s
  | _, _, _, _, .cons h r, s => .cons h (r.append s)
theorem GvL.cat {ta tb : TE} {ds es : List D} (hs : StAt H st) (ha : GvL K st σ H ta ds) (hb : GvL K st σ H tb es) (hl : ds.length + es.length ≤ 1000) : GvL K st σ H (tOp rCat ta tb) (ds ++ es) := fun H1 s1 Q k =>
  ha H1 s1 _ fun p vs H2 s2 n hp hv => hb H2 (s1.trans s2) _ fun q ws H3 s3 m hq hw => ⟨p, q, vs, ws, rfl, rfl, s3 _ _ hp, hq, by rw [hv.length, hw.length, sizeLine_eq]; omega, fun r hr =>
    k r _ _ ((s2.trans s3).trans (Same.new hr)) (fun e => by
      obtain ⟨_, _, _, _, _, _, _, y, _⟩ := hs
      rw [e, ((s1.trans s2).trans s3) _ _ y] at hr
      cases hr) upd_same ((((hv.same s3)).append hw).same (Same.new hr))⟩
end
theorem asg_of {te : TE} {i : Nat} {u : TS} {D : Ends} {σ : L2.St} {H : Hp} (h : te σ H fun x H1 => u D (σ.set i (some x)) H1) : tSeq (tAsg te (gName i)) u D σ H := h
/-- the numbers of a pair are below 2 ^ 200 -/
def Bo (d : D) : Prop := ∀ n m, d = .tup [.int n, .int m] → n.natAbs < 2 ^ 200 ∧ m.natAbs < 2 ^ 200
mutual
/-- no list, no dict in it -/
def noL : D → Bool
  | .tup ds => noLs ds
  | .lst _ => false
  | .dct => false
  | .non => true
  | .bl _ => true
  | .int _ => true
  | .str _ => true
def noLs : List D → Bool
  | [] => true
  | d :: ds => noL d && noLs ds
end
/-- an odd value -/
def Od (ne : Bool) (d : D) : Prop := (noL d = true ∧ ∀ i, d = .int i → i.natAbs < 2 ^ 200) ∨ (∃ is : List Int, d = .lst (is.map D.int) ∧ is.length ≤ 3 ∧ (ne = true → is ≠ [])) ∨ d = .dct
def spOdd (K : PySem.W.Frag) (ne : Bool) : Sp := fun vs H Q _ => ∃ (st : Addr), (vs = [.ref st] ∨ ∃ b, vs = [.ref st, .bl b]) ∧ StAt H st ∧ ∀ (v : V) (d : D) (H' : Hp), Ext st H H' → Val K st H' v d → Bo d → Od ne d → Q v H'
theorem bd_pair {a b : Int} (ha : a.natAbs < 2 ^ 200) (hb : b.natAbs < 2 ^ 200) : Bo (.tup [.int a, .int b]) := fun n m e => by
  cases e
  exact ⟨ha, hb⟩
section
variable {P : Program} {w : World} {K : PySem.W.Frag} {mg : Str → Option Value} {base : Heap}
abbrev s_not_integer : Stmt := top 68
theorem sc_not_integer : FnScope ["_law_store_here", "_law_ways"] ["_law_store_here"] (defScope s_not_integer) := ⟨rfl, rfl, rfl, by decide +kernel, rfl, by decide +kernel, by decide +kernel⟩
theorem ok_not_integer {f : Addr} {fd : FuncData} (F : Fun K "_law_not_integer" "_law_not_integer" s_not_integer f fd) (T : TxtD K mg) (c_edge : Callee P w K mg base CX0 127 "_law_edge" psT spEdge) :
    FnOk P w K mg base CX0 128 f fd ["_law_store_here"] (fun vs H Q E => spOdd K false vs H Q E ∧ vs.length = 1) := by
  refine F.ok sc_not_integer (fun vs H Q E h => h.2) (fun cdv A outer s H vs Q E hr h => ?_)
  · obtain ⟨⟨st, hvs, hS, k⟩, hl⟩ := h
    obtain rfl : vs = [.ref st] := by
      rcases hvs with e | ⟨b, e⟩
      · exact e
      · rw [e] at hl
        cases hl
    refine ⟨_, (pss_cons (ps_set (i := 1) sc_not_integer.nd rfl (Or.inl rfl) (pe_lst (pa_cons pe_bl (pa_cons pe_bl (pa_cons pe_non (pa_cons pe_str (pa_cons pe_str (pa_cons (pe_tup (pa_cons pe_int (pa_cons pe_int pa_nil))) (pa_cons (pe_tup (pa_cons pe_int (pa_cons pe_int pa_nil))) (pa_cons (pe_lst (pa_cons pe_int pa_nil)) (pa_cons (pe_tup (pa_cons pe_int pa_nil)) (pa_cons pe_dnewK (pa_cons (pe_lst pa_nil) pa_nil)))))))))))))
  (pss_one (ps_ret (pe_ix ix_list (pv 1) (pe_fn c_edge (hr.mono (by decide)) (by rfl) pass0 (pa_cons (pv 0) (pa_cons (pe_callB call_len_seq (by rfl) T.len PySem.boot_len (pa_cons (pv 1) pa_nil)) pa_nil))) (fun _ _ => rfl))))), ?_⟩
    refine asg_of ?_
    refine GvL.lst (K := K) (st := st) hS (.cons .bl (.cons .bl (.cons .non (.cons .str (.cons .str (.cons (.tup (.cons .int (.cons .int .nil)) (Nat.le_of_ble_eq_true rfl)) (.cons (.tup (.cons .int (.cons .int .nil)) (Nat.le_of_ble_eq_true rfl)) (.cons (.lst hS (.cons .int .nil) (Nat.le_of_ble_eq_true rfl)) (.cons (.tup (.cons .int .nil) (Nat.le_of_ble_eq_true rfl)) (.cons (.dct hS) (.cons (.lst hS .nil (Nat.le_of_ble_eq_true rfl)) .nil))))))))))) (Nat.le_of_ble_eq_true rfl) H (Same.refl H) _ (fun p vs H1 s1 np hp hv => ?_)
    have x1 := Ext.ofSame hS s1
    refine ⟨_, rfl, _, rfl, _, rfl, p, vs, rfl, .inl (SqL.of hp), st, _, rfl, x1.at_, lim124s (by rw [hv.length]; exact Int.le_of_sub_nonneg (by decide)), fun r H2 r2 x2 => ?_⟩
    have hp2 : H2 p = some (.lst vs) := x2.old _ _ np hp
    have r0 := r2.1
    have hl : vs.length = 11 := hv.length
    have r1 : r < (vs.length : Int) := by have := r2.2; omega
    have hi : r.toNat < vs.length := by omega
    obtain ⟨d, hd, hvd⟩ := (hv.ext x1.at_ x2).get (List.getElem?_eq_getElem hi)
    refine ⟨_, _, _, _, rfl, rfl, SqL.of hp2, at_of (j := r.toNat) (by omega) (List.getElem?_eq_getElem hi), k _ d _ (x1.trans x2) hvd ?_ ?_⟩
    all_goals have hm := List.mem_of_getElem? hd
    all_goals simp only [List.mem_cons, List.not_mem_nil, or_false] at hm
    · rcases hm with rfl | rfl | rfl | rfl | rfl | rfl | rfl | rfl | rfl | rfl | rfl <;> first | exact bd_pair (by decide) (by decide) | (intro n m e; cases e)
    · rcases hm with rfl | rfl | rfl | rfl | rfl | rfl | rfl | rfl | rfl | rfl | rfl <;> first | exact .inl ⟨rfl, fun i h => by cases h <;> decide⟩ | exact .inr (.inr rfl) | exact .inr (.inl ⟨[_], rfl, by decide, fun h => Bool.noConfusion h⟩) | exact .inr (.inl ⟨[], rfl, by decide, fun h => Bool.noConfusion h⟩)
abbrev s_not_ratio : Stmt := top 67
theorem sc_not_ratio : FnScope ["_law_store_here", "_law_none_too", "_law_up", "_law_by", "_law_ways"] ["_law_store_here", "_law_none_too"] (defScope s_not_ratio) := ⟨rfl, rfl, rfl, by decide +kernel, rfl, by decide +kernel, by decide +kernel⟩
theorem ok_not_ratio {f : Addr} {fd : FuncData} (F : Fun K "_law_not_ratio" "_law_not_ratio" s_not_ratio f fd) (T : TxtD K mg) (c_take : Callee P w K mg base CX0 126 "_law_take" psT (spTake 125)) (c_edge : Callee P w K mg base CX0 127 "_law_edge" psT spEdge)
    (c_between : Callee P w K mg base CX0 128 "_law_between" psB spBetween) :
    FnOk P w K mg base CX0 129 f fd ["_law_store_here", "_law_none_too"] (fun vs H Q E => spOdd K true vs H Q E ∧ vs.length = 2) := by
  refine F.ok sc_not_ratio (fun vs H Q E h => h.2) (fun cdv A outer s H vs Q E hr h => ?_)
  · obtain ⟨⟨st, hvs, hS, k⟩, hl⟩ := h
    obtain ⟨nt, rfl⟩ : ∃ nt, vs = [V.ref st, V.bl nt] := by
      rcases hvs with e | h
      · rw [e] at hl
        cases hl
      · exact h
    refine ⟨_, (C8.pss_cut (ps_if (PW.pt (pw_and (pt_val (pv 1)) (pw_and1 (pt_cmpR op_eq (pe_fn c_take (hr.mono (by decide)) (by rfl) pass0 (pa_cons (pv 0) (pa_cons pe_int pa_nil))) pe_int (nomark _))))) (pss_one (ps_ret pe_non)) pss_nil)
  (pss_cons (ps_set (i := 2) sc_not_ratio.nd rfl (Or.inl rfl) (pe_fn c_between (hr.mono (by decide)) (by rfl) pass0 (pa_cons (pv 0) (pa_cons (pe_un un_neg pe_int) (pa_cons pe_int pa_nil)))))
  (pss_cons (ps_set (i := 3) sc_not_ratio.nd rfl (Or.inl rfl) (pe_op op_add pe_int (pe_fn c_take (hr.mono (by decide)) (by rfl) pass0 (pa_cons (pv 0) (pa_cons pe_int pa_nil)))))
  (pss_cons (ps_set (i := 4) sc_not_ratio.nd rfl (Or.inl rfl) (pe_lst (pa_cons pe_int (pa_cons pe_int (pa_cons pe_bl (pa_cons pe_str (pa_cons pe_str (pa_cons (pe_tup (pa_cons pe_int pa_nil)) (pa_cons (pe_tup pa_nil) (pa_cons (pe_tup (pa_cons pe_int (pa_cons pe_int pa_nil))) (pa_cons (pe_tup (pa_cons pe_int (pa_cons pe_int pa_nil))) (pa_cons (pe_tup (pa_cons pe_int (pa_cons pe_int pa_nil))) (pa_cons (pe_tup (pa_cons pe_int (pa_cons (pe_un un_neg pe_int) pa_nil))) (pa_cons (pe_tup (pa_cons pe_int (pa_cons (pe_un un_neg pe_int) pa_nil))) (pa_cons (pe_tup (pa_cons pe_bl (pa_cons pe_int pa_nil))) (pa_cons (pe_tup (pa_cons pe_int (pa_cons pe_bl pa_nil))) pa_nil))))))))))))))))
  (pss_cons (ps_set (i := 4) sc_not_ratio.nd rfl (Or.inl rfl) (pe_op op_cat (pv 4) (pe_lst (pa_cons (pe_tup (pa_cons pe_bl (pa_cons pe_int pa_nil))) (pa_cons (pe_tup (pa_cons pe_int (pa_cons pe_int (pa_cons pe_int pa_nil)))) (pa_cons (pe_tup (pa_cons pe_str (pa_cons pe_int pa_nil))) (pa_cons (pe_tup (pa_cons pe_int (pa_cons pe_str pa_nil))) (pa_cons (pe_tup (pa_cons pe_non (pa_cons pe_int pa_nil))) (pa_cons (pe_tup (pa_cons pe_int (pa_cons pe_non pa_nil))) (pa_cons (pe_tup (pa_cons (pe_tup (pa_cons pe_int (pa_cons pe_int pa_nil))) (pa_cons (pe_tup (pa_cons pe_int (pa_cons pe_int pa_nil))) pa_nil))) (pa_cons (pe_tup (pa_cons (pe_tup (pa_cons pe_int (pa_cons pe_int pa_nil))) (pa_cons pe_int pa_nil))) (pa_cons pe_dnewK pa_nil))))))))))))
  (pss_cons (ps_set (i := 4) sc_not_ratio.nd rfl (Or.inl rfl) (pe_op op_cat (pv 4) (pe_lst (pa_cons (pe_lst (pa_cons (pv 2) (pa_cons pe_int pa_nil))) (pa_cons (pe_lst (pa_cons pe_int (pa_cons pe_int pa_nil))) (pa_cons (pe_tup (pa_cons (pe_op op_mulW (pv 2) (pv 3)) (pa_cons (pv 3) pa_nil))) (pa_cons (pe_tup (pa_cons (pv 3) (pa_cons (pe_op op_mulW pe_int (pv 3)) pa_nil))) (pa_cons (pe_tup (pa_cons (pe_un un_neg (pv 3)) (pa_cons (pe_op op_mulW pe_int (pv 3)) pa_nil))) (pa_cons (pe_tup (pa_cons (pe_op op_pow pe_int pe_int) (pa_cons (pe_op op_pow pe_int pe_int) pa_nil))) pa_nil)))))))))
  (pss_one (ps_ret (pe_ix ix_list (pv 4) (pe_fn c_edge (hr.mono (by decide)) (by rfl) pass0 (pa_cons (pv 0) (pa_cons (pe_callB call_len_seq (by rfl) T.len PySem.boot_len (pa_cons (pv 4) pa_nil)) pa_nil))) (fun _ _ => rfl)))))))))), ?_⟩
    have rest : ∀ H1, Ext st H H1 → True := fun _ _ => trivial
    refine ⟨fun σ H1 => σ = [some (.ref st), some (.bl nt), none, none, none] ∧ Ext st H H1, ?_, ?_⟩
    · refine ⟨_, rfl, _, rfl, ?_⟩
      cases nt with
      | false => exact iteF (iteF ⟨rfl, hS.ext⟩)
      | true =>
        refine iteT ⟨_, rfl, st, 6, rfl, hS, lim124s (by decide), fun r H1 r1 x1 => ⟨rfl, _, rfl, ite2 (fun _ => ?_) (fun _ => ?_)⟩⟩
        · exact k _ .non _ x1 .non (fun n m e => by cases e) (.inl ⟨rfl, fun i h => by cases h⟩)
        · exact ⟨rfl, x1⟩
    · rintro σ H1 ⟨rfl, x1⟩
      refine ⟨_, rfl, _, rfl, st, -4, 4, rfl, x1.at_, by decide, by decide, fun u H2 u0 u4 x2 => ?_⟩
      refine ⟨_, rfl, st, 3, rfl, x2.at_, lim124s (by decide), fun b' H3 rb x3 => ⟨_, _, rfl, rfl, ?_⟩⟩
      have b0 := rb.1
      have b3 : b' < 3 := by have := rb.2; omega
      have hS3 := x3.at_
      have x13 := (x1.trans x2).trans x3
      try dsimp only [gName]
      refine asg_of ?_
      refine GvL.lst (K := K) (st := st) hS3 (.cons .int (.cons .int (.cons .bl (.cons .str (.cons .str (.cons (.tup (.cons .int .nil) (Nat.le_of_ble_eq_true rfl)) (.cons (.tup .nil (Nat.le_of_ble_eq_true rfl)) (.cons (.tup (.cons .int (.cons .int .nil)) (Nat.le_of_ble_eq_true rfl)) (.cons (.tup (.cons .int (.cons .int .nil)) (Nat.le_of_ble_eq_true rfl)) (.cons (.tup (.cons .int (.cons .int .nil)) (Nat.le_of_ble_eq_true rfl)) (.cons (.tup (.cons .int (.cons .neg .nil)) (Nat.le_of_ble_eq_true rfl)) (.cons (.tup (.cons .int (.cons .neg .nil)) (Nat.le_of_ble_eq_true rfl)) (.cons (.tup (.cons .bl (.cons .int .nil)) (Nat.le_of_ble_eq_true rfl)) (.cons (.tup (.cons .int (.cons .bl .nil)) (Nat.le_of_ble_eq_true rfl)) .nil)))))))))))))) (Nat.le_of_ble_eq_true rfl) H3 (Same.refl H3) _ (fun p vs H4 s4 np hp hv => ?_)
      have hS4 := hS3.same s4
      try dsimp only [gName]
      refine asg_of ?_
      refine GvL.cat (K := K) (st := st) (H := H4) hS4 (GvL.var rfl np hp hv) (GvL.lst hS4 (.cons (.tup (.cons .bl (.cons .int .nil)) (Nat.le_of_ble_eq_true rfl)) (.cons (.tup (.cons .int (.cons .int (.cons .int .nil))) (Nat.le_of_ble_eq_true rfl)) (.cons (.tup (.cons .str (.cons .int .nil)) (Nat.le_of_ble_eq_true rfl)) (.cons (.tup (.cons .int (.cons .str .nil)) (Nat.le_of_ble_eq_true rfl)) (.cons (.tup (.cons .non (.cons .int .nil)) (Nat.le_of_ble_eq_true rfl)) (.cons (.tup (.cons .int (.cons .non .nil)) (Nat.le_of_ble_eq_true rfl)) (.cons (.tup (.cons (.tup (.cons .int (.cons .int .nil)) (Nat.le_of_ble_eq_true rfl)) (.cons (.tup (.cons .int (.cons .int .nil)) (Nat.le_of_ble_eq_true rfl)) .nil)) (Nat.le_of_ble_eq_true rfl)) (.cons (.tup (.cons (.tup (.cons .int (.cons .int .nil)) (Nat.le_of_ble_eq_true rfl)) (.cons .int .nil)) (Nat.le_of_ble_eq_true rfl)) (.cons (.dct hS4) .nil))))))))) (Nat.le_of_ble_eq_true rfl)) (Nat.le_of_ble_eq_true rfl) H4 (Same.refl H4) _ (fun p5 vs5 H5 s5 np5 hp5 hv5 => ?_)
      have hS5 := hS4.same s5
      have x15 := (x13.trans (Ext.ofSame hS3 s4)).trans (Ext.ofSame hS4 s5)
      have cm1 : CMulW u (2 + b') := cmul_of ⟨by omega, by omega⟩ ⟨by omega, by omega⟩
      have cm2 : CMulW 2 (2 + b') := cmul_of ⟨by omega, by omega⟩ ⟨by omega, by omega⟩
      try dsimp only [gName]
      refine asg_of ?_
      refine GvL.cat (K := K) (st := st) (H := H5) hS5 (GvL.var rfl np5 hp5 hv5) (GvL.lst hS5 (.cons (.lst hS5 (.cons (.var rfl (fun _ => .int _)) (.cons .int .nil)) (Nat.le_of_ble_eq_true rfl)) (.cons (.lst hS5 (.cons .int (.cons .int .nil)) (Nat.le_of_ble_eq_true rfl)) (.cons (.tup (.cons (.pure (fun _ => .int _) fun _ _ q => ⟨_, rfl, _, rfl, _, _, rfl, rfl, cm1, q⟩) (.cons (.var rfl (fun _ => .int _)) .nil)) (Nat.le_of_ble_eq_true rfl)) (.cons (.tup (.cons (.var rfl (fun _ => .int _)) (.cons (.pure (fun _ => .int _) fun _ _ q => ⟨_, rfl, _, _, rfl, rfl, cm2, q⟩) .nil)) (Nat.le_of_ble_eq_true rfl)) (.cons (.tup (.cons (.pure (fun _ => .int _) fun _ _ q => ⟨_, rfl, _, rfl, q⟩) (.cons (.pure (fun _ => .int _) fun _ _ q => ⟨_, rfl, _, _, rfl, rfl, cm2, q⟩) .nil)) (Nat.le_of_ble_eq_true rfl)) (.cons (.tup (.cons (.pure (fun _ => .int _) fun _ _ q => ⟨_, _, rfl, rfl, ⟨by decide, by decide, by decide⟩, q⟩) (.cons (.pure (fun _ => .int _) fun _ _ q => ⟨_, _, rfl, rfl, ⟨by decide, by decide, by decide⟩, q⟩) .nil)) (Nat.le_of_ble_eq_true rfl)) .nil)))))) (Nat.le_of_ble_eq_true rfl)) (Nat.le_of_ble_eq_true rfl) H5 (Same.refl H5) _ (fun p6 vs6 H6 s6 np6 hp6 hv6 => ?_)
      have hS6 := hS5.same s6
      have x16 := x15.trans (Ext.ofSame hS5 s6)
      have hl : vs6.length = 29 := hv6.length
      refine ⟨_, rfl, _, rfl, _, rfl, p6, vs6, rfl, .inl (SqL.of hp6), st, _, rfl, hS6, lim124s (by rw [hl]; decide), fun r H7 r7 x7 => ?_⟩
      have hp7 : H7 p6 = some (.lst vs6) := x7.old _ _ np6 hp6
      have r0 := r7.1
      have r1 : r < (vs6.length : Int) := by have := r7.2; omega
      have hi : r.toNat < vs6.length := by omega
      obtain ⟨d, hd, hvd⟩ := (hv6.ext hS6 x7).get (List.getElem?_eq_getElem hi)
      refine ⟨_, _, _, _, rfl, rfl, SqL.of hp7, at_of (j := r.toNat) (by omega) (List.getElem?_eq_getElem hi), k _ d _ (x16.trans x7) hvd ?_ ?_⟩
      all_goals have hm := List.mem_of_getElem? hd
      all_goals simp only [List.mem_cons, List.mem_append, List.not_mem_nil, or_false] at hm
      · have um : ∀ (z : Int), -100 ≤ z → z ≤ 100 → z.natAbs < 2 ^ 200 := fun z a b => pow_up (k := 7) (by omega) (by decide)
        have ub : (u * (2 + b')).natAbs < 2 ^ 200 := by
          have : b' = 0 ∨ b' = 1 ∨ b' = 2 := by omega
          rcases this with rfl | rfl | rfl <;> exact um _ (by omega) (by omega)
        rcases hm with ((rfl | rfl | rfl | rfl | rfl | rfl | rfl | rfl | rfl | rfl | rfl | rfl | rfl | rfl) | (rfl | rfl | rfl | rfl | rfl | rfl | rfl | rfl | rfl)) | (rfl | rfl | rfl | rfl | rfl | rfl) <;>
          first | exact bd_pair (by decide) (by decide) | exact bd_pair ub (um _ (by omega) (by omega)) | exact bd_pair (um _ (by omega) (by omega)) (um _ (by omega) (by omega)) | (intro n m e; cases e)
      · rcases hm with ((rfl | rfl | rfl | rfl | rfl | rfl | rfl | rfl | rfl | rfl | rfl | rfl | rfl | rfl) | (rfl | rfl | rfl | rfl | rfl | rfl | rfl | rfl | rfl)) | (rfl | rfl | rfl | rfl | rfl | rfl) <;>
          first | exact .inl ⟨rfl, fun i h => by cases h <;> decide⟩ | exact .inr (.inr rfl) | exact .inr (.inl ⟨[_, _], rfl, by show 2 ≤ 3; decide, fun _ h => by cases h⟩)
end
end K00

set_option Elab.async false
set_option linter.all false
set_option maxRecDepth 100000
set_option maxHeartbeats 4000000
namespace K00
open PySem L2
/-! ### an own error whose __init__ hands a text on to super().__init__ and keeps one thing -/
def spTold (K : PySem.W.Frag) : Sp := fun vs H Q _ => ∃ (st : Addr) (v : V) (d : D), vs = [v] ∧ Val K st H v d ∧ (∀ z, d = .str z → z.length ≤ 1000) ∧ ∀ z : Str, z.length ≤ 2000 → Q (.str z) H
section
variable {P : Program} {w : World} {K : PySem.W.Frag} {mg : Str → Option Value} {base : Heap}
abbrev s_p_told : Stmt := top 2
theorem sc_p_told : FnScope ["value"] ["value"] (defScope s_p_told) := ⟨rfl, rfl, rfl, by decide +kernel, rfl, by decide +kernel, by decide +kernel⟩
theorem ok_told {f : Addr} {fd : FuncData} (F : Fun K "_told" "_told" s_p_told f fd) (T : TxtD K mg) : FnOk P w K mg base CX0 1 f fd ["value"] (spTold K) := by
  refine F.ok sc_p_told (fun vs H Q E h => ?_) (fun cdv A outer s H vs Q E hr h => ?_)
  · obtain ⟨_, _, _, rfl, _⟩ := h
    rfl
  · obtain ⟨st, v, d, rfl, hv, hz, k⟩ := h
    refine ⟨_, pss_one (ps_ret (pe_ifExp (pt_val (pe_callB call_isi (by rfl) T.isinstance (by decide +kernel) (pa_cons (pv 0) (pa_cons (pe_bltn (v := .ty "str") (by rfl) T.str (by decide +kernel) rfl) pa_nil)))) (pe_joined (PJ.cons pe_str (PJ.cons (pe_fmt (pv 0)) PJ.nil))) pe_str)), ?_⟩
    refine ⟨_, rfl, _, _, _, _, _, rfl, .ty _, hv.ty, isC_kit .str _, _, rfl, ?_⟩
    have e0 : ∀ z : Str, (Str.empty ++ (": " : Str) ++ z).length = 2 + z.length := fun z => by
      show ((#[] ++ (": " : Str).cps) ++ z.cps).size = 2 + z.cps.size
      rw [Array.size_append, Array.size_append]
      rfl
    cases hv with
    | str z =>
      have hz' := hz z rfl
      refine iteT ⟨_, rfl, by show _ ≤ sizeLine; decide +kernel, _, rfl, .inl ⟨z, rfl, by rw [sizeLine_eq]; omega, _, rfl, ?_, ?_⟩⟩
      · rw [e0, sizeLine_eq]; omega
      · exact k _ (by rw [e0]; omega)
    | non => exact iteF (k _ (by decide +kernel))
    | bl b => exact iteF (k _ (by decide +kernel))
    | int i => exact iteF (k _ (by decide +kernel))
    | tup h r => exact iteF (k _ (by decide +kernel))
    | lst n h r => exact iteF (k _ (by decide +kernel))
    | dct n h => exact iteF (k _ (by decide +kernel))
end
end K00

set_option Elab.async false
set_option linter.all false
set_option maxRecDepth 100000
set_option maxHeartbeats 4000000
namespace K00
open PySem L2
/-! ### such an __init__ as a def: its frame -/
section
open PySem.W PySem.Calls PyProof.Rows
variable {P : Program} {w : World} {K : Frag} {mg : Str → Option Value} {base : Heap}
/-- what the written part says of the def at f, whose class is the one at D -/
structure InitF (P : Program) (K : Frag) (mg : Str → Option Value) (st : Stmt) (qual : Str) (D f : Addr) (fd : FuncData) : Prop where
  ex : ∃ (oc : Value) (od : Option Addr) (dV kV doc pm : Value) (an : Option Addr) (cda : Addr) (ct : Value) (cc : Addr) (osl : Array (Option Value)) (ccl : Value) (cdd : Option Addr) (vs : Array Value) (ccs : Array (Option Value)) (file : Str) (tf : Tok) (cl : Value) (cld : Option Addr) (csl : Array (Option Value)) (cdD : ClassData),
    fd = ksFn "__init__" qual (defArgs st) (defBody st) (defScope st) dV kV doc pm an (.ref cda) ct cc ∧ K.lookup f = some ⟨oc, od, .func fd, osl⟩ ∧ codeIn K (.ref cda) qual = true ∧
    K.lookup cda = some ⟨ccl, cdd, .fields vs, ccs⟩ ∧ vs[2]? = some (.str file tf) ∧ ((P.main.file : Str) == file) = true ∧ K.lookup cc = some ⟨cl, cld, .cell (some (.ref D)), csl⟩ ∧ clsIn K D = some cdD
  su : mg "super" = none
  tp : nsIn K cStatics "thirdparty.any" = some none
  top : (P.main.scope.names.lookup ("super" : Str)).isSome = false
/-- what it says of a class whose instances it makes -/
structure ExcOf (K : Frag) (D C : Addr) : Prop where
  oex : OexC K C
  sub : mroIn K C (.ref D) = some true
  sup : ks_superIn K C D "__init__" = some (some (.builtin "ValueError.__init__"))
  ve : subIn K (.ref C) (.type "ValueError") = some true
def cxI (P : Program) (w : World) (K : Frag) (mg : Str → Option Value) (base : Heap) (N : List Str) (env : Env) (A : Around) (outer : List Env) (s : Shared) (H : Hp) : Cx where
  prog := P
  w := w
  K := K
  mg := mg
  base := base
  A := A.deeper env
  N := N
  s_0 := s
  H_0 := H
  env := env
  outer := outer
  stack := env :: outer
  ex := []
  fn := fun _ => false
  calm := true
  pn := []
  xe := fun _ _ => False
theorem one_cell {cc : Addr} {x : Str} {c : Addr} (h : ([(("__class__" : Str), cc)] : List (Str × Addr)).lookup x = some c) : x = ("__class__" : Str) ∧ c = cc := by
  by_cases e : x = ("__class__" : Str)
  · subst e
    simp [List.lookup] at h
    exact ⟨rfl, h.symm⟩
  · have q : (x == ("__class__" : Str)) = false := by simpa using e
    simp [List.lookup, q] at h
/-- the frame, at the entry -/
theorem inv_init {qual : Str} {scope : Scope} {f cc cda : Addr} {A : Around} {outer : List Env} {s : Shared} {H : Hp} {h₀ : Heap} {tk : Nat} {u v : Value} {x y : V} {fld : Str} {ocell : Obj}
    (hk : scope.kind = .function)
    (hfree : ∀ z, scope.names.lookup z = some .cell ∨ scope.names.lookup z = some .free → z = ("__class__" : Str))
    (hd : A.handled = none) (e0 : Env0 P w K mg base A outer s H) (hne : fld ≠ ("self" : Str))
    (hcell : s.heap.get? cc = some ocell ∧ H cc = none ∧ ∃ v, ocell.data = .cell v)
    (ru : RelV x u) (rv : RelV y v) (ls : scope.names.lookup ("self" : Str) = some .local) (lf : scope.names.lookup fld = some .local)
    (hns : h₀.Ns s.heap.objs.size (fun z => [(("self" : Str), u), (fld, v)].reverse.lookup z)) (hkeep : ∀ b o, s.heap.get? b = some o → h₀.get? b = some o) :
    Inv (cxI P w K mg base ["self", fld] (ksEnv qual scope s.heap.objs.size f (.ref cda) cc) A outer s H) [] [some x, some y] H { s with heap := h₀, toks := tk } := by
  obtain ⟨hc, hc2, hc3⟩ := hcell
  have noA : ∀ b : Addr, b ∉ (cxI P w K mg base ["self", fld] (ksEnv qual scope s.heap.objs.size f (.ref cda) cc) A outer s H).ex := fun b z => absurd (show b ∈ ([] : List Addr) from z) (by simp)
  refine ⟨⟨e0.mod, hk, rfl, rfl, Nat.le_refl _, fun a b c h1 h2 => ?_, fun a ha => ?_, fun a c h => absurd h Bool.false_ne_true, fun _ => hd, Around.frames_deeper e0.frames, .inr ⟨rfl, rfl⟩, fun b z => absurd z (noA b), e0.bs, e0.bsz, fun b _ _ => noA b, fun b z => absurd z (noA b), e0.funs, e0.frf⟩,
    rfl, e0.bare, Un.kept hkeep, ⟨_, hns, fun i z q h1 h2 h3 => ?_⟩, fun a c h => ?_, e0.hok.fresh (Nat.le_refl _), fun a c h => ?_, fun p hp => absurd (show p ∈ ([] : List (Addr × Obj)) from hp) (by simp), e0.hok.kept hkeep, rfl⟩
  · exact (one_cell h1).1.trans (one_cell h2).1.symm
  · have ea := hfree a ha
    subst ea
    exact ⟨cc, by show ([(("__class__" : Str), cc)] : List (Str × Addr)).lookup ("__class__" : Str) = some cc; simp [List.lookup]⟩
  · match i, h1, h2 with
    | 0, h1, h2 =>
      cases h1
      cases h2
      refine ⟨u, ru, .inl ⟨ls, ?_⟩⟩
      have q : (("self" : Str) == fld) = false := by simpa using Ne.symm hne
      show ([(fld, v), (("self" : Str), u)] : List (Str × Value)).lookup ("self" : Str) = some u
      rw [List.lookup_cons, q]
      simp [List.lookup]
    | 1, h1, h2 =>
      cases h1
      cases h2
      refine ⟨v, rv, .inl ⟨lf, ?_⟩⟩
      show ([(fld, v), (("self" : Str), u)] : List (Str × Value)).lookup fld = some v
      simp [List.lookup]
    | i + 2, h1, h2 => cases h1
  · obtain ⟨_, e⟩ := one_cell h
    subst e
    obtain ⟨v, hv⟩ := hc3
    exact ⟨v, ocell, hkeep _ _ hc, hv⟩
  · obtain ⟨_, e⟩ := one_cell h
    subst e
    exact hc2

/-- the wrapper of ValueError.__init__, bound to the error at a, is called: nothing of it is told -/
theorem mw_call {X : Cx} {pins : List (Addr × Obj)} {σ : L2.St} {H : Hp} {s : Shared} {A : Around} {E : Value → Shared → Prop} {a C u : Addr} {us : List Value} {Q : Value → Shared → Prop} (T : OexC X.K C) (I : L2.Inv X pins σ H s) (e : H a = some (exo a C none))
    (hu : s.heap.get? u = some (kxs_mw "ValueError.__init__" a)) (hl : us.length ≤ sizeLine) (h : ∀ s', L2.Inv X pins σ H s' → Q .none s') : wpAny (model X.prog X.w) A (call (.ref u) us) Q E s := by
  obtain ⟨nm, q, N, bs, bm, sn, sub, ab, col, dd, k0, k1, k2, k3, k5, hC, _⟩ := T.cls
  obtain ⟨t1, ho⟩ := exo_at I.hok e
  have hC' := I.kIn _ _ hC
  have fin : ∀ h', (∀ b o, b ≠ a → s.heap.get? b = some o → h'.get? b = some o) → (∃ t2 : Addr, h'.get? a = some ({ cls := .ref C, dict := none, data := .fields #[.ref t2, .none, .none, .none, .bool false, .none] } : Obj)) → Q .none { s with heap := h' } := fun h' k ⟨t2, hx⟩ => by
    have J := I.write (t' := s.toks) (x := a) (e := a) (o := exo a C none) (by rw [e]; exact True.intro) (.inl rfl) k ⟨_, hx⟩ (exo_ok hx)
    have eu : upd H a (exo a C none) = H := funext fun b => by
      by_cases hb : b = a
      · rw [hb, upd_same, e]
      · rw [upd_ne hb]
    rw [eu] at J
    exact h _ J
  obtain ⟨hh, g, d, tk, os⟩ := s
  have mw : (kxs_mw "ValueError.__init__" a).data = .fields #[.builtin "ValueError.__init__", .ref a] := rfl
  refine wpAny_call (codeAny_of_tree ?_)
  show wpAny _ A.in1 (callAny (.ref u) ⟨us, []⟩) _ _ _
  simp only [callAny]
  refine wpAny_bind (wpAny_load hu ?_)
  have two : ((Value.type "method-wrapper" == Value.type "method") || (Value.type "method-wrapper" == Value.type "builtin_function_or_method") || (Value.type "method-wrapper" == Value.type "method-wrapper")) = true := by decide
  dsimp only [kxs_mw]
  rw [if_pos two]
  refine KFB.if_so (by decide) ?_
  refine wpAny_bind (check_bound_init F.excBase_ValueError.toExcCallFacts hC' ho rfl ?_)
  refine wpAny_bind (wpAny_pure (wpAny_pure ?_))
  refine ⟨plainId_quiet F.excBase_ValueError.init.plain _, codeAny_builtin F.excBase_ValueError.initEntry ?_⟩
  exact exc_init_tree (cls := .ref C) (t0 := t1) (dv := none) (c2 := .none) (c3 := .none) (b4 := .bool false) ho hl fun h' k hx _ => fin h' k ⟨_, hx⟩

theorem super_stmt {qual : Str} {scope : Scope} {f cc cda D a C : Addr} {A : Around} {outer : List Env} {s0 s : Shared} {H0 H : Hp} {fld : Str} {y : V} {body : List Stmt} {st : Stmt} {dV kV doc pm ct oc ccl cl : Value} {an od cdd cld : Option Addr} {osl ccs csl : Array (Option Value)} {vs : Array Value} {file : Str} {tf : Tok} {cdD : ClassData}
    {p0 p1 p2 p3 p4 : Pos} {js : List Expr} {pj : Pos} {ta : TA} {ar : Arg} {pl : Sem Bool}
    (I : L2.Inv (cxI P w K mg base ["self", fld] (ksEnv qual scope s0.heap.objs.size f (.ref cda) cc) A outer s0 H0) [] [some (.ref a), some y] H s) (X : ExcOf K D C) (ea : H a = some (exo a C none))
    (hk : scope.kind = .function) (hks : scope.names.lookup ("super" : Str) = some .globalImplicit) (hkc : scope.names.lookup ("__class__" : Str) = some .free) (ls : scope.names.lookup ("self" : Str) = some .local)
    (ho : K.lookup f = some ⟨oc, od, .func (ksFn "__init__" qual (defArgs st) body scope dV kV doc pm an (.ref cda) ct cc), osl⟩) (har : ((defArgs st).posonlyargs ++ (defArgs st).args).head? = some ar) (hself : ar.arg = ("self" : Str))
    (hcode : K.lookup cda = some ⟨ccl, cdd, .fields vs, ccs⟩) (hvs : vs[2]? = some (.str file tf)) (hfile : ((P.main.file : Str) == file) = true) (hcell : K.lookup cc = some ⟨cl, cld, .cell (some (.ref D)), csl⟩) (hD : clsIn K D = some cdD)
    (su : mg "super" = none) (tp : nsIn K cStatics "thirdparty.any" = some none) (htop : (P.main.scope.names.lookup ("super" : Str)).isSome = false)
    (ha : PA (cxI P w K mg base ["self", fld] (ksEnv qual scope s0.heap.objs.size f (.ref cda) cc) A outer s0 H0) [.JoinedStr js pj] ta) (hta : ta [some (.ref a), some y] H fun vs H1 => H1 = H ∧ vs.length ≤ 1000)
    (hc : eval (.Call (.Attribute (.Call (.Name "super" p0) [] [] p1) "__init__" p2) [.JoinedStr js pj] [] p3) (ksEnv qual scope s0.heap.objs.size f (.ref cda) cc) = (do
      let ov ← attributeBase (.Call (.Name "super" p0) [] [] p1) "__init__" (ksEnv qual scope s0.heap.objs.size f (.ref cda) cc) (eval (.Call (.Name "super" p0) [] [] p1) (ksEnv qual scope s0.heap.objs.size f (.ref cda) cc))
      standAt p2.atName
      let (f', first) ← holding [ov] (getMethod ov "__init__" pl)
      callWith p3 f' first (backTo p3 (starEach [.JoinedStr js pj] (ksEnv qual scope s0.heap.objs.size f (.ref cda) cc))) []) := by rfl)
    (hi : interactive (ksEnv qual scope s0.heap.objs.size f (.ref cda) cc) = false := by rfl)
    (he : starEach [.JoinedStr js pj] (ksEnv qual scope s0.heap.objs.size f (.ref cda) cc) = [(false, eval (.JoinedStr js pj) (ksEnv qual scope s0.heap.objs.size f (.ref cda) cc))] := by rfl) :
    _root_.PySem.wpAt (model P w) (A.deeper (ksEnv qual scope s0.heap.objs.size f (.ref cda) cc)) (.func body (ksEnv qual scope s0.heap.objs.size f (.ref cda) cc))
      (exec (.Expr (.Call (.Attribute (.Call (.Name "super" p0) [] [] p1) "__init__" p2) [.JoinedStr js pj] [] p3) p4) (ksEnv qual scope s0.heap.objs.size f (.ref cda) cc))
      (fun fl s' => fl = .next ∧ L2.Inv (cxI P w K mg base ["self", fld] (ksEnv qual scope s0.heap.objs.size f (.ref cda) cc) A outer s0 H0) [] [some (.ref a), some y] H s') (fun _ _ => False) s := by
  have KX : K.In s.heap := I.kIn
  obtain ⟨oD, hD1, hD2⟩ : ∃ oD, s.heap.get? D = some oD ∧ oD.data = .cls cdD := by
    unfold clsIn at hD
    split at hD
    · rename_i c d cd' sl hh
      cases hD
      exact ⟨_, KX _ _ hh, rfl⟩
    · cases hD
  obtain ⟨t1, hx⟩ := exo_at I.hok ea
  obtain ⟨m, hns, hl⟩ := I.loc
  obtain ⟨u, ru, hlook⟩ := hl 0 "self" (.ref a) rfl rfl (.inl ls)
  have ms : m "self" = some (.ref a) := by
    cases ru
    rcases hlook with ⟨_, e⟩ | ⟨e, _⟩
    · exact e
    · exfalso
      have e' : scope.names.lookup ("self" : Str) = some .cell ∨ scope.names.lookup ("self" : Str) = some .free := e
      rw [ls] at e'
      rcases e' with q | q <;> cases q
  obtain ⟨mb, hb1, hb2⟩ := I.mod.blt
  refine ks_wpAt_Expr_any (ks_wpAt_MethodCall ?_ hc) hi
  · refine ks_wpAt_super_base (env := ksEnv qual scope s0.heap.objs.size f (.ref cda) cc) hks hkc rfl rfl (KX _ _ ho) rfl har rfl (KX _ _ hcode) rfl hvs hfile htop ?_
    refine ks_loadName_global hk hks (loadGlobal_builtin (env := ksEnv qual scope s0.heap.objs.size f (.ref cda) cc) (I.mod.glob.keeps I.bk) su (hb1.keeps I.bk) ((hb2 _ (by decide +kernel)).trans Boot.«super») ⟨rfl, ?_⟩)
    refine wpAny_loadName_free hk hkc rfl ⟨_, KX _ _ hcell, rfl⟩ ?_
    rw [hself]
    refine wpAny_loadName_local hk ls hns ms ?_
    refine ks_wpAny_isType_cls hD1 hD2 ⟨rfl, ?_⟩
    obtain ⟨hh, g, d, tk, os⟩ := s
    refine ks_wpAny_call_super hD1 hD2 hx rfl (fun c q => by cases q) (looks_mroIn KX X.sub) (fun h1 e1 k1 => ?_)
    have I1 := I.kept (t' := tk) k1
    have KX1 : K.In h1 := I1.kIn
    have hx1 := k1 _ _ hx
    obtain ⟨nm, qn, N, bs, bm, sn, sub, ab, col, dd, k0, k2, k3, k4, k5, hCl, _⟩ := X.oex.cls
    have hne : a ≠ C := fun z => by
      have z1 := KX1 _ _ hCl
      rw [← z] at z1
      have z2 := z1.symm.trans hx1
      cases z2
    have J1 : InstAt h1 a ({ cls := .ref C, dict := none, data := .fields #[.ref t1, .none, .none, .none, .bool false, .none] } : Obj) C none := ⟨hx1, rfl, rfl, trivial⟩
    obtain ⟨cd, hcd, hal⟩ : ∃ cd, clsIn K C = some cd ∧ alongIn K "__init__" ((cd.mro.dropWhile (· != .ref D)).drop 1) = some (some (.builtin "ValueError.__init__")) := by
      have z := X.sup
      unfold ks_superIn at z
      cases q : clsIn K C with
      | none => rw [q] at z; cases z
      | some cd => rw [q] at z; exact ⟨cd, rfl, z⟩
    refine kxs_getMethod kxs_ValueError e1 (looks_opaque KX1 tp) (l₀ := cd.mro) (fun A Q E s k q => wpAny_bind ((looks_clsIn KX1 hcd) A _ E s k (wpAny_pure q))) rfl KX1 hal (J1.type.andThen (looks_subIn KX1 X.ve)) hne (by decide +kernel) ?_
    have I2 := I1.kept (t' := tk + 1) (h' := h1.push (kxs_mw "ValueError.__init__" a)) fun b o e => Heap.get?_push_of_some _ e
    have hu : (h1.push (kxs_mw "ValueError.__init__" a)).get? h1.objs.size = some (kxs_mw "ValueError.__init__" a) := Heap.get?_push_size _ rfl
    have I3 : L2.Inv (cxI P w K mg base ["self", fld] (ksEnv qual scope s0.heap.objs.size f (.ref cda) cc) A outer s0 H0) [(h1.objs.size, kxs_mw "ValueError.__init__" a)] [some (.ref a), some y] H ⟨h1.push (kxs_mw "ValueError.__init__" a), g, d, tk + 1, os⟩ :=
      I2.pins_of fun p hp => by
        rw [List.mem_singleton] at hp
        subst hp
        exact ⟨hu, I1.hok.fresh (Nat.le_refl _), Nat.ne_of_gt I1.lt, I1.nofs (Nat.le_refl _), fun v q => by cases q⟩
    have hcall : wpAny (model P w) (A.deeper (ksEnv qual scope s0.heap.objs.size f (.ref cda) cc)) (spliced (backTo p3 (starEach [.JoinedStr js pj] (ksEnv qual scope s0.heap.objs.size f (.ref cda) cc)))) _ _ _ := ha.run p3 [(h1.objs.size, kxs_mw "ValueError.__init__" a)] _ _ H _ I3 hta
    rw [he] at hcall ⊢
    refine kxs_callWith (i := "ValueError.__init__") (x := a) rfl (evalArgs_plain ?_)
    refine wpAny_mono hcall (fun us s4 ⟨vs, H1, I4, rv, e4, hl4⟩ => ?_) fun _ _ z => z
    subst e4
    have hp4 := (I4.pin (h1.objs.size, kxs_mw "ValueError.__init__" a) (List.mem_append_right _ (List.mem_singleton.mpr rfl))).1
    refine ⟨hp4, mw_call X.oex I4 ea hp4 (by show us.length ≤ sizeLine; rw [← rv.length, sizeLine_eq]; omega) fun s' J => ⟨rfl, J.pins_of fun p hp => by cases hp⟩⟩
end
end K00

set_option Elab.async false
set_option linter.all false
set_option maxRecDepth 100000
set_option maxHeartbeats 4000000
namespace K00
open PySem L2
def spInit (K : PySem.W.Frag) (D0 : Addr) (fld : Str) : Sp := fun vs H Q _ => ∃ (a C st : Addr) (v : V) (d : D), vs = [.ref a, v] ∧ ExcOf K D0 C ∧ PySem.W.findIn K (.ref C) fld = some none ∧ H a = some (exo a C none) ∧ Val K st H v d ∧ (∀ z, d = .str z → z.length ≤ 1000) ∧
  ∀ dx, H dx = none → dx ≠ a → Q .non (upd (upd H dx (exd dx [(fld, v)])) a (exo a C (some dx)))
section
open PySem.W PySem.Calls PyProof.Rows
variable {P : Program} {w : World} {K : Frag} {mg : Str → Option Value} {base : Heap}
abbrev s_p_wk_init : Stmt := inClass (top 4) 0
theorem ok_p_wk_init {D0 f : Addr} {fd : FuncData} (IF : InitF P K mg s_p_wk_init "WrongKind.__init__" D0 f fd) (c_told : Callee P w K mg base CX0 1 "_told" ["value"] (spTold K)) : FnOk P w K mg base CX0 3 f fd ["self", "argument"] (spInit K D0 "argument") := by
  obtain ⟨⟨oc, od, dV, kV, doc, pm, an, cda, ct, cc, osl, ccl, cdd, vs0, ccs, file, tf, cl, cld, csl, cdD, rfl, ho, hcd, hcode, hvs, hfile, hcell, hD⟩, su, tp, htop⟩ := IF
  refine ⟨fun vs H Q E h => ?_, fun A outer s H args us vs Q E hr e0 hb hv hsp => ?_⟩
  · obtain ⟨_, _, _, _, _, rfl, _⟩ := h
    rfl
  obtain ⟨a, C, st, v, d, rfl, X, hnf, ea, hval, hshort, k⟩ := hsp
  obtain ⟨u0, u1, rfl, r0, r1⟩ : ∃ u0 u1, us = [u0, u1] ∧ L2.RelV (.ref a) u0 ∧ L2.RelV v u1 := by
    cases hv with
    | cons r0 t =>
      cases t with
      | cons r1 t =>
        cases t
        exact ⟨_, _, rfl, r0, r1⟩
  have KX : K.In s.heap := e0.mod.kin.keeps fun b o e => (e0.bs b o e).1
  have lim : s.heap.NoLimit := e0.mod.nolimit.keeps fun b o e => (e0.bs b o e).1
  have hcB := e0.mod.kin _ _ hcell
  refine ks_codeAny_call_defAt (fd := ksFn "__init__" "WrongKind.__init__" (defArgs s_p_wk_init) (defBody s_p_wk_init) (defScope s_p_wk_init) dV kV doc pm an (.ref cda) ct cc) (body := defBody s_p_wk_init) (binds := [("self", u0), ("argument", u1)]) hr.depth (KX _ _ ho) rfl lim (codeRec_of KX hcd) rfl hb (by show ∀ x ∈ (defScope s_p_wk_init).names, x.2 ≠ .cell; decide +kernel) (fun x hx => by
    rcases List.mem_cons.mp hx with rfl | hx
    · rfl
    · rcases List.mem_cons.mp hx with rfl | hx
      · rfl
      · cases hx) (fun h₀ hns hkeep => ?_) rfl rfl rfl
  have I0 : L2.Inv (cxI P w K mg base ["self", "argument"] (ksEnv "WrongKind.__init__" (defScope s_p_wk_init) s.heap.objs.size f (.ref cda) cc) A outer s H) [] [some (.ref a), some v] H { s with heap := h₀, toks := s.toks + 2 } :=
    inv_init rfl (by
      intro z hz
      by_cases e : z = ("__class__" : Str)
      · exact e
      · exfalso
        have q : ∀ p ∈ (defScope s_p_wk_init).names, p.2 = .cell ∨ p.2 = .free → p.1 = ("__class__" : Str) := by decide +kernel
        rcases hz with y | y
        · exact e (q _ (PySem.mem_of_lookup y) (.inl rfl))
        · exact e (q _ (PySem.mem_of_lookup y) (.inr rfl))) hr.hd e0 (by decide +kernel) ⟨(e0.bs _ _ hcB).1, (e0.bs _ _ hcB).2, _, rfl⟩ r0 r1 rfl rfl hns hkeep
  have hr1 : Room 1 (A.deeper (ksEnv "WrongKind.__init__" (defScope s_p_wk_init) s.heap.objs.size f (.ref cda) cc)) := hr.deeper _ |>.mono (by decide)
  have fin : ∀ {H' : Hp} {σ' : L2.St} {s' : Shared} {x : V} {u : Value}, L2.Inv (cxI P w K mg base ["self", "argument"] (ksEnv "WrongKind.__init__" (defScope s_p_wk_init) s.heap.objs.size f (.ref cda) cc) A outer s H) [] σ' H' s' → L2.RelV x u → Q x H' → L2.CE outer P w H s Q u s' :=
    fun {H' σ' s' x u} J rx q => ⟨x, H', J.os, J.bare, J.base, J.hok, rx, q⟩
  show _root_.PySem.wpAt _ _ _ (execs (_ :: _) _) _ _ _
  refine ks_wpAt_execs_cons (ks_wpAt_mono (super_stmt (body := defBody s_p_wk_init) (ta := tCons (fun σ H Q => tJs [tC (.str _), tFmt (tCall (spTold K) [] E0 (tCons (tVar 1) tNil))] Str.empty σ H fun out H1 => Q (.str out) H1) tNil) (ar := _) I0 X ea rfl rfl rfl rfl ho rfl rfl hcode hvs hfile hcell hD su tp htop
    (pa_cons (pe_joined (PJ.cons pe_str (PJ.cons (pe_fmt (pe_fn c_told hr1 (by rfl) pass0 (pa_cons (pv 1) pa_nil))) PJ.nil))) pa_nil) ?_) (fun fl s1 hfl => ?_) fun _ _ z => z.elim)
  · have el : ∀ (p z : Str), p.length ≤ 100 → z.length ≤ 2000 → (Str.empty ++ p ++ z).length ≤ sizeLine := fun p z hp hz => by
      show ((#[] ++ p.cps) ++ z.cps).size ≤ sizeLine
      rw [Array.size_append, Array.size_append, sizeLine_eq]
      show 0 + p.length + z.length ≤ 16777216
      omega
    exact ⟨_, rfl, by show _ ≤ sizeLine; decide +kernel, _, rfl, st, v, d, rfl, hval, hshort, fun z hz => .inl ⟨z, rfl, by rw [sizeLine_eq]; omega, z, rfl, el _ _ (by decide +kernel) hz, rfl, (by decide : (1 : Nat) ≤ 1000)⟩⟩
  · obtain ⟨rfl, I1⟩ := hfl
    show _root_.PySem.wpAt _ _ _ (execs [_] _) _ _ _
    refine _root_.PySem.wpAt_of_wpAny (wpAny_mono ((pss_one (ps_ost (pv 0) (pv 1))).run [] s1 _ _ { nx := fun _ H' => Q .non H', rt := fun _ _ => False } I1 ?_) (fun fl s2 hs => ?_) fun _ _ z => z.elim)
    · exact ⟨_, rfl, _, rfl, a, C, rfl, X.oex, hnf, .inl ⟨ea, k⟩⟩
    · cases fl with
      | next =>
        obtain ⟨σ', H', J, q⟩ := hs
        exact fin (x := V.non) (u := Value.none) J rfl q
      | ret u =>
        obtain ⟨_, _, _, _, _, q⟩ := hs
        exact q.elim
      | brk =>
        obtain ⟨_, _, _, q⟩ := hs
        exact q.elim
      | cont =>
        obtain ⟨_, _, _, q⟩ := hs
        exact q.elim
abbrev s_p_un_init : Stmt := inClass (top 8) 0
theorem ok_p_un_init {D0 f : Addr} {fd : FuncData} (IF : InitF P K mg s_p_un_init "UnfitError.__init__" D0 f fd) (c_told : Callee P w K mg base CX0 1 "_told" ["value"] (spTold K)) : FnOk P w K mg base CX0 3 f fd ["self", "subject"] (spInit K D0 "subject") := by
  obtain ⟨⟨oc, od, dV, kV, doc, pm, an, cda, ct, cc, osl, ccl, cdd, vs0, ccs, file, tf, cl, cld, csl, cdD, rfl, ho, hcd, hcode, hvs, hfile, hcell, hD⟩, su, tp, htop⟩ := IF
  refine ⟨fun vs H Q E h => ?_, fun A outer s H args us vs Q E hr e0 hb hv hsp => ?_⟩
  · obtain ⟨_, _, _, _, _, rfl, _⟩ := h
    rfl
  obtain ⟨a, C, st, v, d, rfl, X, hnf, ea, hval, hshort, k⟩ := hsp
  obtain ⟨u0, u1, rfl, r0, r1⟩ : ∃ u0 u1, us = [u0, u1] ∧ L2.RelV (.ref a) u0 ∧ L2.RelV v u1 := by
    cases hv with
    | cons r0 t =>
      cases t with
      | cons r1 t =>
        cases t
        exact ⟨_, _, rfl, r0, r1⟩
  have KX : K.In s.heap := e0.mod.kin.keeps fun b o e => (e0.bs b o e).1
  have lim : s.heap.NoLimit := e0.mod.nolimit.keeps fun b o e => (e0.bs b o e).1
  have hcB := e0.mod.kin _ _ hcell
  refine ks_codeAny_call_defAt (fd := ksFn "__init__" "UnfitError.__init__" (defArgs s_p_un_init) (defBody s_p_un_init) (defScope s_p_un_init) dV kV doc pm an (.ref cda) ct cc) (body := defBody s_p_un_init) (binds := [("self", u0), ("subject", u1)]) hr.depth (KX _ _ ho) rfl lim (codeRec_of KX hcd) rfl hb (by show ∀ x ∈ (defScope s_p_un_init).names, x.2 ≠ .cell; decide +kernel) (fun x hx => by
    rcases List.mem_cons.mp hx with rfl | hx
    · rfl
    · rcases List.mem_cons.mp hx with rfl | hx
      · rfl
      · cases hx) (fun h₀ hns hkeep => ?_) rfl rfl rfl
  have I0 : L2.Inv (cxI P w K mg base ["self", "subject"] (ksEnv "UnfitError.__init__" (defScope s_p_un_init) s.heap.objs.size f (.ref cda) cc) A outer s H) [] [some (.ref a), some v] H { s with heap := h₀, toks := s.toks + 2 } :=
    inv_init rfl (by
      intro z hz
      by_cases e : z = ("__class__" : Str)
      · exact e
      · exfalso
        have q : ∀ p ∈ (defScope s_p_un_init).names, p.2 = .cell ∨ p.2 = .free → p.1 = ("__class__" : Str) := by decide +kernel
        rcases hz with y | y
        · exact e (q _ (PySem.mem_of_lookup y) (.inl rfl))
        · exact e (q _ (PySem.mem_of_lookup y) (.inr rfl))) hr.hd e0 (by decide +kernel) ⟨(e0.bs _ _ hcB).1, (e0.bs _ _ hcB).2, _, rfl⟩ r0 r1 rfl rfl hns hkeep
  have hr1 : Room 1 (A.deeper (ksEnv "UnfitError.__init__" (defScope s_p_un_init) s.heap.objs.size f (.ref cda) cc)) := hr.deeper _ |>.mono (by decide)
  have fin : ∀ {H' : Hp} {σ' : L2.St} {s' : Shared} {x : V} {u : Value}, L2.Inv (cxI P w K mg base ["self", "subject"] (ksEnv "UnfitError.__init__" (defScope s_p_un_init) s.heap.objs.size f (.ref cda) cc) A outer s H) [] σ' H' s' → L2.RelV x u → Q x H' → L2.CE outer P w H s Q u s' :=
    fun {H' σ' s' x u} J rx q => ⟨x, H', J.os, J.bare, J.base, J.hok, rx, q⟩
  show _root_.PySem.wpAt _ _ _ (execs (_ :: _) _) _ _ _
  refine ks_wpAt_execs_cons (ks_wpAt_mono (super_stmt (body := defBody s_p_un_init) (ta := tCons (fun σ H Q => tJs [tC (.str _), tFmt (tCall (spTold K) [] E0 (tCons (tVar 1) tNil))] Str.empty σ H fun out H1 => Q (.str out) H1) tNil) (ar := _) I0 X ea rfl rfl rfl rfl ho rfl rfl hcode hvs hfile hcell hD su tp htop
    (pa_cons (pe_joined (PJ.cons pe_str (PJ.cons (pe_fmt (pe_fn c_told hr1 (by rfl) pass0 (pa_cons (pv 1) pa_nil))) PJ.nil))) pa_nil) ?_) (fun fl s1 hfl => ?_) fun _ _ z => z.elim)
  · have el : ∀ (p z : Str), p.length ≤ 100 → z.length ≤ 2000 → (Str.empty ++ p ++ z).length ≤ sizeLine := fun p z hp hz => by
      show ((#[] ++ p.cps) ++ z.cps).size ≤ sizeLine
      rw [Array.size_append, Array.size_append, sizeLine_eq]
      show 0 + p.length + z.length ≤ 16777216
      omega
    exact ⟨_, rfl, by show _ ≤ sizeLine; decide +kernel, _, rfl, st, v, d, rfl, hval, hshort, fun z hz => .inl ⟨z, rfl, by rw [sizeLine_eq]; omega, z, rfl, el _ _ (by decide +kernel) hz, rfl, (by decide : (1 : Nat) ≤ 1000)⟩⟩
  · obtain ⟨rfl, I1⟩ := hfl
    show _root_.PySem.wpAt _ _ _ (execs [_] _) _ _ _
    refine _root_.PySem.wpAt_of_wpAny (wpAny_mono ((pss_one (ps_ost (pv 0) (pv 1))).run [] s1 _ _ { nx := fun _ H' => Q .non H', rt := fun _ _ => False } I1 ?_) (fun fl s2 hs => ?_) fun _ _ z => z.elim)
    · exact ⟨_, rfl, _, rfl, a, C, rfl, X.oex, hnf, .inl ⟨ea, k⟩⟩
    · cases fl with
      | next =>
        obtain ⟨σ', H', J, q⟩ := hs
        exact fin (x := V.non) (u := Value.none) J rfl q
      | ret u =>
        obtain ⟨_, _, _, _, _, q⟩ := hs
        exact q.elim
      | brk =>
        obtain ⟨_, _, _, q⟩ := hs
        exact q.elim
      | cont =>
        obtain ⟨_, _, _, q⟩ := hs
        exact q.elim
end
end K00

set_option Elab.async false
set_option linter.all false
set_option maxRecDepth 100000
set_option maxHeartbeats 4000000
namespace K00
open PySem L2
/-! ### an own error that is made, its dict beside it -/
section
open PyProof.Rows
variable {X : Cx}
/-- what is wanted of a class x whose __init__ keeps spInit -/
structure Err (P : Program) (w : World) (K : PySem.W.Frag) (mg : Str → Option Value) (base : Heap) (x : Str) (C : Addr) (fld : Str) (two : Bool) : Prop where
  oex : OexC K C
  at_ : mg x = some (.ref C)
  ini : ∃ (D0 fI : Addr) (fd : FuncData) (ps : List Str), ExcOf K D0 C ∧ PySem.W.findIn K (.ref C) "__init__" = some (some (.ref fI)) ∧ PySem.W.typeIn K (.ref fI) = some (.type "function") ∧
    PySem.W.findIn K (.ref C) fld = some none ∧ FnOk P w K mg base CX0 3 fI fd ps (spInit K D0 fld) ∧ (if two then Binds K fd ps [] else Binds K fd ps [.none])
theorem raise_call {pins : List (Addr × Obj)} {σ : L2.St} {H1 : Hp} {s1 : Shared} {x : Str} {C : Addr} {fld : Str} {two : Bool} {us : List Value} {vs : List V} {v : V} {Q : XK}
    (R : Err X.prog X.w X.K X.mg X.base x C fld two) (hr : Room 4 X.A) (I1 : Inv X pins σ H1 s1) (r1 : Vals vs us) (e : if two then vs = [v] else vs = [] ∧ v = .non)
    (sv : v = .non ∨ ∃ z, v = .str z ∧ z.length ≤ 1000) (q : ∀ d, H1 d = none → Q (.ref C) (some d) (upd H1 d (.xd [(fld, v)]))) :
    wpAny (model X.prog X.w) X.A (call (.ref C) us) (L2N.MkP X pins σ Q) X.xe s1 := by
  obtain ⟨T, _, D0, fI, fd, ps, XO, iC, tI, hfl, F, hb0⟩ := R
  obtain ⟨ds, dvs, hb, hd, e2⟩ : ∃ (ds : List Value) (dvs : List V), Binds X.K fd ps ds ∧ Vals dvs ds ∧ vs ++ dvs = [v] ∧ vs.length ≤ 1 := by
    cases two with
    | true =>
      have e' : vs = [v] := e
      exact ⟨[], [], hb0, .nil, by rw [e']; rfl, by rw [e']; exact Nat.le_refl _⟩
    | false =>
      have e' : vs = [] ∧ v = .non := e
      exact ⟨[.none], [.non], hb0, .cons rfl .nil, by rw [e'.1, e'.2]; rfl, by rw [e'.1]; exact Nat.zero_le _⟩
  obtain ⟨e2, e3⟩ := e2
  obtain ⟨nm, qn, N, bs, bm, sn, sub, ab, col, dd, k0, k1, k2, k3, k5, hC, hbm⟩ := T.cls
  obtain ⟨hp, g, dr, tk, os⟩ := s1
  have hsz : hp.objs.size ≤ hp.objs.size + 1 := Nat.le_succ _
  have hn : H1 (hp.objs.size + 1) = none := I1.hok.fresh hsz
  have keep2 : ∀ b o, hp.get? b = some o → ((hp.push (PySem.W.kdv_tup us)).push (PySem.HandSPX.excO C hp.objs.size)).get? b = some o := fun b o z => Heap.get?_push_of_some _ (Heap.get?_push_of_some _ z)
  have there : ((hp.push (PySem.W.kdv_tup us)).push (PySem.HandSPX.excO C hp.objs.size)).get? (hp.objs.size + 1) = some (PySem.HandSPX.excO C hp.objs.size) := by heap_get
  have I2 := I1.laid (t' := tk) (a := hp.objs.size + 1) (o := exo (hp.objs.size + 1) C none) (h' := (hp.push (PySem.W.kdv_tup us)).push (PySem.HandSPX.excO C hp.objs.size)) keep2 hsz (exo_ok there)
  have r2 : Vals (V.ref (hp.objs.size + 1) :: (vs ++ dvs)) (Value.ref (hp.objs.size + 1) :: (us ++ ds)) := .cons rfl (r1.append hd)
  have hsp : spInit X.K D0 fld (V.ref (hp.objs.size + 1) :: (vs ++ dvs)) (upd H1 (hp.objs.size + 1) (exo (hp.objs.size + 1) C none))
      (fun y H2 => y = .non ∧ ∃ d, H2 (hp.objs.size + 1) = some (exo (hp.objs.size + 1) C (some d)) ∧ H2 d = some (exd d [(fld, v)]) ∧ H1 d = none ∧ H2 = upd (upd (upd H1 (hp.objs.size + 1) (exo (hp.objs.size + 1) C none)) d (exd d [(fld, v)])) (hp.objs.size + 1) (exo (hp.objs.size + 1) C (some d)) ∧ d ≠ hp.objs.size + 1) (fun _ _ _ => False) := by
    rw [e2]
    rcases sv with rfl | ⟨z, rfl, hz⟩
    · exact ⟨hp.objs.size + 1, C, 0, .non, .non, rfl, XO, hfl, upd_same, .non, fun _ h => (D.noConfusion h), fun dx h1 h2 => ⟨rfl, dx, upd_same, by rw [upd_ne h2]; exact upd_same, by rw [upd_ne h2] at h1; exact h1, rfl, h2⟩⟩
    · exact ⟨hp.objs.size + 1, C, 0, .str z, .str z, rfl, XO, hfl, upd_same, .str _, fun z' h => (by cases h; exact hz), fun dx h1 h2 => ⟨rfl, dx, upd_same, by rw [upd_ne h2]; exact upd_same, by rw [upd_ne h2] at h1; exact h1, rfl, h2⟩⟩
  have hlen : (Value.ref (hp.objs.size + 1) :: us ++ ds).length = ps.length := by
    have y := r2.length
    rw [F.len _ _ _ _ hsp] at y
    exact y.symm
  have hus : us.length ≤ sizeLine := by
    rw [← Paired.length r1, sizeLine_eq]
    omega
  refine wpAny_call (PySem.HandSPX.call_own PySem.F.excBase_ValueError (fun Y => PySem.HandSPX.refsVE_contains Y bm hbm) (I1.kIn _ _ hC) (PySem.W.looks_findIn I1.kIn iC) (fun self => PySem.W.bind_fn I1.kIn self tI) hus
    (codeAny_mono (F.run _ X.stack _ _ ⟨Value.ref (hp.objs.size + 1) :: us, []⟩ (Value.ref (hp.objs.size + 1) :: (us ++ ds)) _ _ (fun _ _ _ => False) (hr.make C us []) (I2.env0.make C us []) (hb _ (Value.ref (hp.objs.size + 1) :: us) I2.kIn hlen) r2 hsp) fun r s' hq' => ?_))
  cases r with
  | error er => exact hq'.elim
  | ok fl =>
    cases fl with
    | ret u =>
      obtain ⟨y, H2, os2, bare2, un2, hok2, ru, ey, d, ea, ed, hd1, eH, hne⟩ := hq'
      subst ey
      obtain ⟨h2, g2, d2, t2, os'⟩ := s'
      refine ⟨ru, ?_⟩
      obtain ⟨t0, G, J, kG, ge, hoe, na⟩ := mk_end0 (d2 := d2) (t2 := t2) I1 hsz keep2 un2 hok2 os2 bare2 ea ed hd1
      have eq2 : upd (del H2 (hp.objs.size + 1)) d (.xd [(fld, v)]) = upd H1 d (.xd [(fld, v)]) := by
        funext b
        by_cases b1 : b = d
        · rw [b1, upd_same, upd_same]
        · rw [upd_ne b1, upd_ne b1]
          by_cases b2 : b = hp.objs.size + 1
          · rw [b2, del_same, hn]
          · rw [del_ne b2, eH, upd_ne b2, upd_ne b1, upd_ne b2]
      rw [eq2] at J na
      exact ⟨_, _, _, ⟨G, g2, d2, t2, os'⟩, _, .ref C, some d, rfl, J, kG, ge, hoe, ⟨rfl, rfl, fun vs e => by cases e; rfl⟩, rfl, rfl, na, rfl, bare2, L2.raises_own T.exC T.tyC, q d hd1⟩
    | next => exact False.elim hq'
    | brk => exact False.elim hq'
    | cont => exact False.elim hq'
theorem pmk_err {x : Str} {C : Addr} {fld : Str} {e : Expr} {te : TE} {p pos : Pos} (R : Err X.prog X.w X.K X.mg X.base x C fld true) (hr : Room 4 X.A) (ha : PE X e te) (hg : Gl X x)
    (hst : starEach [e] X.env = (false, eval e X.env) :: starEach [] X.env := by rfl) (hdb : (x == ("__debug__" : Str)) = false := by decide) :
    L2N.PMk X (.Call (.Name x p) [e] [] pos) (fun σ H Q => te σ H fun u H1 => ∃ v, [u] = [v] ∧ (v = .non ∨ ∃ z, v = .str z ∧ z.length ≤ 1000) ∧ ∀ d, H1 d = none → Q (.ref C) (some d) (upd H1 d (.xd [(fld, v)]))) := by
  intro pins s σ H Q I h
  refine wpAny_Call_Name_kw (ld_glob I hg R.at_ ?_ hdb)
  exact PySem.W.callWith_K (h₀ := X.base) I.ok.mod.kin R.oex.kC (thn ((pa_cons (hs := hst) ha pa_nil).run pos pins s σ H (fun vs H1 => ∃ v, vs = [v] ∧ (v = .non ∨ ∃ z, v = .str z ∧ z.length ≤ 1000) ∧ ∀ d, H1 d = none → Q (.ref C) (some d) (upd H1 d (.xd [(fld, v)]))) I h) fun us s1 ⟨vs, H1, I1, r1, v, ev, hv, hq⟩ => ⟨I1.kIn, raise_call R hr I1 r1 ev hv hq⟩) hst rfl
theorem pmk_err0 {x : Str} {C : Addr} {fld : Str} {p pos : Pos} (R : Err X.prog X.w X.K X.mg X.base x C fld false) (hr : Room 4 X.A) (hg : Gl X x)
    (hdb : (x == ("__debug__" : Str)) = false := by decide) :
    L2N.PMk X (.Call (.Name x p) [] [] pos) (fun σ H Q => ∀ d, H d = none → Q (.ref C) (some d) (upd H d (.xd [(fld, .non)]))) := by
  intro pins s σ H Q I h
  refine wpAny_Call_Name_kw (ld_glob I hg R.at_ ?_ hdb)
  exact PySem.W.callWith_K0 I.kIn R.oex.kC (raise_call (us := []) (v := .non) R hr I .nil ⟨rfl, rfl⟩ (.inl rfl) h)
end
end K00

set_option Elab.async false
set_option linter.all false
set_option maxRecDepth 100000
set_option maxHeartbeats 4000000
namespace K00
open PySem L2
/-! ### the program's own arithmetic -/
abbrev big : Nat := 2 ^ 9000
theorem RatV.i0 {K : PySem.W.Frag} {H : Hp} {v : V} {n d : Int} {Q : VK} (r : RatV K H v n d) (q : Q (.int n) H) : rIx K v (.int 0) H Q := by
  obtain ⟨a, rfl, h⟩ := r
  exact .inr (.inl ⟨a, _, 0, _, rfl, rfl, h, atI_nat (j := 0) rfl, q⟩)
theorem RatV.i1 {K : PySem.W.Frag} {H : Hp} {v : V} {n d : Int} {Q : VK} (r : RatV K H v n d) (q : Q (.int d) H) : rIx K v (.int 1) H Q := by
  obtain ⟨a, rfl, h⟩ := r
  exact .inr (.inl ⟨a, _, 1, _, rfl, rfl, h, atI_nat (j := 1) rfl, q⟩)
theorem cm {i j : Int} (a : i.natAbs < 2 ^ 9000) (b : j.natAbs < 2 ^ 9000) : CMulW i j := wide_mul a b (by decide) (by decide) (by decide)
def spLowest : Sp := fun vs H Q _ => ∃ (u d : Int), vs = [.int u, .int d] ∧ d ≠ 0 ∧ d.natAbs < 2 ^ 9000 ∧ ∀ p, H p = none → Q (.ref p) (upd H p (.tup [.int (lowN u d), .int (lowD u d)]))
/-- two ratios, and the fraction that is brought to lowest terms -/
def spAr (K : PySem.W.Frag) (g : Int → Int → Int → Int → Int × Int) : Sp := fun vs H Q _ => ∃ (v w : V) (n d m e : Int), vs = [v, w] ∧ RatV K H v n d ∧ RatV K H w m e ∧ n.natAbs < 2 ^ 9000 ∧ d.natAbs < 2 ^ 9000 ∧ m.natAbs < 2 ^ 9000 ∧ e.natAbs < 2 ^ 9000 ∧
  (g n d m e).2 ≠ 0 ∧ (g n d m e).2.natAbs < 2 ^ 9000 ∧ ∀ p, H p = none → Q (.ref p) (upd H p (.tup [.int (lowN (g n d m e).1 (g n d m e).2), .int (lowD (g n d m e).1 (g n d m e).2)]))
def gPlus (n d m e : Int) : Int × Int := (n * e + m * d, d * e)
def gMinus (n d m e : Int) : Int × Int := (n * e - m * d, d * e)
def gTimes (n d m e : Int) : Int × Int := (n * m, d * e)
def gOver (n d m e : Int) : Int × Int := (n * e, d * m)
def spOpp (K : PySem.W.Frag) : Sp := fun vs H Q _ => ∃ (v : V) (n d : Int), vs = [v] ∧ RatV K H v n d ∧ ∀ p, H p = none → Q (.ref p) (upd H p (.tup [.int (-n), .int d]))
def spNSign : Sp := fun vs H Q _ => ∃ (n : Int), vs = [.int n] ∧ Q (.int (sgn n)) H
def spSignOf (K : PySem.W.Frag) : Sp := fun vs H Q _ => ∃ (v : V) (n d : Int), vs = [v] ∧ RatV K H v n d ∧ Q (.int (sgn n)) H
section
variable {P : Program} {w : World} {K : PySem.W.Frag} {mg : Str → Option Value} {base : Heap}
abbrev s_p_lowest : Stmt := top 31
theorem sc_p_lowest : FnScope ["numerator", "denominator", "shared"] ["numerator", "denominator"] (defScope s_p_lowest) := ⟨rfl, rfl, rfl, by decide +kernel, rfl, by decide +kernel, by decide +kernel⟩
theorem ok_p_lowest {f : Addr} {fd : FuncData} (F : Fun K "lowest" "lowest" s_p_lowest f fd) (T : TxtD K mg) : FnOk P w K mg base CX0 1 f fd ["numerator", "denominator"] spLowest := by
  refine F.ok sc_p_lowest (fun vs H Q E h => ?_) (fun cdv A outer s H vs Q E hr h => ?_)
  · obtain ⟨_, _, rfl, _⟩ := h
    rfl
  · obtain ⟨u, d, rfl, d0, hd, k⟩ := h
    refine ⟨_, (pss_cons (ps_set (i := 2) sc_p_lowest.nd rfl (Or.inl rfl) (pe_callBfun cr_gcd (by rfl) T.gcd (pa_cons (pv 0) (pa_cons (pv 1) pa_nil))))
  (C8.pss_cut (ps_if (pt_cmpR op_lt (pv 1) pe_int (nomark _)) (pss_one (ps_set (i := 2) sc_p_lowest.nd rfl (Or.inl rfl) (pe_un un_neg (pv 2)))) pss_nil)
  (pss_one (ps_ret (pe_tup (pa_cons (pe_op op_fdivZ (pv 0) (pv 2)) (pa_cons (pe_op op_fdivZ (pv 1) (pv 2)) pa_nil))))))), ?_⟩
    refine ⟨_, rfl, _, rfl, _, _, rfl, ?_⟩
    have fin : ∀ g : Int, g = lowG u d → (tRet (tTup (tCons (tOp (rI (fun _ j => j ≠ 0 ∧ j.natAbs < 2 ^ 9000) fun i j => .int (i.fdiv j)) (tVar 0) (tVar 2)) (tCons (tOp (rI (fun _ j => j ≠ 0 ∧ j.natAbs < 2 ^ 9000) fun i j => .int (i.fdiv j)) (tVar 1) (tVar 2)) tNil)))) { nx := fun _ H => Q .non H, rt := fun v H => Q v H } [some (.int u), some (.int d), some (.int g)] H := fun g eg => by
      have hg0 : g ≠ 0 := by rw [eg]; exact lowG_ne d0
      have hg9 : g.natAbs < 2 ^ 9000 := by
        rw [eg, lowG_abs]
        exact Nat.lt_of_le_of_lt (Nat.gcd_le_right _ (by omega)) hd
      refine ⟨_, rfl, _, rfl, _, _, rfl, rfl, ⟨hg0, hg9⟩, _, rfl, _, rfl, _, _, rfl, rfl, ⟨hg0, hg9⟩, by show 2 ≤ sizeLine; decide, fun p hp => ?_⟩
      have e := k p hp
      rw [eg]
      exact e
    refine ⟨fun σ H' => H' = H ∧ ∃ g : Int, g = lowG u d ∧ σ = [some (.int u), some (.int d), some (.int g)], ?_, ?_⟩
    · refine ⟨_, rfl, _, _, rfl, rfl, _, rfl, ite2 (fun h0 => ?_) (fun h0 => ?_)⟩
      · have hd0 : d < 0 := of_decide_eq_true h0
        refine ⟨_, rfl, _, rfl, rfl, _, ?_, rfl⟩
        unfold lowG
        rw [if_pos hd0]
      · have hd0 : ¬ d < 0 := fun z => h0 (decide_eq_true z)
        refine ⟨rfl, _, ?_, rfl⟩
        unfold lowG
        rw [if_neg hd0]
    · rintro σ H' ⟨rfl, g, eg, rfl⟩
      exact fin g eg
abbrev s_p_plus : Stmt := top 32
theorem sc_p_plus : FnScope ["one", "other"] ["one", "other"] (defScope s_p_plus) := ⟨rfl, rfl, rfl, by decide +kernel, rfl, by decide +kernel, by decide +kernel⟩
theorem ok_p_plus {f : Addr} {fd : FuncData} (F : Fun K "plus" "plus" s_p_plus f fd) (c_p_lowest : Callee P w K mg base CX0 1 "lowest" ["numerator", "denominator"] spLowest) : FnOk P w K mg base CX0 2 f fd ["one", "other"] (spAr K gPlus) := by
  refine F.ok sc_p_plus (fun vs H Q E h => ?_) (fun cdv A outer s H vs Q E hr h => ?_)
  · obtain ⟨_, _, _, _, _, _, rfl, _⟩ := h
    rfl
  · obtain ⟨v, x, n, d, m, e, rfl, r1, r2, bn, bd, bm, be, g0, g9, k⟩ := h
    refine ⟨_, (pss_one (ps_ret (pe_fn c_p_lowest (hr.mono (by decide)) (by rfl) pass0 (pa_cons (pe_op op_add (pe_op op_mulW (pe_ix ix_seq (pv 0) pe_int (fun _ _ => rfl)) (pe_ix ix_seq (pv 1) pe_int (fun _ _ => rfl))) (pe_op op_mulW (pe_ix ix_seq (pv 1) pe_int (fun _ _ => rfl)) (pe_ix ix_seq (pv 0) pe_int (fun _ _ => rfl)))) (pa_cons (pe_op op_mulW (pe_ix ix_seq (pv 0) pe_int (fun _ _ => rfl)) (pe_ix ix_seq (pv 1) pe_int (fun _ _ => rfl))) pa_nil))))), ?_⟩
    exact ⟨_, rfl, r1.i0 ⟨_, rfl, r2.i1 ⟨_, _, rfl, rfl, cm bn be, _, rfl, r2.i0 ⟨_, rfl, r1.i1 ⟨_, _, rfl, rfl, cm bm bd, _, _, rfl, rfl, _, rfl, r1.i1 ⟨_, rfl, r2.i1 ⟨_, _, rfl, rfl, cm bd be, _, _, rfl, g0, g9, k⟩⟩⟩⟩⟩⟩⟩
abbrev s_p_minus : Stmt := top 33
theorem sc_p_minus : FnScope ["one", "other"] ["one", "other"] (defScope s_p_minus) := ⟨rfl, rfl, rfl, by decide +kernel, rfl, by decide +kernel, by decide +kernel⟩
theorem ok_p_minus {f : Addr} {fd : FuncData} (F : Fun K "minus" "minus" s_p_minus f fd) (c_p_lowest : Callee P w K mg base CX0 1 "lowest" ["numerator", "denominator"] spLowest) : FnOk P w K mg base CX0 2 f fd ["one", "other"] (spAr K gMinus) := by
  refine F.ok sc_p_minus (fun vs H Q E h => ?_) (fun cdv A outer s H vs Q E hr h => ?_)
  · obtain ⟨_, _, _, _, _, _, rfl, _⟩ := h
    rfl
  · obtain ⟨v, x, n, d, m, e, rfl, r1, r2, bn, bd, bm, be, g0, g9, k⟩ := h
    refine ⟨_, (pss_one (ps_ret (pe_fn c_p_lowest (hr.mono (by decide)) (by rfl) pass0 (pa_cons (pe_op op_sub (pe_op op_mulW (pe_ix ix_seq (pv 0) pe_int (fun _ _ => rfl)) (pe_ix ix_seq (pv 1) pe_int (fun _ _ => rfl))) (pe_op op_mulW (pe_ix ix_seq (pv 1) pe_int (fun _ _ => rfl)) (pe_ix ix_seq (pv 0) pe_int (fun _ _ => rfl)))) (pa_cons (pe_op op_mulW (pe_ix ix_seq (pv 0) pe_int (fun _ _ => rfl)) (pe_ix ix_seq (pv 1) pe_int (fun _ _ => rfl))) pa_nil))))), ?_⟩
    exact ⟨_, rfl, r1.i0 ⟨_, rfl, r2.i1 ⟨_, _, rfl, rfl, cm bn be, _, rfl, r2.i0 ⟨_, rfl, r1.i1 ⟨_, _, rfl, rfl, cm bm bd, _, _, rfl, rfl, _, rfl, r1.i1 ⟨_, rfl, r2.i1 ⟨_, _, rfl, rfl, cm bd be, _, _, rfl, g0, g9, k⟩⟩⟩⟩⟩⟩⟩
abbrev s_p_times : Stmt := top 34
theorem sc_p_times : FnScope ["one", "other"] ["one", "other"] (defScope s_p_times) := ⟨rfl, rfl, rfl, by decide +kernel, rfl, by decide +kernel, by decide +kernel⟩
theorem ok_p_times {f : Addr} {fd : FuncData} (F : Fun K "times" "times" s_p_times f fd) (c_p_lowest : Callee P w K mg base CX0 1 "lowest" ["numerator", "denominator"] spLowest) : FnOk P w K mg base CX0 2 f fd ["one", "other"] (spAr K gTimes) := by
  refine F.ok sc_p_times (fun vs H Q E h => ?_) (fun cdv A outer s H vs Q E hr h => ?_)
  · obtain ⟨_, _, _, _, _, _, rfl, _⟩ := h
    rfl
  · obtain ⟨v, x, n, d, m, e, rfl, r1, r2, bn, bd, bm, be, g0, g9, k⟩ := h
    refine ⟨_, (pss_one (ps_ret (pe_fn c_p_lowest (hr.mono (by decide)) (by rfl) pass0 (pa_cons (pe_op op_mulW (pe_ix ix_seq (pv 0) pe_int (fun _ _ => rfl)) (pe_ix ix_seq (pv 1) pe_int (fun _ _ => rfl))) (pa_cons (pe_op op_mulW (pe_ix ix_seq (pv 0) pe_int (fun _ _ => rfl)) (pe_ix ix_seq (pv 1) pe_int (fun _ _ => rfl))) pa_nil))))), ?_⟩
    exact ⟨_, rfl, r1.i0 ⟨_, rfl, r2.i0 ⟨_, _, rfl, rfl, cm bn bm, _, rfl, r1.i1 ⟨_, rfl, r2.i1 ⟨_, _, rfl, rfl, cm bd be, _, _, rfl, g0, g9, k⟩⟩⟩⟩⟩
abbrev s_p_over : Stmt := top 35
theorem sc_p_over : FnScope ["one", "other"] ["one", "other"] (defScope s_p_over) := ⟨rfl, rfl, rfl, by decide +kernel, rfl, by decide +kernel, by decide +kernel⟩
theorem ok_p_over {f : Addr} {fd : FuncData} (F : Fun K "over" "over" s_p_over f fd) (c_p_lowest : Callee P w K mg base CX0 1 "lowest" ["numerator", "denominator"] spLowest) : FnOk P w K mg base CX0 2 f fd ["one", "other"] (spAr K gOver) := by
  refine F.ok sc_p_over (fun vs H Q E h => ?_) (fun cdv A outer s H vs Q E hr h => ?_)
  · obtain ⟨_, _, _, _, _, _, rfl, _⟩ := h
    rfl
  · obtain ⟨v, x, n, d, m, e, rfl, r1, r2, bn, bd, bm, be, g0, g9, k⟩ := h
    refine ⟨_, (pss_one (ps_ret (pe_fn c_p_lowest (hr.mono (by decide)) (by rfl) pass0 (pa_cons (pe_op op_mulW (pe_ix ix_seq (pv 0) pe_int (fun _ _ => rfl)) (pe_ix ix_seq (pv 1) pe_int (fun _ _ => rfl))) (pa_cons (pe_op op_mulW (pe_ix ix_seq (pv 0) pe_int (fun _ _ => rfl)) (pe_ix ix_seq (pv 1) pe_int (fun _ _ => rfl))) pa_nil))))), ?_⟩
    exact ⟨_, rfl, r1.i0 ⟨_, rfl, r2.i1 ⟨_, _, rfl, rfl, cm bn be, _, rfl, r1.i1 ⟨_, rfl, r2.i0 ⟨_, _, rfl, rfl, cm bd bm, _, _, rfl, g0, g9, k⟩⟩⟩⟩⟩
abbrev s_p_opposite : Stmt := top 36
theorem sc_p_opposite : FnScope ["one"] ["one"] (defScope s_p_opposite) := ⟨rfl, rfl, rfl, by decide +kernel, rfl, by decide +kernel, by decide +kernel⟩
theorem ok_p_opposite {f : Addr} {fd : FuncData} (F : Fun K "opposite" "opposite" s_p_opposite f fd) : FnOk P w K mg base CX0 1 f fd ["one"] (spOpp K) := by
  refine F.ok sc_p_opposite (fun vs H Q E h => ?_) (fun cdv A outer s H vs Q E hr h => ?_)
  · obtain ⟨_, _, _, rfl, _⟩ := h
    rfl
  · obtain ⟨v, n, d, rfl, r1, k⟩ := h
    refine ⟨_, (pss_one (ps_ret (pe_tup (pa_cons (pe_un un_neg (pe_ix ix_seq (pv 0) pe_int (fun _ _ => rfl))) (pa_cons (pe_ix ix_seq (pv 0) pe_int (fun _ _ => rfl)) pa_nil))))), ?_⟩
    exact ⟨_, rfl, r1.i0 ⟨_, rfl, _, rfl, r1.i1 ⟨by show 2 ≤ sizeLine; decide, k⟩⟩⟩
abbrev s_p_number_sign : Stmt := top 37
theorem sc_p_number_sign : FnScope ["number"] ["number"] (defScope s_p_number_sign) := ⟨rfl, rfl, rfl, by decide +kernel, rfl, by decide +kernel, by decide +kernel⟩
theorem ok_p_number_sign {f : Addr} {fd : FuncData} (F : Fun K "number_sign" "number_sign" s_p_number_sign f fd) : FnOk P w K mg base CX0 1 f fd ["number"] spNSign := by
  refine F.ok sc_p_number_sign (fun vs H Q E h => ?_) (fun cdv A outer s H vs Q E hr h => ?_)
  · obtain ⟨_, rfl, _⟩ := h
    rfl
  · obtain ⟨n, rfl, k⟩ := h
    refine ⟨_, (pss_cons (ps_if (pt_cmpR op_gt (pv 0) pe_int (nomark _)) (pss_one (ps_ret pe_int)) pss_nil)
  (pss_one (ps_ret (pe_ifExp (pt_cmpR op_lt (pv 0) pe_int (nomark _)) (pe_un un_neg pe_int) pe_int)))), ?_⟩
    unfold sgn at k
    refine ⟨_, rfl, _, _, rfl, rfl, _, rfl, ite2 (fun h0 => ?_) (fun h0 => ?_)⟩
    · rw [if_pos (of_decide_eq_true h0)] at k
      exact k
    · rw [if_neg (fun z => h0 (decide_eq_true z))] at k
      refine ⟨_, rfl, _, _, rfl, rfl, _, rfl, ite2 (fun h1 => ?_) (fun h1 => ?_)⟩
      · rw [if_pos (of_decide_eq_true h1)] at k
        exact ⟨_, rfl, k⟩
      · rw [if_neg (fun z => h1 (decide_eq_true z))] at k
        exact k
abbrev s_p_sign_of : Stmt := top 38
theorem sc_p_sign_of : FnScope ["one"] ["one"] (defScope s_p_sign_of) := ⟨rfl, rfl, rfl, by decide +kernel, rfl, by decide +kernel, by decide +kernel⟩
theorem ok_p_sign_of {f : Addr} {fd : FuncData} (F : Fun K "sign_of" "sign_of" s_p_sign_of f fd) (c_p_number_sign : Callee P w K mg base CX0 1 "number_sign" ["number"] spNSign) : FnOk P w K mg base CX0 2 f fd ["one"] (spSignOf K) := by
  refine F.ok sc_p_sign_of (fun vs H Q E h => ?_) (fun cdv A outer s H vs Q E hr h => ?_)
  · obtain ⟨_, _, _, rfl, _⟩ := h
    rfl
  · obtain ⟨v, n, d, rfl, r1, k⟩ := h
    refine ⟨_, (pss_one (ps_ret (pe_fn c_p_number_sign (hr.mono (by decide)) (by rfl) pass0 (pa_cons (pe_ix ix_seq (pv 0) pe_int (fun _ _ => rfl)) pa_nil)))), ?_⟩
    exact ⟨_, rfl, r1.i0 ⟨_, rfl, k⟩⟩
end
end K00

set_option Elab.async false
set_option linter.all false
set_option maxRecDepth 100000
set_option maxHeartbeats 4000000
namespace K00
open PySem L2
/-! ### all of a list of bools -/
structure TxtP (K : PySem.W.Frag) (mg : Str → Option Value) : Prop extends TxtD K mg where
  all : mg "all" = none
def rAll (K : PySem.W.Frag) : List V → Hp → VK → Prop := fun vs H Q => ∃ (a : Addr) (bs : List Bool), vs = [.ref a] ∧ SqL K H a (bs.map V.bl) ∧ Q (.bl (bs.all id)) H
theorem vals_bl : ∀ {bs : List Bool} {us : List Value}, Vals (bs.map V.bl) us → us = bs.map Value.bool
  | [], _, .nil => rfl
  | b :: bs, _, .cons h r => by
    cases h
    rw [vals_bl (bs := bs) r]
    rfl
section
open PyProof.Rows PyProof.Rows.LSm
theorem cr_all {X : Cx} (hc : X.calm = true) : CallR X (.builtin "all") (rAll X.K) := by
  intro pins s σ H vs us Q I r h
  obtain ⟨a, bs, rfl, hS, q⟩ := h
  obtain ⟨u, rfl, ru⟩ := vals1 r
  cases ru
  obtain ⟨its, rv, ht, hz⟩ := I.list hS
  have hl := ht.isList
  have e := vals_bl rv
  subst e
  have hlt : a < s.heap.objs.size := by obtain ⟨_, e, _⟩ := hl; exact Heap.lt_size e
  refine call_all_walk (wpAny_pyIter_list hl ?_)
  refine ⟨s.heap.objs.size, [s.heap.objs.size, a], [s.heap.objs.size], (bs.map Value.bool).toArray.size, _, _, fun i => (bs[i]?).getD true, rfl, Walks.list (A := X.A.in1) (I.ok.hd hc) _ a (Nat.ne_of_lt hlt) _,
    ⟨⟨_, Heap.get?_push_size _ rfl, rfl, rfl⟩, hl.push _⟩, fun i v s' Q' E' hP hQ => ?_, fun h' tk hk => ?_⟩
  · have e2 : (bs.map Value.bool)[i]? = some v := by simpa using hP
    rw [List.getElem?_map] at e2
    cases e3 : bs[i]? with
    | none => rw [e3] at e2; cases e2
    | some b =>
      rw [e3] at e2
      cases e2
      have hQ2 : Q' b s' := by simpa only [e3, Option.getD_some] using hQ
      exact wpAny_truthy_bool hQ2
  · have e : ((List.range (bs.map Value.bool).toArray.size).all fun i => (bs[i]?).getD true) = bs.all id := by
      rw [List.size_toArray, List.length_map]; exact range_all bs
    rw [e]
    exact ⟨.bl (bs.all id), H, I.kept (t' := tk) (kept_iter hk), rfl, q⟩
end
theorem lcYes {σ : L2.St} {H : Hp} {F G : Hp → Prop} (h : F H) : tYes σ H (fun b H3 => if b = true then F H3 else G H3) := by
  show (if true = true then F H else G H)
  rw [if_pos rfl]
  exact h
def isRatiosD : D → Bool
  | .lst ds => ds.all isRatioD
  | _ => false
/-- no list is too long -/
def Sh (d : D) : Prop := ∀ ds, d = .lst ds → ds.length ≤ 1000
def spIsRat (K : PySem.W.Frag) : Sp := fun vs H Q _ => ∃ (st : Addr) (v : V) (d : D), vs = [v] ∧ Val K st H v d ∧ Q (.bl (isRatioD d)) H
def spIsRats (K : PySem.W.Frag) : Sp := fun vs H Q _ => ∃ (st : Addr) (v : V) (d : D), vs = [v] ∧ Val K st H v d ∧ Sh d ∧ ∀ H', Same H H' → Q (.bl (isRatiosD d)) H'
section
variable {P : Program} {w : World} {K : PySem.W.Frag} {mg : Str → Option Value} {base : Heap}
abbrev s_p_is_integer : Stmt := top 41
theorem sc_p_is_integer : FnScope ["value"] ["value"] (defScope s_p_is_integer) := ⟨rfl, rfl, rfl, by decide +kernel, rfl, by decide +kernel, by decide +kernel⟩
theorem ok_p_is_integer {f : Addr} {fd : FuncData} (F : Fun K "is_integer" "is_integer" s_p_is_integer f fd) (T : TxtP K mg) : FnOk P w K mg base CX0 1 f fd ["value"] (spIsInt K) := by
  refine F.ok sc_p_is_integer (fun vs H Q E h => ?_) (fun cdv A outer s H vs Q E hr h => ?_)
  · obtain ⟨_, _, _, rfl, _⟩ := h
    rfl
  · obtain ⟨st, v, d, rfl, hv, k⟩ := h
    refine ⟨_, (pss_one (ps_ret (pe_and (pe_callB call_isi (by rfl) T.isinstance (by decide +kernel) (pa_cons (pv 0) (pa_cons (pe_bltn (v := .ty "int") (by rfl) T.int (by decide +kernel) rfl) pa_nil))) (pe_one (pe_not (pe_callB call_isi (by rfl) T.isinstance (by decide +kernel) (pa_cons (pv 0) (pa_cons (pe_bltn (v := .ty "bool") (by rfl) T.bool (by decide +kernel) rfl) pa_nil)))))))), ?_⟩
    refine ⟨_, rfl, _, _, _, _, _, rfl, .ty _, hv.ty, isC_kit .int _, _, rfl, ?_⟩
    cases hv with
    | non => exact iteF k
    | bl b => exact iteT ⟨_, rfl, _, _, _, _, _, rfl, .ty _, (Val.bl (K := K) (st := st) b).ty, isC_kit .bool _, _, rfl, k⟩
    | int i => exact iteT ⟨_, rfl, _, _, _, _, _, rfl, .ty _, (Val.int (K := K) (st := st) i).ty, isC_kit .bool _, _, rfl, k⟩
    | str s => exact iteF k
    | tup h r => exact iteF k
    | lst n h r => exact iteF k
    | dct n h => exact iteF k
abbrev s_p_is_ratio : Stmt := top 42
theorem sc_p_is_ratio : FnScope ["value", "numerator", "denominator"] ["value"] (defScope s_p_is_ratio) := ⟨rfl, rfl, rfl, by decide +kernel, rfl, by decide +kernel, by decide +kernel⟩
theorem ok_p_is_ratio {f : Addr} {fd : FuncData} (F : Fun K "is_ratio" "is_ratio" s_p_is_ratio f fd) (T : TxtP K mg) (c_p_is_integer : Callee P w K mg base CX0 1 "is_integer" ["value"] (spIsInt K)) :
    FnOk P w K mg base CX0 2 f fd ["value"] (spIsRat K) := by
  refine F.ok sc_p_is_ratio (fun vs H Q E h => ?_) (fun cdv A outer s H vs Q E hr h => ?_)
  · obtain ⟨_, _, _, rfl, _⟩ := h
    rfl
  · obtain ⟨st, v, d, rfl, hv, k⟩ := h
    refine ⟨_, (pss_cons (ps_if (PW.pt (pw_or (pt_not (pt_val (pe_callB call_isi (by rfl) T.isinstance (by decide +kernel) (pa_cons (pv 0) (pa_cons (pe_bltn (v := .ty "tuple") (by rfl) T.tuple (by decide +kernel) rfl) pa_nil))))) (pw_or1 (pt_cmpR op_ne (pe_callB call_len_seq (by rfl) T.len PySem.boot_len (pa_cons (pv 0) pa_nil)) pe_int (nomark _))))) (pss_one (ps_ret pe_bl)) pss_nil)
  (pss_cons (ps_asg (pv 0) (pg_tup rfl (pgs_cons (pg_name (i := 1) sc_p_is_ratio.nd rfl (.inl rfl)) (pgs_cons (pg_name (i := 2) sc_p_is_ratio.nd rfl (.inl rfl)) pgs_nil))))
  (pss_cons (ps_if (PW.pt (pw_or (pt_not (pt_val (pe_fn c_p_is_integer (hr.mono (by decide)) (by rfl) pass0 (pa_cons (pv 1) pa_nil)))) (pw_or1 (pt_not (pt_val (pe_fn c_p_is_integer (hr.mono (by decide)) (by rfl) pass0 (pa_cons (pv 2) pa_nil))))))) (pss_one (ps_ret pe_bl)) pss_nil)
  (pss_one (ps_ret (pe_and (pe_cmpR op_ge (pv 2) pe_int (nomark _)) (pe_one (pe_cmpR op_eq (pe_callBfun cr_gcd (by rfl) T.gcd (pa_cons (pv 1) (pa_cons (pv 2) pa_nil))) pe_int (nomark _))))))))), ?_⟩
    refine ⟨_, rfl, _, _, _, _, _, rfl, .ty _, hv.ty, isC_kit .tuple _, _, rfl, ?_⟩
    cases hv with
    | non => exact iteT (iteT k)
    | bl b => exact iteT (iteT k)
    | int i => exact iteT (iteT k)
    | str s => exact iteT (iteT k)
    | lst n h r => exact iteT (iteT k)
    | dct n h => exact iteT (iteT k)
    | @tup a xs ds h r =>
      refine iteF ⟨_, rfl, _, _, rfl, .inr h, rfl, _, rfl, ?_⟩
      cases r with
      | nil => exact ite_ne (by simp only [List.length_cons, List.length_nil]; omega) k
      | @cons v1 vs1 d1 ds1 h1 r1 =>
        cases r1 with
        | nil =>
          have ed : isRatioD (.tup [d1]) = false := by cases d1 <;> rfl
          rw [ed] at k
          exact ite_ne (by simp only [List.length_cons, List.length_nil]; omega) k
        | @cons v2 vs2 d2 ds2 h2 r2 =>
          cases r2 with
          | @cons v3 vs3 d3 ds3 h3 r3 =>
            have ed : isRatioD (.tup (d1 :: d2 :: d3 :: ds3)) = false := by cases d1 <;> cases d2 <;> rfl
            rw [ed] at k
            exact ite_ne (by simp only [List.length_cons]; omega) k
          | nil =>
            refine ite_nn rfl (⟨_, rfl, a, _, rfl, h, rfl, _, _, rfl, _, _, rfl, rfl, _, rfl, st, v1, d1, rfl, h1, _, rfl, ?_⟩)
            by_cases i1 : isIntD d1 = true
            · rw [i1]
              refine iteF ⟨_, rfl, st, v2, d2, rfl, h2, _, rfl, ?_⟩
              by_cases i2 : isIntD d2 = true
              · rw [i2]
                refine iteF ?_
                cases h1 with
                | int n =>
                  cases h2 with
                  | int m =>
                    refine ⟨_, rfl, _, _, rfl, rfl, _, rfl, ?_⟩
                    refine ite2 (fun mm => ?_) (fun mm => ?_)
                    · have m1 : (1 : Int) ≤ m := of_decide_eq_true mm
                      refine ⟨_, rfl, _, rfl, n, m, rfl, ?_⟩
                      have e : isRatioD (.tup [.int n, .int m]) = decide (V.int ((Nat.gcd n.natAbs m.natAbs : Nat) : Int) = V.int 1) := by
                        show (decide (1 ≤ m) && decide (Nat.gcd n.natAbs m.natAbs = 1)) = _
                        rw [decide_eq_true m1, Bool.true_and]
                        exact decide_eq_decide.mpr ⟨fun z => by rw [z]; rfl, fun z => by have := V.int.inj z; omega⟩
                      rw [e] at k
                      exact ⟨rfl, k⟩
                    · have m1 : ¬ (1 : Int) ≤ m := fun z => mm (decide_eq_true z)
                      have e : isRatioD (.tup [.int n, .int m]) = false := by
                        show (decide (1 ≤ m) && decide (Nat.gcd n.natAbs m.natAbs = 1)) = _
                        rw [decide_eq_false m1, Bool.false_and]
                      rw [e] at k
                      exact k
                  | _ => cases i2
                | _ => cases i1
              · have i2' : isIntD d2 = false := by simpa using i2
                rw [i2']
                have e : isRatioD (.tup [d1, d2]) = false := by
                  cases d1 <;> cases d2 <;> first | rfl | (cases i2')
                rw [e] at k
                exact iteT k
            · have i1' : isIntD d1 = false := by simpa using i1
              rw [i1']
              have e : isRatioD (.tup [d1, d2]) = false := by
                cases d1 <;> first | rfl | (cases i1')
              rw [e] at k
              exact iteT (iteT k)
abbrev s_p_is_ratio_list : Stmt := top 43
theorem sc_p_is_ratio_list : FnScope ["value", "item"] ["value"] (defScope s_p_is_ratio_list) := ⟨rfl, rfl, rfl, by decide +kernel, rfl, by decide +kernel, by decide +kernel⟩
theorem ok_p_is_ratio_list {f : Addr} {fd : FuncData} (F : Fun K "is_ratio_list" "is_ratio_list" s_p_is_ratio_list f fd) (T : TxtP K mg) (c_p_is_ratio : Callee P w K mg base CX0 2 "is_ratio" ["value"] (spIsRat K)) :
    FnOk P w K mg base CX0 3 f fd ["value"] (spIsRats K) := by
  refine F.ok sc_p_is_ratio_list (fun vs H Q E h => ?_) (fun cdv A outer s H vs Q E hr h => ?_)
  · obtain ⟨_, _, _, rfl, _⟩ := h
    rfl
  · obtain ⟨st, v, d, rfl, hv, hs, k⟩ := h
    refine ⟨_, (pss_one (ps_ret (pe_and (pe_callB call_isi (by rfl) T.isinstance (by decide +kernel) (pa_cons (pv 0) (pa_cons (pe_bltn (v := .ty "list") (by rfl) T.list (by decide +kernel) rfl) pa_nil))) (pe_one (pe_callB (cr_all rfl) (by rfl) T.all (by decide +kernel) (pa_cons (pe_lc (own := [("item", 1)]) (g := gName 1) rfl sc_p_is_ratio_list.nd (pi_list (pv 0)) (blkOk_by (own := [("item", 1)]) (N := ["value", "item"]) (sc := defScope s_p_is_ratio_list) (by decide +kernel)) (fun _ _ _ _ _ => pg_name (i := 1) sc_p_is_ratio_list.nd rfl (Or.inl rfl)) (fun _ _ _ _ _ => pts_nil) (fun _ _ _ _ _ => (pe_fn c_p_is_ratio (hr.mono (by decide)) (by rfl) pass0 (pa_cons (pv 1) pa_nil)))) pa_nil)))))), ?_⟩
    refine ⟨_, rfl, _, _, _, _, _, rfl, .ty _, hv.ty, isC_kit .list _, _, rfl, ?_⟩
    cases hv with
    | non => exact iteF (k _ (Same.refl H))
    | bl b => exact iteF (k _ (Same.refl H))
    | int i => exact iteF (k _ (Same.refl H))
    | str s => exact iteF (k _ (Same.refl H))
    | tup h r => exact iteF (k _ (Same.refl H))
    | dct n h => exact iteF (k _ (Same.refl H))
    | @lst a xs ds n h r =>
      have hlen : xs.length = ds.length := r.length
      have hds := hs ds rfl
      refine iteT ⟨_, rfl, a, rfl, ⟨xs, h⟩, fun D0 hD => lc_list (xs := xs) (fun i H' => H' = upd H D0 (.lst (((ds.take i).map isRatioD).map V.bl))) rfl (fun i H' _ e => ?_) (fun i x H' hx e => ?_) (fun H' e => ?_)⟩
      · rw [e]
        exact sqL_same (st := st) (fun b o _ q => Same.new hD b o q) n h
      · obtain ⟨dx, hdx, hvx⟩ := r.get hx
        have hi : i < ds.length := (List.getElem?_eq_some_iff.mp hdx).1
        subst e
        refine ⟨rfl, ?_⟩
        refine lcYes ⟨_, rfl, st, x, dx, rfl, hvx.same (Same.new hD), _, upd_same, ?_, ?_⟩
        · rw [List.length_map, List.length_map, List.length_take, sizeLine_eq]
          omega
        · show upd (upd H D0 _) D0 _ = upd H D0 _
          rw [upd_upd, List.take_add_one, hdx]
          simp only [List.map_append, Option.toList, List.map_cons, List.map_nil]
      · subst e
        have e2 : ds.take xs.length = ds := by rw [hlen, List.take_length]
        rw [e2]
        refine ⟨D0, _, rfl, SqL.of upd_same, ?_⟩
        have e3 : isRatiosD (.lst ds) = (ds.map isRatioD).all id := by
          show ds.all isRatioD = _
          rw [List.all_map]
          rfl
        rw [e3] at k
        exact k _ (Same.new hD)
end
end K00

set_option Elab.async false
set_option linter.all false
set_option maxRecDepth 100000
set_option maxHeartbeats 4000000
namespace K00
open PySem L2
/-! ### the faults and the answers, on the plain data -/
inductive Flt where
  | wk (z : Str)
  | zd
def Out (C : Addr) (fld : Str) (v : V) (H : Hp) (E : XK) : Prop := ∀ (H' : Hp) (d : Addr), Same H H' → H' d = none → E (.ref C) (some d) (upd H' d (.xd [(fld, v)]))
def OutF (CW CZ : Addr) : Flt → Hp → XK → Prop
  | .wk z, H, E => Out CW "argument" (.str z) H E
  | .zd, H, E => Out CZ "subject" .non H E
theorem Out.same {C : Addr} {fld : Str} {v : V} {H H' : Hp} {E : XK} (h : Out C fld v H E) (s : Same H H') : Out C fld v H' E := fun H2 d s2 hd => h H2 d (s.trans s2) hd
def numD : D → Int
  | .tup [.int n, .int _] => n
  | _ => 0
def denD : D → Int
  | .tup [.int _, .int m] => m
  | _ => 1
def intD : D → Int
  | .int i => i
  | _ => 0
def rat2 (d e : D) : Option Flt := if isRatioD d = true then (if isRatioD e = true then none else some (.wk "other")) else some (.wk "one")
def fltD : Nat → D → D → Option Flt
  | 0, d, e => if isIntD d = true then (if isIntD e = true then (if intD e = 0 then some .zd else none) else some (.wk "denominator")) else some (.wk "numerator")
  | 4, d, e => if isRatioD d = true then (if isRatioD e = true then (if numD e = 0 then some .zd else none) else some (.wk "other")) else some (.wk "one")
  | 6, d, _ => if isRatioD d = true then none else some (.wk "one")
  | 7, d, _ => if isRatioD d = true then none else some (.wk "one")
  | 8, d, _ => if isRatiosD d = true then none else some (.wk "values")
  | 9, d, _ => if isIntD d = true then none else some (.wk "numerator")
  | _, d, e => rat2 d e
def seqF : Int → Int → List D → Int × Int
  | u, w, [] => (u, w)
  | u, w, r :: t => seqF (u * denD r + numD r * w) (w * denD r) t
def lstD : D → List D
  | .lst ds => ds
  | _ => []
def fracD : Nat → D → D → Int × Int
  | 0, d, e => (intD d, intD e)
  | 1, d, e => gPlus (numD d) (denD d) (numD e) (denD e)
  | 2, d, e => gMinus (numD d) (denD d) (numD e) (denD e)
  | 3, d, e => gTimes (numD d) (denD d) (numD e) (denD e)
  | 4, d, e => gOver (numD d) (denD d) (numD e) (denD e)
  | 6, d, _ => (-numD d, denD d)
  | 8, d, _ => seqF 0 1 (lstD d)
  | 9, d, _ => (intD d, 1)
  | _, _, _ => (0, 1)
def ratD (f : Int × Int) : D := .tup [.int (lowN f.1 f.2), .int (lowD f.1 f.2)]
def ansD : Nat → D → D → D
  | 5, d, e => .int (sgn (gMinus (numD d) (denD d) (numD e) (denD e)).1)
  | 7, d, _ => .int (sgn (numD d))
  | w, d, e => ratD (fracD w d e)
/-- the numbers of a pair are below 2 ^ 4400 -/
def Bs (d : D) : Prop := ∀ n m, d = .tup [.int n, .int m] → n.natAbs < 2 ^ 4400 ∧ m.natAbs < 2 ^ 4400
theorem isRatioD_inv {d : D} (h : isRatioD d = true) : ∃ n m, d = .tup [.int n, .int m] ∧ Lo n m := by
  unfold isRatioD at h
  split at h
  · rename_i n m
    rw [Bool.and_eq_true] at h
    have a := of_decide_eq_true h.1
    exact ⟨n, m, rfl, by omega, of_decide_eq_true h.2⟩
  · cases h
theorem isIntD_inv {d : D} (h : isIntD d = true) : ∃ n, d = .int n := by
  unfold isIntD at h
  split at h
  · exact ⟨_, rfl⟩
  · cases h
theorem Val.rat {K : PySem.W.Frag} {st : Addr} {H : Hp} {v : V} {n m : Int} (h : Val K st H v (.tup [.int n, .int m])) : RatV K H v n m := by
  cases h with
  | tup h r =>
    cases r with
    | cons h1 r1 =>
      cases r1 with
      | cons h2 r2 =>
        cases r2
        cases h1
        cases h2
        exact ⟨_, rfl, h⟩
theorem sm9 {n : Int} (h : n.natAbs < 2 ^ 4400) : n.natAbs < 2 ^ 9000 := pow_up h (by decide)
theorem sm9m {n m : Int} (h : n.natAbs < 2 ^ 4400) (g : m.natAbs < 2 ^ 4400) : (n * m).natAbs < 2 ^ 9000 := pow_up (wide_lt h g) (by decide)
theorem sgn_low {u d : Int} (h : 0 < d) : sgn (lowN u d) = sgn u := by
  have e := lowN_mul (u := u) (d := d)
  have g : 0 < lowG u d := by
    have := lowG_ne (u := u) (d := d) (by omega)
    unfold lowG at this ⊢
    rw [if_neg (show ¬ d < 0 by omega)] at this ⊢
    omega
  generalize lowN u d = a at e ⊢
  generalize lowG u d = b at e g
  unfold sgn
  by_cases h1 : 0 < a
  · have : 0 < a * b := Int.mul_pos h1 g
    rw [if_pos h1, if_pos (by omega)]
  · by_cases h2 : a < 0
    · have : a * b < 0 := Int.mul_neg_of_neg_of_pos h2 g
      rw [if_neg h1, if_pos h2, if_neg (by omega), if_pos (by omega)]
    · have : a = 0 := by omega
      rw [this, Int.zero_mul] at e
      rw [if_neg h1, if_neg h2, if_neg (by omega), if_neg (by omega)]

section
open PyProof.Rows
theorem okN {P : Program} {w : World} {K : PySem.W.Frag} {mg : Str → Option Value} {base : Heap} {x qual : Str} {st : Stmt} {f : Addr} {fd : FuncData} {N ps : List Str} {k : Nat} {sp : Sp} (F : Fun K x qual st f fd) (S : FnScope N ps (defScope st)) (len : ∀ vs H Q E, sp vs H Q E → vs.length = ps.length)
    (hb : ∀ (cdv : Value) (A : Around) (outer : List Env) (s : Shared) (H : Hp) (vs : List V) (Q : VK) (E : XK), Room k (A.deeper (envOfC qual (defScope st) s.heap.objs.size f cdv)) → sp vs H Q E →
      ∃ t, PSs (cxOf (L2N.CX P w) P w K mg base N qual (defScope st) f cdv A outer s H E) (defBody st) t ∧ t { nx := fun _ H' => Q .non H', rt := Q } (start N vs) H) : FnOk P w K mg base (L2N.CX P w) (k + 1) f fd ps sp := by
  obtain ⟨_, _, _, _, _, _, cdv, _, _, rfl, lk, hcd⟩ := F.ex
  exact fn_of lk hcd S len fun A outer s H vs Q E hr hsp => hb cdv A outer s H vs Q E hr hsp
theorem passN {P : Program} {w : World} {K : PySem.W.Frag} {mg : Str → Option Value} {base : Heap} {N : List Str} {qual : Str} {scope : Scope} {f : Addr} {cd : Value} {A : Around} {outer : List Env} {s : Shared} {H : Hp} {E : XK} :
    Passes (L2N.CX P w) (cxOf (L2N.CX P w) P w K mg base N qual scope f cd A outer s H E) E := L2N.passes_call (L2N.takes_of rfl rfl rfl rfl) fun _ _ _ _ h => h
end
def spNeed (K : PySem.W.Frag) (C : Addr) : Sp := fun vs H Q E => ∃ (st : Addr) (v : V) (d : D) (z : Str), vs = [v, .str z] ∧ Val K st H v d ∧ z.length ≤ 1000 ∧ (isRatioD d = true → Q .non H) ∧ (isRatioD d = false → Out C "argument" (.str z) H E)
def spNeeds (K : PySem.W.Frag) (C : Addr) : Sp := fun vs H Q E => ∃ (st : Addr) (v : V) (d : D) (z : Str), vs = [v, .str z] ∧ Val K st H v d ∧ Sh d ∧ z.length ≤ 1000 ∧ (isRatiosD d = true → ∀ H', Same H H' → Q .non H') ∧ (isRatiosD d = false → Out C "argument" (.str z) H E)
def spNeed2 (K : PySem.W.Frag) (C : Addr) : Sp := fun vs H Q E => ∃ (st : Addr) (v w : V) (d e : D), vs = [v, w] ∧ Val K st H v d ∧ Val K st H w e ∧ (rat2 d e = none → Q .non H) ∧ (∀ z, rat2 d e = some (.wk z) → Out C "argument" (.str z) H E)
/-- what a function of the program promises: its arguments' data d, e -/
def spApi (K : PySem.W.Frag) (CW CZ : Addr) (way : Nat) (two : Bool) (fine : D → D → Prop) : Sp := fun vs H Q E => ∃ (st : Addr) (v x : V) (d e : D), vs = (if two = true then [v, x] else [v]) ∧ Val K st H v d ∧ Val K st H x e ∧ fine d e ∧
  (∀ g, fltD way d e = some g → OutF CW CZ g H E) ∧ (fltD way d e = none → ∀ (y : V) (H' : Hp), Same H H' → Val K st H' y (ansD way d e) → Q y H')
def fineR (d e : D) : Prop := Bs d ∧ Bs e
def fineI (_ e : D) : Prop := ∀ i, e = .int i → i.natAbs < 2 ^ 9000
section
variable {P : Program} {w : World} {K : PySem.W.Frag} {mg : Str → Option Value} {base : Heap} {CW CZ : Addr}
abbrev s_p_need_ratio : Stmt := top 44
theorem sc_p_need_ratio : FnScope ["value", "argument"] ["value", "argument"] (defScope s_p_need_ratio) := ⟨rfl, rfl, rfl, by decide +kernel, rfl, by decide +kernel, by decide +kernel⟩
theorem ok_p_need_ratio {f : Addr} {fd : FuncData} (F : Fun K "need_ratio" "need_ratio" s_p_need_ratio f fd) (eW : Err P w K mg base "WrongKind" CW "argument" true) (c_p_is_ratio : Callee P w K mg base CX0 2 "is_ratio" ["value"] (spIsRat K)) :
    FnOk P w K mg base (L2N.CX P w) 5 f fd ["value", "argument"] (spNeed K CW) := by
  refine okN F sc_p_need_ratio (fun vs H Q E h => ?_) (fun cdv A outer s H vs Q E hr h => ?_)
  · obtain ⟨_, _, _, _, rfl, _⟩ := h
    rfl
  · obtain ⟨st, v, d, z, rfl, hv, hz, k1, k2⟩ := h
    refine ⟨_, (pss_one (ps_if (pt_not (pt_val (pe_fn c_p_is_ratio (hr.mono (by decide)) (by rfl) pass0 (pa_cons (pv 0) pa_nil)))) (pss_one (L2N.ps_raise rfl (L2N.takes_of rfl rfl rfl rfl) (pmk_err eW (hr.mono (by decide)) (pv 1) (by rfl)))) pss_nil)), ?_⟩
    refine ⟨_, rfl, st, v, d, rfl, hv, _, rfl, ?_⟩
    by_cases c : isRatioD d = true
    · rw [c]
      exact iteF (k1 c)
    · rw [Bool.not_eq_true] at c
      rw [c]
      exact iteT ⟨_, rfl, _, rfl, .inr ⟨z, rfl, hz⟩, fun dd hd => k2 c H dd (Same.refl H) hd⟩
abbrev s_p_need_ratio_list : Stmt := top 45
theorem sc_p_need_ratio_list : FnScope ["value", "argument"] ["value", "argument"] (defScope s_p_need_ratio_list) := ⟨rfl, rfl, rfl, by decide +kernel, rfl, by decide +kernel, by decide +kernel⟩
theorem ok_p_need_ratio_list {f : Addr} {fd : FuncData} (F : Fun K "need_ratio_list" "need_ratio_list" s_p_need_ratio_list f fd) (eW : Err P w K mg base "WrongKind" CW "argument" true) (c_p_is_ratio_list : Callee P w K mg base CX0 3 "is_ratio_list" ["value"] (spIsRats K)) :
    FnOk P w K mg base (L2N.CX P w) 5 f fd ["value", "argument"] (spNeeds K CW) := by
  refine okN F sc_p_need_ratio_list (fun vs H Q E h => ?_) (fun cdv A outer s H vs Q E hr h => ?_)
  · obtain ⟨_, _, _, _, rfl, _⟩ := h
    rfl
  · obtain ⟨st, v, d, z, rfl, hv, hs, hz, k1, k2⟩ := h
    refine ⟨_, (pss_one (ps_if (pt_not (pt_val (pe_fn c_p_is_ratio_list (hr.mono (by decide)) (by rfl) pass0 (pa_cons (pv 0) pa_nil)))) (pss_one (L2N.ps_raise rfl (L2N.takes_of rfl rfl rfl rfl) (pmk_err eW (hr.mono (by decide)) (pv 1) (by rfl)))) pss_nil)), ?_⟩
    refine ⟨_, rfl, st, v, d, rfl, hv, hs, fun H1 s1 => ⟨_, rfl, ?_⟩⟩
    by_cases c : isRatiosD d = true
    · rw [c]
      exact iteF (k1 c _ s1)
    · rw [Bool.not_eq_true] at c
      rw [c]
      exact iteT ⟨_, rfl, _, rfl, .inr ⟨z, rfl, hz⟩, fun dd hd => k2 c H1 dd s1 hd⟩
abbrev s_p_need_two : Stmt := top 46
theorem sc_p_need_two : FnScope ["one", "other"] ["one", "other"] (defScope s_p_need_two) := ⟨rfl, rfl, rfl, by decide +kernel, rfl, by decide +kernel, by decide +kernel⟩
theorem ok_p_need_two {f : Addr} {fd : FuncData} (F : Fun K "_need_two" "_need_two" s_p_need_two f fd) (c_p_need_ratio : Callee P w K mg base (L2N.CX P w) 5 "need_ratio" ["value", "argument"] (spNeed K CW)) :
    FnOk P w K mg base (L2N.CX P w) 6 f fd ["one", "other"] (spNeed2 K CW) := by
  refine okN F sc_p_need_two (fun vs H Q E h => ?_) (fun cdv A outer s H vs Q E hr h => ?_)
  · obtain ⟨_, _, _, _, _, rfl, _⟩ := h
    rfl
  · obtain ⟨st, v, x, d, e, rfl, hv, hx, k1, k2⟩ := h
    refine ⟨_, (pss_cons (ps_expr (pe_fn c_p_need_ratio (hr.mono (by decide)) (by rfl) passN (pa_cons (pv 0) (pa_cons pe_str pa_nil))))
  (pss_one (ps_expr (pe_fn c_p_need_ratio (hr.mono (by decide)) (by rfl) passN (pa_cons (pv 1) (pa_cons pe_str pa_nil)))))), ?_⟩
    refine ⟨_, rfl, st, v, d, _, rfl, hv, by decide +kernel, fun c1 => ⟨_, rfl, st, x, e, _, rfl, hx, by decide +kernel, fun c2 => k1 ?_, fun c2 => k2 _ ?_⟩, fun c1 => k2 _ ?_⟩
    · unfold rat2; rw [if_pos c1, if_pos c2]
    · unfold rat2; rw [if_pos c1, if_neg (by rw [c2]; exact Bool.false_ne_true)]
    · unfold rat2; rw [if_neg (by rw [c1]; exact Bool.false_ne_true)]
end
end K00

set_option Elab.async false
set_option linter.all false
set_option maxRecDepth 100000
set_option maxHeartbeats 4000000
namespace K00
open PySem L2
theorem rat2_none {d e : D} (h : rat2 d e = none) : isRatioD d = true ∧ isRatioD e = true := by
  unfold rat2 at h
  by_cases c1 : isRatioD d = true
  · rw [if_pos c1] at h
    by_cases c2 : isRatioD e = true
    · exact ⟨c1, c2⟩
    · rw [if_neg c2] at h; cases h
  · rw [if_neg c1] at h; cases h
theorem rat2_yes {d e : D} (c1 : isRatioD d = true) (c2 : isRatioD e = true) : rat2 d e = none := by
  unfold rat2; rw [if_pos c1, if_pos c2]
section
variable {P : Program} {w : World} {K : PySem.W.Frag} {mg : Str → Option Value} {base : Heap} {CW CZ : Addr}
abbrev s_p_add : Stmt := top 48
theorem sc_p_add : FnScope ["one", "other"] ["one", "other"] (defScope s_p_add) := ⟨rfl, rfl, rfl, by decide +kernel, rfl, by decide +kernel, by decide +kernel⟩
theorem ok_p_add {f : Addr} {fd : FuncData} (F : Fun K "add" "add" s_p_add f fd) (c_p_need_two : Callee P w K mg base (L2N.CX P w) 6 "_need_two" ["one", "other"] (spNeed2 K CW)) (c_p_plus : Callee P w K mg base CX0 2 "plus" ["one", "other"] (spAr K gPlus)) :
    FnOk P w K mg base (L2N.CX P w) 7 f fd ["one", "other"] (spApi K CW CZ 1 true fineR) := by
  refine okN F sc_p_add (fun vs H Q E h => ?_) (fun cdv A outer s H vs Q E hr h => ?_)
  · obtain ⟨_, _, _, _, _, rfl, _⟩ := h
    rfl
  · obtain ⟨st, v, x, d, e, rfl, hv, hx, ⟨b1, b2⟩, k1, k2⟩ := h
    refine ⟨_, (pss_cons (ps_expr (pe_fn c_p_need_two (hr.mono (by decide)) (by rfl) passN (pa_cons (pv 0) (pa_cons (pv 1) pa_nil))))
  (pss_one (ps_ret (pe_fn c_p_plus (hr.mono (by decide)) (by rfl) pass0 (pa_cons (pv 0) (pa_cons (pv 1) pa_nil)))))), ?_⟩
    refine ⟨_, rfl, _, rfl, st, v, x, d, e, rfl, hv, hx, fun c => ?_, fun z c => k1 (.wk z) c⟩
    obtain ⟨c1, c2⟩ := rat2_none c
    obtain ⟨n, a, rfl, l1⟩ := isRatioD_inv c1
    obtain ⟨m, b, rfl, l2⟩ := isRatioD_inv c2
    obtain ⟨bn, ba⟩ := b1 _ _ rfl
    obtain ⟨bm, bb⟩ := b2 _ _ rfl
    have ab : (a * b) ≠ 0 := Int.mul_ne_zero (by have := l1.pos; omega) (by have := l2.pos; omega)
    exact ⟨_, rfl, _, rfl, v, x, n, a, m, b, rfl, hv.rat, hx.rat, sm9 bn, sm9 ba, sm9 bm, sm9 bb, ab, sm9m ba bb, fun p hp => k2 c _ _ (Same.new hp) (RatV.new.val)⟩
abbrev s_p_subtract : Stmt := top 49
theorem sc_p_subtract : FnScope ["one", "other"] ["one", "other"] (defScope s_p_subtract) := ⟨rfl, rfl, rfl, by decide +kernel, rfl, by decide +kernel, by decide +kernel⟩
theorem ok_p_subtract {f : Addr} {fd : FuncData} (F : Fun K "subtract" "subtract" s_p_subtract f fd) (c_p_need_two : Callee P w K mg base (L2N.CX P w) 6 "_need_two" ["one", "other"] (spNeed2 K CW)) (c_p_minus : Callee P w K mg base CX0 2 "minus" ["one", "other"] (spAr K gMinus)) :
    FnOk P w K mg base (L2N.CX P w) 7 f fd ["one", "other"] (spApi K CW CZ 2 true fineR) := by
  refine okN F sc_p_subtract (fun vs H Q E h => ?_) (fun cdv A outer s H vs Q E hr h => ?_)
  · obtain ⟨_, _, _, _, _, rfl, _⟩ := h
    rfl
  · obtain ⟨st, v, x, d, e, rfl, hv, hx, ⟨b1, b2⟩, k1, k2⟩ := h
    refine ⟨_, (pss_cons (ps_expr (pe_fn c_p_need_two (hr.mono (by decide)) (by rfl) passN (pa_cons (pv 0) (pa_cons (pv 1) pa_nil))))
  (pss_one (ps_ret (pe_fn c_p_minus (hr.mono (by decide)) (by rfl) pass0 (pa_cons (pv 0) (pa_cons (pv 1) pa_nil)))))), ?_⟩
    refine ⟨_, rfl, _, rfl, st, v, x, d, e, rfl, hv, hx, fun c => ?_, fun z c => k1 (.wk z) c⟩
    obtain ⟨c1, c2⟩ := rat2_none c
    obtain ⟨n, a, rfl, l1⟩ := isRatioD_inv c1
    obtain ⟨m, b, rfl, l2⟩ := isRatioD_inv c2
    obtain ⟨bn, ba⟩ := b1 _ _ rfl
    obtain ⟨bm, bb⟩ := b2 _ _ rfl
    have ab : (a * b) ≠ 0 := Int.mul_ne_zero (by have := l1.pos; omega) (by have := l2.pos; omega)
    exact ⟨_, rfl, _, rfl, v, x, n, a, m, b, rfl, hv.rat, hx.rat, sm9 bn, sm9 ba, sm9 bm, sm9 bb, ab, sm9m ba bb, fun p hp => k2 c _ _ (Same.new hp) (RatV.new.val)⟩
abbrev s_p_multiply : Stmt := top 50
theorem sc_p_multiply : FnScope ["one", "other"] ["one", "other"] (defScope s_p_multiply) := ⟨rfl, rfl, rfl, by decide +kernel, rfl, by decide +kernel, by decide +kernel⟩
theorem ok_p_multiply {f : Addr} {fd : FuncData} (F : Fun K "multiply" "multiply" s_p_multiply f fd) (c_p_need_two : Callee P w K mg base (L2N.CX P w) 6 "_need_two" ["one", "other"] (spNeed2 K CW)) (c_p_times : Callee P w K mg base CX0 2 "times" ["one", "other"] (spAr K gTimes)) :
    FnOk P w K mg base (L2N.CX P w) 7 f fd ["one", "other"] (spApi K CW CZ 3 true fineR) := by
  refine okN F sc_p_multiply (fun vs H Q E h => ?_) (fun cdv A outer s H vs Q E hr h => ?_)
  · obtain ⟨_, _, _, _, _, rfl, _⟩ := h
    rfl
  · obtain ⟨st, v, x, d, e, rfl, hv, hx, ⟨b1, b2⟩, k1, k2⟩ := h
    refine ⟨_, (pss_cons (ps_expr (pe_fn c_p_need_two (hr.mono (by decide)) (by rfl) passN (pa_cons (pv 0) (pa_cons (pv 1) pa_nil))))
  (pss_one (ps_ret (pe_fn c_p_times (hr.mono (by decide)) (by rfl) pass0 (pa_cons (pv 0) (pa_cons (pv 1) pa_nil)))))), ?_⟩
    refine ⟨_, rfl, _, rfl, st, v, x, d, e, rfl, hv, hx, fun c => ?_, fun z c => k1 (.wk z) c⟩
    obtain ⟨c1, c2⟩ := rat2_none c
    obtain ⟨n, a, rfl, l1⟩ := isRatioD_inv c1
    obtain ⟨m, b, rfl, l2⟩ := isRatioD_inv c2
    obtain ⟨bn, ba⟩ := b1 _ _ rfl
    obtain ⟨bm, bb⟩ := b2 _ _ rfl
    have ab : (a * b) ≠ 0 := Int.mul_ne_zero (by have := l1.pos; omega) (by have := l2.pos; omega)
    exact ⟨_, rfl, _, rfl, v, x, n, a, m, b, rfl, hv.rat, hx.rat, sm9 bn, sm9 ba, sm9 bm, sm9 bb, ab, sm9m ba bb, fun p hp => k2 c _ _ (Same.new hp) (RatV.new.val)⟩
abbrev s_p_divide : Stmt := top 51
theorem sc_p_divide : FnScope ["one", "other"] ["one", "other"] (defScope s_p_divide) := ⟨rfl, rfl, rfl, by decide +kernel, rfl, by decide +kernel, by decide +kernel⟩
theorem ok_p_divide {f : Addr} {fd : FuncData} (F : Fun K "divide" "divide" s_p_divide f fd) (eZ : Err P w K mg base "ZeroDivisor" CZ "subject" false) (c_p_need_two : Callee P w K mg base (L2N.CX P w) 6 "_need_two" ["one", "other"] (spNeed2 K CW)) (c_p_over : Callee P w K mg base CX0 2 "over" ["one", "other"] (spAr K gOver)) :
    FnOk P w K mg base (L2N.CX P w) 7 f fd ["one", "other"] (spApi K CW CZ 4 true fineR) := by
  refine okN F sc_p_divide (fun vs H Q E h => ?_) (fun cdv A outer s H vs Q E hr h => ?_)
  · obtain ⟨_, _, _, _, _, rfl, _⟩ := h
    rfl
  · obtain ⟨st, v, x, d, e, rfl, hv, hx, ⟨b1, b2⟩, k1, k2⟩ := h
    refine ⟨_, (pss_cons (ps_expr (pe_fn c_p_need_two (hr.mono (by decide)) (by rfl) passN (pa_cons (pv 0) (pa_cons (pv 1) pa_nil))))
  (pss_cons (ps_if (pt_cmpR op_eq (pe_ix ix_seq (pv 1) pe_int (fun _ _ => rfl)) pe_int (nomark _)) (pss_one (L2N.ps_raise rfl (L2N.takes_of rfl rfl rfl rfl) (pmk_err0 eZ (hr.mono (by decide)) (by rfl)))) pss_nil)
  (pss_one (ps_ret (pe_fn c_p_over (hr.mono (by decide)) (by rfl) pass0 (pa_cons (pv 0) (pa_cons (pv 1) pa_nil))))))), ?_⟩
    refine ⟨_, rfl, _, rfl, st, v, x, d, e, rfl, hv, hx, fun c => ?_, fun z c => k1 (.wk z) ?_⟩
    · obtain ⟨c1, c2⟩ := rat2_none c
      have ef : fltD 4 d e = if numD e = 0 then some .zd else none := by
        show (if isRatioD d = true then (if isRatioD e = true then (if numD e = 0 then some Flt.zd else none) else some (.wk "other")) else some (.wk "one")) = _
        rw [if_pos c1, if_pos c2]
      obtain ⟨n, a, rfl, l1⟩ := isRatioD_inv c1
      obtain ⟨m, b, rfl, l2⟩ := isRatioD_inv c2
      obtain ⟨bn, ba⟩ := b1 _ _ rfl
      obtain ⟨bm, bb⟩ := b2 _ _ rfl
      refine ⟨_, rfl, hx.rat.i0 ⟨rfl, _, rfl, ite2 (fun h0 => ?_) (fun h0 => ?_)⟩⟩
      · have m0 : m = 0 := int_eq h0
        exact fun dd hd => k1 .zd (by rw [ef]; exact if_pos m0) H dd (Same.refl H) hd
      · have m0 : m ≠ 0 := int_ne h0
        have am : (a * m) ≠ 0 := Int.mul_ne_zero (by have := l1.pos; omega) m0
        exact ⟨_, rfl, _, rfl, v, x, n, a, m, b, rfl, hv.rat, hx.rat, sm9 bn, sm9 ba, sm9 bm, sm9 bb, am, sm9m ba bm, fun p hp => k2 (by rw [ef]; exact if_neg m0) _ _ (Same.new hp) (RatV.new.val)⟩
    · show (if isRatioD d = true then (if isRatioD e = true then (if numD e = 0 then some Flt.zd else none) else some (.wk "other")) else some (.wk "one")) = _
      unfold rat2 at c
      by_cases c1 : isRatioD d = true
      · rw [if_pos c1] at c ⊢
        by_cases c2 : isRatioD e = true
        · rw [if_pos c2] at c; cases c
        · rw [if_neg c2] at c ⊢; exact c
      · rw [if_neg c1] at c ⊢; exact c
abbrev s_p_compare : Stmt := top 54
theorem sc_p_compare : FnScope ["one", "other"] ["one", "other"] (defScope s_p_compare) := ⟨rfl, rfl, rfl, by decide +kernel, rfl, by decide +kernel, by decide +kernel⟩
theorem ok_p_compare {f : Addr} {fd : FuncData} (F : Fun K "compare" "compare" s_p_compare f fd) (c_p_need_two : Callee P w K mg base (L2N.CX P w) 6 "_need_two" ["one", "other"] (spNeed2 K CW)) (c_p_minus : Callee P w K mg base CX0 2 "minus" ["one", "other"] (spAr K gMinus))
    (c_p_sign_of : Callee P w K mg base CX0 2 "sign_of" ["one"] (spSignOf K)) :
    FnOk P w K mg base (L2N.CX P w) 7 f fd ["one", "other"] (spApi K CW CZ 5 true fineR) := by
  refine okN F sc_p_compare (fun vs H Q E h => ?_) (fun cdv A outer s H vs Q E hr h => ?_)
  · obtain ⟨_, _, _, _, _, rfl, _⟩ := h
    rfl
  · obtain ⟨st, v, x, d, e, rfl, hv, hx, ⟨b1, b2⟩, k1, k2⟩ := h
    refine ⟨_, (pss_cons (ps_expr (pe_fn c_p_need_two (hr.mono (by decide)) (by rfl) passN (pa_cons (pv 0) (pa_cons (pv 1) pa_nil))))
  (pss_one (ps_ret (pe_fn c_p_sign_of (hr.mono (by decide)) (by rfl) pass0 (pa_cons (pe_fn c_p_minus (hr.mono (by decide)) (by rfl) pass0 (pa_cons (pv 0) (pa_cons (pv 1) pa_nil))) pa_nil))))), ?_⟩
    refine ⟨_, rfl, _, rfl, st, v, x, d, e, rfl, hv, hx, fun c => ?_, fun z c => k1 (.wk z) c⟩
    obtain ⟨c1, c2⟩ := rat2_none c
    obtain ⟨n, a, rfl, l1⟩ := isRatioD_inv c1
    obtain ⟨m, b, rfl, l2⟩ := isRatioD_inv c2
    obtain ⟨bn, ba⟩ := b1 _ _ rfl
    obtain ⟨bm, bb⟩ := b2 _ _ rfl
    have abp : 0 < a * b := Int.mul_pos l1.pos l2.pos
    have ab : (a * b) ≠ 0 := by omega
    refine ⟨_, rfl, _, rfl, v, x, n, a, m, b, rfl, hv.rat, hx.rat, sm9 bn, sm9 ba, sm9 bm, sm9 bb, ab, sm9m ba bb, fun p hp => ⟨_, _, _, rfl, RatV.new, ?_⟩⟩
    have e1 : sgn (lowN (gMinus n a m b).1 (gMinus n a m b).2) = sgn (gMinus n a m b).1 := sgn_low abp
    rw [e1]
    exact k2 c _ _ (Same.new hp) (.int _)
abbrev s_p_negate : Stmt := top 52
theorem sc_p_negate : FnScope ["one"] ["one"] (defScope s_p_negate) := ⟨rfl, rfl, rfl, by decide +kernel, rfl, by decide +kernel, by decide +kernel⟩
theorem ok_p_negate {f : Addr} {fd : FuncData} (F : Fun K "negate" "negate" s_p_negate f fd) (c_p_need_ratio : Callee P w K mg base (L2N.CX P w) 5 "need_ratio" ["value", "argument"] (spNeed K CW)) (c_p_opposite : Callee P w K mg base CX0 1 "opposite" ["one"] (spOpp K)) :
    FnOk P w K mg base (L2N.CX P w) 6 f fd ["one"] (spApi K CW CZ 6 false fineR) := by
  refine okN F sc_p_negate (fun vs H Q E h => ?_) (fun cdv A outer s H vs Q E hr h => ?_)
  · obtain ⟨_, _, _, _, _, rfl, _⟩ := h
    rfl
  · obtain ⟨st, v, x, d, e, rfl, hv, hx, ⟨b1, b2⟩, k1, k2⟩ := h
    refine ⟨_, (pss_cons (ps_expr (pe_fn c_p_need_ratio (hr.mono (by decide)) (by rfl) passN (pa_cons (pv 0) (pa_cons pe_str pa_nil))))
  (pss_one (ps_ret (pe_fn c_p_opposite (hr.mono (by decide)) (by rfl) pass0 (pa_cons (pv 0) pa_nil))))), ?_⟩
    refine ⟨_, rfl, st, v, d, _, rfl, hv, by decide +kernel, fun c => ?_, fun c => k1 (.wk "one") ?_⟩
    · have ef : fltD 6 d e = none := by
        show (if isRatioD d = true then none else some (Flt.wk "one")) = none
        rw [if_pos c]
      obtain ⟨n, a, rfl, l1⟩ := isRatioD_inv c
      refine ⟨_, rfl, v, n, a, rfl, hv.rat, fun p hp => k2 ef _ _ (Same.new hp) ?_⟩
      have lo := low_self (n := -n) l1.pos (by rw [Int.natAbs_neg]; exact l1.cop)
      have q : Val K st (upd H p (.tup [.int (-n), .int a])) (.ref p) (.tup [.int (-n), .int a]) := RatV.new.val
      show Val K st _ _ (.tup [.int (lowN (-n) a), .int (lowD (-n) a)])
      rw [lo.1, lo.2]
      exact q
    · show (if isRatioD d = true then none else some (Flt.wk "one")) = _
      rw [if_neg (by rw [c]; exact Bool.false_ne_true)]
abbrev s_p_sign : Stmt := top 53
theorem sc_p_sign : FnScope ["one"] ["one"] (defScope s_p_sign) := ⟨rfl, rfl, rfl, by decide +kernel, rfl, by decide +kernel, by decide +kernel⟩
theorem ok_p_sign {f : Addr} {fd : FuncData} (F : Fun K "sign" "sign" s_p_sign f fd) (c_p_need_ratio : Callee P w K mg base (L2N.CX P w) 5 "need_ratio" ["value", "argument"] (spNeed K CW)) (c_p_sign_of : Callee P w K mg base CX0 2 "sign_of" ["one"] (spSignOf K)) :
    FnOk P w K mg base (L2N.CX P w) 6 f fd ["one"] (spApi K CW CZ 7 false fineR) := by
  refine okN F sc_p_sign (fun vs H Q E h => ?_) (fun cdv A outer s H vs Q E hr h => ?_)
  · obtain ⟨_, _, _, _, _, rfl, _⟩ := h
    rfl
  · obtain ⟨st, v, x, d, e, rfl, hv, hx, ⟨b1, b2⟩, k1, k2⟩ := h
    refine ⟨_, (pss_cons (ps_expr (pe_fn c_p_need_ratio (hr.mono (by decide)) (by rfl) passN (pa_cons (pv 0) (pa_cons pe_str pa_nil))))
  (pss_one (ps_ret (pe_fn c_p_sign_of (hr.mono (by decide)) (by rfl) pass0 (pa_cons (pv 0) pa_nil))))), ?_⟩
    refine ⟨_, rfl, st, v, d, _, rfl, hv, by decide +kernel, fun c => ?_, fun c => k1 (.wk "one") ?_⟩
    · have ef : fltD 7 d e = none := by
        show (if isRatioD d = true then none else some (Flt.wk "one")) = none
        rw [if_pos c]
      obtain ⟨n, a, rfl, l1⟩ := isRatioD_inv c
      exact ⟨_, rfl, v, n, a, rfl, hv.rat, k2 ef _ _ (Same.refl H) (.int _)⟩
    · show (if isRatioD d = true then none else some (Flt.wk "one")) = _
      rw [if_neg (by rw [c]; exact Bool.false_ne_true)]
/-! ### ratio(numerator, denominator=1): both written, or the second its default -/
def spRat (K : PySem.W.Frag) (CW CZ : Addr) : Sp := spApi K CW CZ 0 true fineI
abbrev s_p_ratio : Stmt := top 47
theorem sc_p_ratio : FnScope ["numerator", "denominator"] ["numerator", "denominator"] (defScope s_p_ratio) := ⟨rfl, rfl, rfl, by decide +kernel, rfl, by decide +kernel, by decide +kernel⟩
theorem ok_p_ratio {f : Addr} {fd : FuncData} (F : FunD K "ratio" "ratio" (defArgs s_p_ratio) (defBody s_p_ratio) (defScope s_p_ratio) [.int 1] [] f fd) (eW : Err P w K mg base "WrongKind" CW "argument" true) (eZ : Err P w K mg base "ZeroDivisor" CZ "subject" false)
    (c_p_is_integer : Callee P w K mg base CX0 1 "is_integer" ["value"] (spIsInt K)) (c_p_lowest : Callee P w K mg base CX0 1 "lowest" ["numerator", "denominator"] spLowest) :
    FnOk P w K mg base (L2N.CX P w) 5 f fd ["numerator", "denominator"] (spRat K CW CZ) := by
  refine F.ok sc_p_ratio (fun vs H Q E h => ?_) (fun cdv A outer s H vs Q E hr h => ?_)
  · obtain ⟨_, _, _, _, _, rfl, _⟩ := h
    rfl
  · obtain ⟨st, v, x, d, e, rfl, hv, hx, bi, k1, k2⟩ := h
    refine ⟨_, (pss_cons (ps_if (pt_not (pt_val (pe_fn c_p_is_integer (hr.mono (by decide)) (by rfl) pass0 (pa_cons (pv 0) pa_nil)))) (pss_one (L2N.ps_raise rfl (L2N.takes_of rfl rfl rfl rfl) (pmk_err eW (hr.mono (by decide)) pe_str (by rfl)))) pss_nil)
  (pss_cons (ps_if (pt_not (pt_val (pe_fn c_p_is_integer (hr.mono (by decide)) (by rfl) pass0 (pa_cons (pv 1) pa_nil)))) (pss_one (L2N.ps_raise rfl (L2N.takes_of rfl rfl rfl rfl) (pmk_err eW (hr.mono (by decide)) pe_str (by rfl)))) pss_nil)
  (pss_cons (ps_if (pt_cmpR op_eq (pv 1) pe_int (nomark _)) (pss_one (L2N.ps_raise rfl (L2N.takes_of rfl rfl rfl rfl) (pmk_err0 eZ (hr.mono (by decide)) (by rfl)))) pss_nil)
  (pss_one (ps_ret (pe_fn c_p_lowest (hr.mono (by decide)) (by rfl) pass0 (pa_cons (pv 0) (pa_cons (pv 1) pa_nil)))))))), ?_⟩
    have ef : fltD 0 d e = if isIntD d = true then (if isIntD e = true then (if intD e = 0 then some .zd else none) else some (.wk "denominator")) else some (.wk "numerator") := rfl
    refine ⟨_, rfl, st, v, d, rfl, hv, _, rfl, ?_⟩
    by_cases c1 : isIntD d = true
    · rw [if_pos c1] at ef
      rw [c1]
      refine iteF ⟨_, rfl, st, x, e, rfl, hx, _, rfl, ?_⟩
      by_cases c2 : isIntD e = true
      · rw [if_pos c2] at ef
        rw [c2]
        obtain ⟨n, rfl⟩ := isIntD_inv c1
        obtain ⟨m, rfl⟩ := isIntD_inv c2
        cases hv
        cases hx
        refine iteF ⟨_, rfl, rfl, _, rfl, ite2 (fun h0 => ?_) (fun h0 => ?_)⟩
        · have m0 : m = 0 := int_eq h0
          exact fun dd hd => k1 .zd (by rw [ef]; exact if_pos m0) H dd (Same.refl H) hd
        · have m0 : m ≠ 0 := int_ne h0
          exact ⟨_, rfl, _, rfl, n, m, rfl, m0, bi m rfl, fun p hp => k2 (by rw [ef]; exact if_neg m0) _ _ (Same.new hp) (RatV.new.val)⟩
      · rw [if_neg c2] at ef
        rw [Bool.not_eq_true] at c2
        rw [c2]
        exact iteT ⟨_, rfl, .inr ⟨_, rfl, by decide +kernel⟩, fun dd hd => k1 (.wk "denominator") ef H dd (Same.refl H) hd⟩
    · rw [if_neg c1] at ef
      rw [Bool.not_eq_true] at c1
      rw [c1]
      exact iteT ⟨_, rfl, .inr ⟨_, rfl, by decide +kernel⟩, fun dd hd => k1 (.wk "numerator") ef H dd (Same.refl H) hd⟩
end
end K00

set_option Elab.async false
set_option linter.all false
set_option maxRecDepth 100000
set_option maxHeartbeats 4000000
namespace K00
open PySem L2
/-! ### the sum of a list, by neighbours -/
def plusD (a b : D) : D := ratD (gPlus (numD a) (denD a) (numD b) (denD b))
def zipUp : List D → List D
  | a :: b :: t => plusD a b :: zipUp t
  | _ => []
def lastO : List D → List D
  | _ :: _ :: t => lastO t
  | [a] => [a]
  | [] => []
def half (ds : List D) : List D := zipUp ds ++ lastO ds
def Un : List D → Int
  | [] => 0
  | r :: t => numD r * (t.foldr (fun r k => denD r * k) 1) + Un t * denD r
def Dn (ds : List D) : Int := ds.foldr (fun r k => denD r * k) 1
def szD (r : D) : Nat := (numD r).natAbs + (denD r).natAbs
def szs : List D → Nat
  | [] => 1
  | r :: t => szD r * szs t
theorem Un_cons {r : D} {t : List D} : Un (r :: t) = numD r * Dn t + Un t * denD r := rfl
theorem Dn_cons {r : D} {t : List D} : Dn (r :: t) = denD r * Dn t := rfl
theorem seqF_eq : ∀ (ds : List D) (u w : Int), seqF u w ds = (u * Dn ds + Un ds * w, w * Dn ds)
  | [], u, w => by
    show (u, w) = (u * 1 + 0 * w, w * 1)
    rw [Int.mul_one, Int.mul_one, Int.zero_mul, Int.add_zero]
  | r :: t, u, w => by
    show seqF (u * denD r + numD r * w) (w * denD r) t = _
    rw [seqF_eq t, Un_cons, Dn_cons]
    have e1 : (u * denD r + numD r * w) * Dn t + Un t * (w * denD r) = u * (denD r * Dn t) + (numD r * Dn t + Un t * denD r) * w := by grind
    have e2 : w * denD r * Dn t = w * (denD r * Dn t) := Int.mul_assoc ..
    rw [e1, e2]
theorem seqF_01 (ds : List D) : seqF 0 1 ds = (Un ds, Dn ds) := by
  rw [seqF_eq, Int.zero_mul, Int.zero_add, Int.mul_one, Int.one_mul]
theorem den_pos {r : D} (h : isRatioD r = true) : 0 < denD r := by
  obtain ⟨n, m, rfl, l⟩ := isRatioD_inv h
  exact l.pos
theorem Dn_pos : ∀ {ds : List D}, (∀ r ∈ ds, isRatioD r = true) → 0 < Dn ds
  | [], _ => by decide
  | r :: t, h => by
    rw [Dn_cons]
    exact Int.mul_pos (den_pos (h r (List.mem_cons_self ..))) (Dn_pos fun x hx => h x (List.mem_cons_of_mem _ hx))
theorem isRatioD_low {n m : Int} (h : 0 < m) : isRatioD (ratD (n, m)) = true := by
  have l := lo_low (u := n) (d := m) (by omega)
  show (decide (1 ≤ lowD n m) && decide (Nat.gcd (lowN n m).natAbs (lowD n m).natAbs = 1)) = true
  rw [decide_eq_true (by have := l.pos; omega), decide_eq_true l.cop]
  rfl
theorem plusD_rat {a b : D} (h1 : isRatioD a = true) (h2 : isRatioD b = true) : isRatioD (plusD a b) = true := isRatioD_low (Int.mul_pos (den_pos h1) (den_pos h2))
theorem plusD_cross (a b : D) : numD (plusD a b) * (denD a * denD b) = denD (plusD a b) * (numD a * denD b + numD b * denD a) := low_cross
theorem half_rat : ∀ {ds : List D}, (∀ r ∈ ds, isRatioD r = true) → ∀ r ∈ half ds, isRatioD r = true
  | [], _, r, hr => by cases hr
  | [a], h, r, hr => h r hr
  | a :: b :: t, h, r, hr => by
    rcases List.mem_cons.mp (show r ∈ plusD a b :: half t from hr) with e | hr
    · rw [e]
      exact plusD_rat (h a (by simp)) (h b (by simp))
    · exact half_rat (ds := t) (fun x hx => h x (by simp [hx])) r hr
theorem half_eq : ∀ (ds : List D), Un (half ds) * Dn ds = Un ds * Dn (half ds)
  | [] => rfl
  | [a] => rfl
  | a :: b :: t => by
    have ih := half_eq t
    have pc := plusD_cross a b
    have e : half (a :: b :: t) = plusD a b :: half t := rfl
    rw [e]
    simp only [Un_cons, Dn_cons]
    generalize numD (plusD a b) = p at *
    generalize denD (plusD a b) = q at *
    generalize Un (half t) = V at *
    generalize Dn (half t) = D1 at *
    generalize Un t = U at *
    generalize Dn t = E at *
    grind
theorem szD_plus {a b : D} (h1 : isRatioD a = true) (h2 : isRatioD b = true) : szD (plusD a b) ≤ szD a * szD b := by
  have p := Int.mul_pos (den_pos h1) (den_pos h2)
  have l1 : (numD (plusD a b)).natAbs ≤ (numD a * denD b + numD b * denD a).natAbs := low_le_n
  have l2 : (denD (plusD a b)).natAbs ≤ (denD a * denD b).natAbs := low_le_d (u := numD a * denD b + numD b * denD a) (d := denD a * denD b) (by omega)
  have l3 : (numD a * denD b + numD b * denD a).natAbs ≤ (numD a * denD b).natAbs + (numD b * denD a).natAbs := Int.natAbs_add_le _ _
  rw [Int.natAbs_mul, Int.natAbs_mul] at l3
  rw [Int.natAbs_mul] at l2
  unfold szD
  have e : ((numD a).natAbs + (denD a).natAbs) * ((numD b).natAbs + (denD b).natAbs) = (numD a).natAbs * (numD b).natAbs + (numD a).natAbs * (denD b).natAbs + ((numD b).natAbs * (denD a).natAbs + (denD a).natAbs * (denD b).natAbs) := by grind
  rw [e]
  omega
theorem szs_half : ∀ {ds : List D}, (∀ r ∈ ds, isRatioD r = true) → szs (half ds) ≤ szs ds
  | [], _ => Nat.le_refl _
  | [a], _ => Nat.le_refl _
  | a :: b :: t, h => by
    show szD (plusD a b) * szs (half t) ≤ szD a * (szD b * szs t)
    rw [← Nat.mul_assoc]
    exact Nat.mul_le_mul (szD_plus (h a (by simp)) (h b (by simp))) (szs_half fun x hx => h x (by simp [hx]))
theorem szD_one {r : D} (h : isRatioD r = true) : 1 ≤ szD r := by
  have := den_pos h
  unfold szD
  omega
theorem szs_one : ∀ {ds : List D}, (∀ r ∈ ds, isRatioD r = true) → 1 ≤ szs ds
  | [], _ => Nat.le_refl _
  | r :: t, h => Nat.mul_le_mul (szD_one (h r (by simp))) (szs_one fun x hx => h x (by simp [hx]))
theorem szs_at : ∀ {ds : List D}, (∀ r ∈ ds, isRatioD r = true) → ∀ {i : Nat} {a b : D}, ds[i]? = some a → ds[i + 1]? = some b → szD a * szD b ≤ szs ds
  | [], _, _, _, _, e, _ => by simp at e
  | [x], _, 0, a, b, e1, e2 => by simp at e2
  | [x], _, i + 1, a, b, e1, e2 => by simp at e1
  | x :: y :: t, h, 0, a, b, e1, e2 => by
    cases Option.some.inj e1
    cases Option.some.inj e2
    show szD _ * szD _ ≤ szD _ * (szD _ * szs t)
    rw [← Nat.mul_assoc]
    exact Nat.le_mul_of_pos_right _ (szs_one fun z hz => h z (by simp [hz]))
  | x :: y :: t, h, i + 1, a, b, e1, e2 => by
    have ih := szs_at (ds := y :: t) (fun z hz => h z (List.mem_cons_of_mem _ hz)) (i := i) (a := a) (b := b) (by simpa using e1) (by simpa using e2)
    show _ ≤ szD x * szs (y :: t)
    exact Nat.le_trans ih (Nat.le_mul_of_pos_left _ (szD_one (h x (by simp))))
theorem half_length : ∀ (ds : List D), (half ds).length = (ds.length + 1) / 2
  | [] => rfl
  | [a] => by show 1 = (1 + 1) / 2; decide
  | a :: b :: t => by
    show (half t).length + 1 = (t.length + 2 + 1) / 2
    rw [half_length t]
    omega
theorem zipUp_length : ∀ (ds : List D), (zipUp ds).length = ds.length / 2
  | [] => rfl
  | [a] => by show 0 = 1 / 2; decide
  | a :: b :: t => by
    show (zipUp t).length + 1 = (t.length + 2) / 2
    rw [zipUp_length t]
    omega
theorem zipUp_get : ∀ {ds : List D} {i : Nat} {a b : D}, ds[2 * i]? = some a → ds[2 * i + 1]? = some b → (zipUp ds)[i]? = some (plusD a b)
  | [], _, _, _, e, _ => by simp at e
  | [x], 0, _, _, _, e => by simp at e
  | [x], i + 1, _, _, e, _ => by simp at e
  | x :: y :: t, 0, a, b, e1, e2 => by
    cases Option.some.inj e1
    cases Option.some.inj e2
    rfl
  | x :: y :: t, i + 1, a, b, e1, e2 => by
    have ih := zipUp_get (ds := t) (i := i) (a := a) (b := b) (by rw [show 2 * (i + 1) = 2 * i + 2 by omega] at e1; simpa using e1) (by rw [show 2 * (i + 1) + 1 = (2 * i + 1) + 2 by omega] at e2; simpa using e2)
    show (plusD x y :: zipUp t)[i + 1]? = _
    simpa using ih
theorem lastO_eq : ∀ (ds : List D), lastO ds = if ds.length % 2 = 1 then ds.drop (ds.length - 1) else []
  | [] => rfl
  | [a] => rfl
  | a :: b :: t => by
    show lastO t = _
    rw [lastO_eq t]
    have e : (a :: b :: t).length = t.length + 2 := rfl
    rw [e]
    by_cases h : t.length % 2 = 1
    · rw [if_pos h, if_pos (by omega)]
      have e2 : t.length + 2 - 1 = (t.length - 1) + 1 + 1 := by omega
      rw [e2]
      rfl
    · rw [if_neg h, if_neg (by omega)]
/-- the one that is left is the sum, in lowest terms -/
theorem one_left {r : D} {ds : List D} (hr : isRatioD r = true) (hd : 0 < Dn ds) (e : Un [r] * Dn ds = Un ds * Dn [r]) : r = ratD (Un ds, Dn ds) := by
  obtain ⟨n, m, rfl, l⟩ := isRatioD_inv hr
  have e1 : n * Dn ds = Un ds * m := by
    have q : (n * 1 + 0 * m) * Dn ds = Un ds * (m * 1) := e
    rw [Int.mul_one, Int.mul_one, Int.zero_mul, Int.add_zero] at q
    exact q
  have g0 : lowG (Un ds) (Dn ds) ≠ 0 := lowG_ne (by omega)
  have a := lowN_mul (u := Un ds) (d := Dn ds)
  have b := lowD_mul (u := Un ds) (d := Dn ds)
  have l2 := lo_low (u := Un ds) (d := Dn ds) (by omega)
  have c : n * lowD (Un ds) (Dn ds) = m * lowN (Un ds) (Dn ds) := by
    refine Int.eq_of_mul_eq_mul_right g0 ?_
    rw [Int.mul_assoc, b, Int.mul_assoc, a, e1, Int.mul_comm]
  have u := low_uniq l.pos l2.pos l.cop l2.cop c
  show D.tup [.int n, .int m] = .tup [.int (lowN (Un ds) (Dn ds)), .int (lowD (Un ds) (Dn ds))]
  rw [← u.1, ← u.2]
end K00

set_option Elab.async false
set_option linter.all false
set_option maxRecDepth 100000
set_option maxHeartbeats 4000000
namespace K00
open PySem L2
/-! ### xs[::2] and xs[1::2] -/
def ev {α : Type} : List α → List α
  | x :: _ :: t => x :: ev t
  | [x] => [x]
  | [] => []
theorem ev_length {α : Type} : ∀ (l : List α), (ev l).length = (l.length + 1) / 2
  | [] => by show 0 = (0 + 1) / 2; decide
  | [a] => by show 1 = (1 + 1) / 2; decide
  | a :: b :: t => by
    show (ev t).length + 1 = (t.length + 2 + 1) / 2
    rw [ev_length t]
    omega
theorem ev_get {α : Type} : ∀ (l : List α) (i : Nat), (ev l)[i]? = l[2 * i]?
  | [], i => by simp [ev]
  | [a], 0 => rfl
  | [a], i + 1 => by
    rw [List.getElem?_eq_none (by show 1 ≤ i + 1; omega), List.getElem?_eq_none (by show 1 ≤ 2 * (i + 1); omega)]
  | a :: b :: t, 0 => rfl
  | a :: b :: t, i + 1 => by
    have ih := ev_get t i
    rw [show 2 * (i + 1) = 2 * i + 1 + 1 by omega]
    show (a :: ev t)[i + 1]? = _
    simpa using ih
theorem ev_pick {α : Type} : ∀ (l : List α), (List.range ((l.length + 1) / 2)).filterMap (fun k => l[2 * k]?) = ev l
  | [] => by show List.filterMap _ (List.range ((0 + 1) / 2)) = []; rw [show (0 + 1) / 2 = 0 by decide]; rfl
  | [a] => by show List.filterMap _ (List.range ((1 + 1) / 2)) = [a]; rw [show (1 + 1) / 2 = 1 by decide]; rfl
  | a :: b :: t => by
    have ih := ev_pick t
    have e : ((a :: b :: t).length + 1) / 2 = (t.length + 1) / 2 + 1 := by
      show (t.length + 2 + 1) / 2 = _
      omega
    rw [e, List.range_succ_eq_map, List.filterMap_cons]
    show a :: List.filterMap _ (List.map Nat.succ _) = a :: ev t
    rw [List.filterMap_map, ← ih]
    congr 1
theorem vals_ev : ∀ {xs : List V} {us : List Value}, Vals xs us → Vals (ev xs) (ev us)
  | _, _, .nil => .nil
  | _, _, .cons h .nil => .cons h .nil
  | _, _, .cons h (.cons _ r) => .cons h (vals_ev r)
section
open PyProof.Rows
theorem pick_0 (items : Array Value) : slicePick items none none (some 2) = (ev items.toList).toArray := by
  have hb : sliceBounds none none (some 2) items.size = (0, (items.size : Int), 2) := by first | rfl | simp [sliceBounds]
  unfold slicePick
  rw [hb]
  show ((sliceRange 0 (items.size : Int) 2).filterMap (items[·]?)).toArray = _
  rw [← ev_pick]
  congr 1
  unfold sliceRange
  rw [if_pos (by decide), Array.length_toList]
  by_cases h : (0 : Int) < items.size
  · rw [if_pos h, List.filterMap_map]
    have e : (((items.size : Int) - 0 + 2 - 1) / 2).toNat = (items.size + 1) / 2 := by omega
    rw [e]
    congr 1
    funext k
    show items[(0 + 2 * (k : Int)).toNat]? = items.toList[2 * k]?
    rw [show (0 + 2 * (k : Int)).toNat = 2 * k by omega, Array.getElem?_toList]
  · rw [if_neg h]
    have e : items.size = 0 := by omega
    rw [e]
    rfl
theorem pick_1 (items : Array Value) : slicePick items (some 1) none (some 2) = (ev (items.toList.drop 1)).toArray := by
  have hb : sliceBounds (some 1) none (some 2) items.size = (min 1 (items.size : Int), (items.size : Int), 2) := by
    simp [sliceBounds]
    try omega
  unfold slicePick
  rw [hb]
  show ((sliceRange (min 1 (items.size : Int)) (items.size : Int) 2).filterMap (items[·]?)).toArray = _
  rw [← ev_pick]
  congr 1
  unfold sliceRange
  rw [if_pos (by decide), List.length_drop, Array.length_toList]
  by_cases h : min 1 (items.size : Int) < items.size
  · rw [if_pos h, List.filterMap_map]
    have e : (((items.size : Int) - min 1 (items.size : Int) + 2 - 1) / 2).toNat = (items.size - 1 + 1) / 2 := by omega
    rw [e]
    congr 1
    funext k
    show items[(min 1 (items.size : Int) + 2 * (k : Int)).toNat]? = (items.toList.drop 1)[2 * k]?
    rw [show (min 1 (items.size : Int) + 2 * (k : Int)).toNat = 1 + 2 * k by omega, List.getElem?_drop, Array.getElem?_toList]
  · rw [if_neg h]
    have e : (items.size - 1 + 1) / 2 = 0 := by omega
    rw [e]
    rfl
def tSl2 (K : PySem.W.Frag) (j : Nat) (te : TE) : TE := fun σ H Q => te σ H fun x H1 => ∃ a xs, x = .ref a ∧ SqL K H1 a xs ∧ ∀ p, H1 p = none → Q (.ref p) (upd H1 p (.lst (ev (xs.drop j))))
theorem pe_sl2_0 {X : Cx} {e : Expr} {te : TE} {k : Nat} {p1 p3 pos : Pos} (he : PE X e te) : PE X (.Subscript e (.Slice none none (some (.Constant (.int 2) k p1)) p3) pos) (tSl2 X.K 0 te) := by
  refine ⟨fun pins s σ H Q I h => ?_⟩
  refine Subscript_ (thn (he.run pins s σ H _ I h) fun v s1 ⟨x, H1, I1, r1, a, xs, ex, hx, q⟩ => ?_)
  subst ex
  cases r1
  refine wpAny_Slice (thn (po_none.run pins s1 σ H1 (fun o H2 => o = none ∧ H2 = H1) I1 ⟨rfl, rfl⟩) fun vl s2 ⟨l, H2, I2, pl, el, e2⟩ => ?_)
  subst el e2
  refine thn (po_none.run pins s2 σ H2 (fun o H3 => o = none ∧ H3 = H2) I2 ⟨rfl, rfl⟩) fun vu s3 ⟨u, H3, I3, pu, eu, e3⟩ => ?_
  subst eu e3
  refine thn ((po_some pe_int).run pins s3 σ H3 (fun o H4 => o = some 2 ∧ H4 = H3) I3 ⟨2, rfl, rfl, rfl⟩) fun vs s4 ⟨o, H4, I4, ps, eo, e4⟩ => ?_
  subst eo e4
  have I5 : Inv X pins σ H4 { s4 with heap := s4.heap.push { cls := .type "slice", data := .fields #[vl, vu, vs] } } := I4.kept (t' := s4.toks) fun b ob q => Heap.get?_push_of_some _ q
  obtain ⟨its, r, ht, hz⟩ := I5.list hx
  have hlen := r.length
  show wpAny (model X.prog X.w) X.A (subscriptTail e (.Slice none none (some (.Constant (.int 2) k p1)) p3) (.ref a) (.ref s4.heap.objs.size)) (EP X pins σ Q) X.xe _
  refine tail_any (ops := [.ref a, .ref s4.heap.objs.size]) ht.isList.typeIs (PySem.slot_list_getitem.lookup) ?_ (by with_unfolding_all rfl)
  refine wpAny_getItem_list_slice ht.isList (Heap.IsSliceOf.new _ vl vu vs) pl pu ps (by decide) ?_ (by rw [List.size_toArray]; omega)
  rw [pick_0]
  refine ⟨.ref _, _, I5.laid (t' := s4.toks) (o := .lst (ev (xs.drop 0))) (fun b ob q => Heap.get?_push_of_some _ q) (Nat.le_refl _) ?_, rfl, q _ (I5.hok.fresh (Nat.le_refl _))⟩
  exact ⟨by rw [ev_length, List.length_drop]; omega, _, 0, vals_ev r, Heap.get?_push_size _ rfl⟩
theorem pe_sl2_1 {X : Cx} {e : Expr} {te : TE} {k j1 : Nat} {p1 p2 p3 pos : Pos} (he : PE X e te) : PE X (.Subscript e (.Slice (some (.Constant (.int 1) j1 p2)) none (some (.Constant (.int 2) k p1)) p3) pos) (tSl2 X.K 1 te) := by
  refine ⟨fun pins s σ H Q I h => ?_⟩
  refine Subscript_ (thn (he.run pins s σ H _ I h) fun v s1 ⟨x, H1, I1, r1, a, xs, ex, hx, q⟩ => ?_)
  subst ex
  cases r1
  refine wpAny_Slice (thn ((po_some pe_int).run pins s1 σ H1 (fun o H2 => o = some 1 ∧ H2 = H1) I1 ⟨1, rfl, rfl, rfl⟩) fun vl s2 ⟨l, H2, I2, pl, el, e2⟩ => ?_)
  subst el e2
  refine thn (po_none.run pins s2 σ H2 (fun o H3 => o = none ∧ H3 = H2) I2 ⟨rfl, rfl⟩) fun vu s3 ⟨u, H3, I3, pu, eu, e3⟩ => ?_
  subst eu e3
  refine thn ((po_some pe_int).run pins s3 σ H3 (fun o H4 => o = some 2 ∧ H4 = H3) I3 ⟨2, rfl, rfl, rfl⟩) fun vs s4 ⟨o, H4, I4, ps, eo, e4⟩ => ?_
  subst eo e4
  have I5 : Inv X pins σ H4 { s4 with heap := s4.heap.push { cls := .type "slice", data := .fields #[vl, vu, vs] } } := I4.kept (t' := s4.toks) fun b ob q => Heap.get?_push_of_some _ q
  obtain ⟨its, r, ht, hz⟩ := I5.list hx
  have hlen := r.length
  show wpAny (model X.prog X.w) X.A (subscriptTail e (.Slice (some (.Constant (.int 1) j1 p2)) none (some (.Constant (.int 2) k p1)) p3) (.ref a) (.ref s4.heap.objs.size)) (EP X pins σ Q) X.xe _
  refine tail_any (ops := [.ref a, .ref s4.heap.objs.size]) ht.isList.typeIs (PySem.slot_list_getitem.lookup) ?_ (by with_unfolding_all rfl)
  refine wpAny_getItem_list_slice ht.isList (Heap.IsSliceOf.new _ vl vu vs) pl pu ps (by decide) ?_ (by rw [List.size_toArray]; omega)
  rw [pick_1]
  refine ⟨.ref _, _, I5.laid (t' := s4.toks) (o := .lst (ev (xs.drop 1))) (fun b ob q => Heap.get?_push_of_some _ q) (Nat.le_refl _) ?_, rfl, q _ (I5.hok.fresh (Nat.le_refl _))⟩
  exact ⟨by rw [ev_length, List.length_drop]; omega, _, 0, vals_ev (r.drop 1), Heap.get?_push_size _ rfl⟩
end
end K00

set_option Elab.async false
set_option linter.all false
set_option maxRecDepth 100000
set_option maxHeartbeats 4000000
namespace K00
open PySem L2
theorem ValAll.drop {K : PySem.W.Frag} {st : Addr} {H : Hp} : ∀ {vs : List V} {ds : List D} (k : Nat), ValAll K st H vs ds → ValAll K st H (vs.drop k) (ds.drop k)
  | _, _, 0, h => h
  | _, _, k + 1, .nil => .nil
  | _, _, k + 1, .cons _ r => ValAll.drop k r
theorem ValAll.re {K : PySem.W.Frag} {st st' : Addr} {H : Hp} : ∀ {vs : List V} {ds : List D}, (∀ r ∈ ds, isRatioD r = true) → ValAll K st H vs ds → ValAll K st' H vs ds
  | [], [], _, .nil => .nil
  | _ :: _, d :: _, h, .cons hv r => by
    obtain ⟨n, m, rfl, _⟩ := isRatioD_inv (h d (by simp))
    exact .cons hv.rat.val (ValAll.re (fun x hx => h x (by simp [hx])) r)
theorem sqT_set {K : PySem.W.Frag} {H : Hp} {a p : Addr} {xs ys : List V} {o : HO} (h : H p = some (.lst ys)) (q : SqT K H a xs) : SqT K (upd H p o) a xs := by
  rcases q with (q | ⟨o2, q⟩) | q
  · exact .inl (.inl (by rw [upd_ne (fun e => by rw [e, h] at q; cases q)]; exact q))
  · exact .inl (.inr ⟨o2, by rw [upd_ne (fun e => by rw [e, h] at q; cases q)]; exact q⟩)
  · exact .inr q
theorem cut_last (xs : List V) (h : 0 < xs.length) : cutV xs (some (-1)) none = xs.drop (xs.length - 1) := by
  have e : HT.sIx xs.length 0 (some (-1)) = xs.length - 1 := by
    show (if (-1 : Int) < 0 then (-1 + (xs.length : Int)).toNat else min (-1 : Int).toNat xs.length) = _
    rw [if_pos (by decide)]
    omega
  unfold cutV
  rw [e, HT.sIx_none]
  refine List.take_of_length_le ?_
  rw [List.length_drop]
  omega
theorem ratD_nought {D0 : Int} (h : 0 < D0) : ratD (0, D0) = .tup [.int 0, .int 1] := by
  have e : lowN 0 D0 = 0 ∧ lowD 0 D0 = 1 := by
    have g : lowG 0 D0 = D0 := by
      unfold lowG
      rw [if_neg (by omega), Int.natAbs_zero, Nat.gcd_zero_left]
      omega
    unfold lowN lowD
    rw [g]
    exact ⟨Int.zero_fdiv _, Int.fdiv_self (by omega)⟩
  show D.tup [.int (lowN 0 D0), .int (lowD 0 D0)] = _
  rw [e.1, e.2]
def spSum (K : PySem.W.Frag) : Sp := fun vs H Q _ => ∃ (st : Addr) (v : V) (ds : List D), vs = [v] ∧ Val K st H v (.lst ds) ∧ (∀ r ∈ ds, isRatioD r = true) ∧ ds.length ≤ 1000 ∧ szs ds < 2 ^ 8000 ∧ ∀ (y : V) (H' : Hp), Same H H' → Val K st H' y (ratD (seqF 0 1 ds)) → Q y H'
def fineT (d _ : D) : Prop := Sh d ∧ (isRatiosD d = true → szs (lstD d) < 2 ^ 8000)
/-- the module's own (0, 1) -/
def Nought (K : PySem.W.Frag) (mg : Str → Option Value) : Prop := ∃ nA : Addr, mg "NOUGHT" = some (.ref nA) ∧ ∀ H, SqT K H nA [.int 0, .int 1]
section
variable {P : Program} {w : World} {K : PySem.W.Frag} {mg : Str → Option Value} {base : Heap} {CW CZ : Addr}
theorem sz_lt {n d : Int} {B : Nat} (h : (n.natAbs + d.natAbs) ≤ B) (hB : B < 2 ^ 8000) : n.natAbs < 2 ^ 9000 ∧ d.natAbs < 2 ^ 9000 :=
  ⟨pow_up (Nat.lt_of_le_of_lt (by omega) hB) (by decide), pow_up (Nat.lt_of_le_of_lt (by omega) hB) (by decide)⟩
/-- the new list of one turn -/
def Turned (K : PySem.W.Frag) (D0 : Addr) (H2 : Hp) (ds : List D) (i : Nat) (H3 : Hp) : Prop := Same H2 H3 ∧ ∃ ys, H3 D0 = some (.lst ys) ∧ ValAll K D0 H3 ys ((zipUp ds).take i) ∧ ys.length = i
abbrev s_p_sum_of : Stmt := top 39
theorem sc_p_sum_of : FnScope ["values", "rest", "single", "one", "other"] ["values"] (defScope s_p_sum_of) := ⟨rfl, rfl, rfl, by decide +kernel, rfl, by decide +kernel, by decide +kernel⟩
theorem ok_p_sum_of {f : Addr} {fd : FuncData} (F : Fun K "sum_of" "sum_of" s_p_sum_of f fd) (T : TxtP K mg) (hN : Nought K mg) (c_p_plus : Callee P w K mg base CX0 2 "plus" ["one", "other"] (spAr K gPlus)) :
    FnOk P w K mg base CX0 3 f fd ["values"] (spSum K) := by
  refine F.ok sc_p_sum_of (fun vs H Q E h => ?_) (fun cdv A outer s H vs Q E hr h => ?_)
  · obtain ⟨_, _, _, rfl, _⟩ := h
    rfl
  · obtain ⟨st, v, ds, rfl, hv, hrat, hlen, hsz, k⟩ := h
    obtain ⟨nA, hN1, hN2⟩ := hN
    refine ⟨_, (pss_cons (ps_set (i := 1) sc_p_sum_of.nd rfl (Or.inl rfl) (pe_callTy call_list_of (by rfl) T.list (by decide +kernel) (pa_cons (pv 0) pa_nil)))
  (pss_cons (ps_while PassesOwn.never (pt_cmpR op_gt (pe_callB call_len_seq (by rfl) T.len PySem.boot_len (pa_cons (pv 1) pa_nil)) pe_int (nomark _)) (pss_cons (ps_set (i := 2) sc_p_sum_of.nd rfl (Or.inl rfl) (pe_ifExp (pt_truth (pe_op op_odd (pe_callB call_len_seq (by rfl) T.len PySem.boot_len (pa_cons (pv 1) pa_nil)) pe_int) (by intro _; rfl)) (pe_slice sl_list (pv 1) (po_some (pe_un un_neg pe_int)) po_none) (pe_lst pa_nil)))
  (pss_one (ps_set (i := 1) sc_p_sum_of.nd rfl (Or.inl rfl) (pe_op op_cat (pe_lc (own := [("one", 3), ("other", 4)]) (g := gTup K 2 (gCons (gName 3) (gCons (gName 4) gNil))) rfl sc_p_sum_of.nd (pi_zip (by rfl) T.zip (pa_cons (pe_sl2_0 (pv 1)) (pa_cons (pe_sl2_1 (pv 1)) pa_nil))) (blkOk_by (own := [("one", 3), ("other", 4)]) (N := ["values", "rest", "single", "one", "other"]) (sc := defScope s_p_sum_of) (by decide +kernel)) (fun _ _ _ _ _ => pg_tup rfl (pgs_cons (pg_name (i := 3) sc_p_sum_of.nd rfl (Or.inl rfl)) (pgs_cons (pg_name (i := 4) sc_p_sum_of.nd rfl (Or.inl rfl)) pgs_nil))) (fun _ _ _ _ _ => pts_nil) (fun _ _ _ _ _ => (pe_fn c_p_plus (hr.mono (by decide)) (by rfl) pass0 (pa_cons (pv 3) (pa_cons (pv 4) pa_nil))))) (pv 2))))))
  (pss_one (ps_ret (pe_ifExp (pt_truth (pv 1) (by intro _; rfl)) (pe_ix ix_list (pv 1) pe_int (fun _ _ => rfl)) (pe_glob (v := .ref nA) (by rfl) hN1 rfl)))))), ?_⟩
    cases hv with
    | @lst a xs ds n h r =>
    refine ⟨_, rfl, a, xs, rfl, .inl h, fun l hl => ?_⟩
    refine while_by (fun σ H1 => Same H H1 ∧ ∃ (p : Addr) (xs' : List V) (ds' : List D) (sg : Option V), σ = [some (.ref a), some (.ref p), sg, none, none] ∧ H1 p = some (.lst xs') ∧ ValAll K st H1 xs' ds' ∧ (∀ r ∈ ds', isRatioD r = true) ∧
      Un ds' * Dn ds = Un ds * Dn ds' ∧ szs ds' ≤ szs ds ∧ ds'.length ≤ 1000 ∧ (ds' = [] → ds = []))
      (fun σ H1 => match σ with | [_, some (.ref p), _, _, _] => (match H1 p with | some (.lst xs') => xs'.length | _ => 0) | _ => 0)
      ⟨Same.new hl, l, xs, ds, none, rfl, upd_same, r.same (Same.new hl), hrat, rfl, Nat.le_refl _, hlen, fun e => e⟩ ?_ ?_
    · rintro σ H1 ⟨s1, p, xs', ds', sg, rfl, hp, r1, hr1, heq, hsz1, hl1, hnil⟩
      have hlen1 : xs'.length = ds'.length := r1.length
      refine ⟨_, rfl, p, xs', rfl, .inl (SqL.of hp), _, _, rfl, rfl, _, rfl, ite2 (fun hb => ?_) (fun hb => ?_)⟩
      · have h1 : 1 < xs'.length := by
          have := of_decide_eq_true hb
          omega
        have le_p : ∀ {H5 : Hp} {c : Addr} {zs : List V}, H5 c = some (.lst zs) → zs.length < xs'.length → (match H5 c with | some (.lst xs') => xs'.length | _ => 0) < (match H1 p with | some (.lst xs') => xs'.length | _ => 0) := fun {H5 c zs} e l => by
          rw [e, hp]
          exact l
        -- what the second half of the body does
        have fin : ∀ (Dd : Ends), (∀ (H5 : Hp) (c : Addr) (zs : List V) (es : List D) (sx : Option V), Same H H5 → H5 c = some (.lst zs) → ValAll K st H5 zs es → (∀ r ∈ es, isRatioD r = true) → Un es * Dn ds = Un ds * Dn es → szs es ≤ szs ds → es.length ≤ 1000 → (es = [] → ds = []) → zs.length < xs'.length →
            Dd.nx [some (.ref a), some (.ref c), sx, none, none] H5) → ∀ (H2 : Hp) (q : Addr) (ss : List V), Same H1 H2 → H2 q = some (.lst ss) → ValAll K st H2 ss (lastO ds') →
          tAsg (tOp rCat (tLc (iZip K (tCons (tSl2 K 0 (tVar 1)) (tCons (tSl2 K 1 (tVar 1)) tNil))) (gTup K 2 (gCons (gName 3) (gCons (gName 4) gNil))) tYes (tCall (spAr K gPlus) [] E0 (tCons (tVar 3) (tCons (tVar 4) tNil))) [3, 4]) (tVar 2)) (gName 1)
            Dd [some (.ref a), some (.ref p), some (.ref q), none, none] H2 := by
          intro Dd kD H2 q ss s2 hq rs
          have hp2 : H2 p = some (.lst xs') := s2 _ _ hp
          refine ⟨_, rfl, p, xs', rfl, SqL.of hp2, fun p1 hp1 => ⟨_, rfl, p, xs', rfl, SqL.of (Same.new hp1 _ _ hp2), fun p2 hp2' => ⟨p1, p2, _, _, rfl, SqL.of (Same.new hp2' _ _ upd_same), SqL.of upd_same, fun D0 hD0 => ?_⟩⟩⟩
          generalize hH3 : upd (upd H2 p1 (.lst (ev (xs'.drop 0)))) p2 (.lst (ev (xs'.drop 1))) = H3 at hD0 ⊢
          have s3 : Same H2 H3 := by rw [← hH3]; exact (Same.new hp1).trans (Same.new hp2')
          have e1 : H3 p1 = some (.lst (ev (xs'.drop 0))) := by rw [← hH3]; exact Same.new hp2' _ _ upd_same
          have e2 : H3 p2 = some (.lst (ev (xs'.drop 1))) := by rw [← hH3]; exact upd_same
          have hn : xs'.length / 2 = min (ev (xs'.drop 0)).length (ev (xs'.drop 1)).length := by
            rw [ev_length, ev_length, List.length_drop, List.length_drop]
            omega
          refine lc_it (walk_zip hn) (fun i H4 => Turned K D0 H3 ds' i H4) ⟨Same.new hD0, [], upd_same, .nil, rfl⟩ (fun i H4 _ t => ⟨SqL.of (t.1 _ _ e1), SqL.of (t.1 _ _ e2)⟩) ?_ ?_
          · rintro i _ H4 H5 hi ⟨s4, ys, hy, ry, ly⟩ ⟨T0, u, w', rfl, hT, rfl, hu, hw⟩
            replace hu : (ev (xs'.drop 0))[i]? = some u := hu
            replace hw : (ev (xs'.drop 1))[i]? = some w' := hw
            rw [ev_get] at hu hw
            rw [List.getElem?_drop] at hu hw
            have hu' : xs'[2 * i]? = some u := by rw [← hu]; congr 1; omega
            have hw' : xs'[2 * i + 1]? = some w' := by rw [← hw]; congr 1; omega
            have rr : ValAll K D0 H4 xs' ds' := ((r1.same s2).same (s3.trans s4)).re hr1
            obtain ⟨du, hdu, vu⟩ := rr.get hu'
            obtain ⟨dw, hdw, vw⟩ := rr.get hw'
            obtain ⟨n1, m1, rfl, l1⟩ := isRatioD_inv (hr1 du (List.mem_of_getElem? hdu))
            obtain ⟨n2, m2, rfl, l2⟩ := isRatioD_inv (hr1 dw (List.mem_of_getElem? hdw))
            have sT : Same H4 (upd H4 T0 (.tup [u, w'])) := Same.new hT
            have hsa : (n1.natAbs + m1.natAbs) * (n2.natAbs + m2.natAbs) ≤ szs ds' := szs_at hr1 hdu hdw
            have z1 : 1 ≤ n1.natAbs + m1.natAbs := by have := l1.pos; omega
            have z2 : 1 ≤ n2.natAbs + m2.natAbs := by have := l2.pos; omega
            have y1 : n1.natAbs + m1.natAbs ≤ szs ds := Nat.le_trans (Nat.le_trans (Nat.le_mul_of_pos_right _ z2) hsa) hsz1
            have y2 : n2.natAbs + m2.natAbs ≤ szs ds := Nat.le_trans (Nat.le_trans (Nat.le_mul_of_pos_left _ z1) hsa) hsz1
            obtain ⟨b1, b2⟩ := sz_lt y1 hsz
            obtain ⟨b3, b4⟩ := sz_lt y2 hsz
            have mm : 0 < m1 * m2 := Int.mul_pos l1.pos l2.pos
            have b5 : (m1 * m2).natAbs < 2 ^ 9000 := by
              rw [Int.natAbs_mul]
              exact pow_up (Nat.lt_of_le_of_lt (Nat.le_trans (Nat.mul_le_mul (by omega) (by omega)) (Nat.le_trans hsa hsz1)) hsz) (by decide)
            refine ⟨T0, [u, w'], rfl, SqT.of upd_same, rfl, u, [w'], rfl, w', [], rfl, rfl, rfl, lcYes ⟨_, rfl, _, rfl, u, w', n1, m1, n2, m2, rfl, vu.rat.same sT, vw.rat.same sT, b1, b2, b3, b4, (by show m1 * m2 ≠ 0; omega), b5, fun c hc => ?_⟩⟩
            have sc : Same H4 (upd (upd H4 T0 (.tup [u, w'])) c (.tup [.int (lowN (gPlus n1 m1 n2 m2).1 (gPlus n1 m1 n2 m2).2), .int (lowD (gPlus n1 m1 n2 m2).1 (gPlus n1 m1 n2 m2).2)])) := sT.trans (Same.new hc)
            have hD5 := sc _ _ hy
            refine ⟨ys, hD5, by rw [ly, sizeLine_eq]; omega, fun b o e => ?_, ys ++ [.ref c], upd_same, ?_, by rw [List.length_append, ly]; rfl⟩
            · rw [upd_ne (ne_of_none e hD0)]
              exact sc _ _ (s4 _ _ e)
            · have ez : (zipUp ds')[i]? = some (plusD (.tup [.int n1, .int m1]) (.tup [.int n2, .int m2])) := zipUp_get hdu hdw
              rw [List.take_add_one, ez]
              refine ValAll.append ((ry.same sc).mono (fun b o hb e => by rw [upd_ne hb]; exact e) fun b xs q => sqT_set hD5 q) (.cons ?_ .nil)
              have q : RatV K _ (.ref c) (lowN (gPlus n1 m1 n2 m2).1 (gPlus n1 m1 n2 m2).2) (lowD (gPlus n1 m1 n2 m2).1 (gPlus n1 m1 n2 m2).2) := ⟨c, rfl, sqT_set (o := .lst (ys ++ [.ref c])) hD5 (SqT.of upd_same)⟩
              exact q.val
          · rintro H4 ⟨s4, ys, hy, ry, ly⟩
            have hz : (zipUp ds').take (xs'.length / 2) = zipUp ds' := List.take_of_length_le (by rw [zipUp_length, hlen1]; exact Nat.le_refl _)
            rw [hz] at ry
            have hq4 : H4 q = some (.lst ss) := s4 _ _ (s3 _ _ hq)
            have lss : ss.length ≤ 1 := by
              rw [rs.length, lastO_eq]
              by_cases c : ds'.length % 2 = 1
              · rw [if_pos c, List.length_drop]; omega
              · rw [if_neg c]; exact Nat.zero_le _
            refine ⟨_, rfl, D0, q, ys, ss, rfl, rfl, hy, hq4, by rw [ly, sizeLine_eq]; omega, fun c hc => ?_⟩
            have sc : Same H4 (upd H4 c (.lst (ys ++ ss))) := Same.new hc
            have hh : ValAll K st (upd H4 c (.lst (ys ++ ss))) (ys ++ ss) (half ds') := by
              refine ValAll.append ?_ ((rs.same (s3.trans s4)).same sc)
              refine (ry.same sc).re fun r hr => ?_
              exact half_rat hr1 r (List.mem_append_left _ hr)
            have hd' : 0 < Dn ds := Dn_pos hrat
            have he : Un (half ds') * Dn ds = Un ds * Dn (half ds') := by
              have a1 := half_eq ds'
              have dp : Dn ds' ≠ 0 := by have := Dn_pos hr1; omega
              refine Int.eq_of_mul_eq_mul_right dp ?_
              have x1 : Un (half ds') * Dn ds * Dn ds' = (Un (half ds') * Dn ds') * Dn ds := by grind
              have x2 : Un ds * Dn (half ds') * Dn ds' = (Un ds * Dn ds') * Dn (half ds') := by grind
              rw [x1, x2, a1, ← heq]
              grind
            refine kD _ c (ys ++ ss) (half ds') (some (.ref q)) (((s1.trans s2).trans (s3.trans s4)).trans sc) upd_same hh (half_rat hr1) he (Nat.le_trans (szs_half hr1) hsz1) (by rw [half_length]; omega) (fun e => ?_) ?_
            · exfalso
              have e2 := congrArg List.length e
              rw [half_length] at e2
              have : ([] : List D).length = 0 := rfl
              omega
            · rw [List.length_append, ly]
              have := rs.length
              rw [lastO_eq] at this
              by_cases c : ds'.length % 2 = 1
              · rw [if_pos c, List.length_drop] at this; omega
              · rw [if_neg c] at this
                have q0 : ([] : List D).length = 0 := rfl
                omega
        refine ⟨_, rfl, p, xs', rfl, .inl (SqL.of hp), xs'.length, rfl, rfl, _, rfl, ite2 (fun ho => ?_) (fun ho => ?_)⟩
        · have odd : xs'.length % 2 = 1 := by
            by_cases c : xs'.length % 2 = 1
            · exact c
            · have : xs'.length % 2 = 0 := by omega
              rw [this] at ho
              exact absurd ho (by decide)
          refine ⟨_, rfl, 1, rfl, -1, rfl, p, xs', rfl, SqL.of hp, fun q hq => ?_⟩
          rw [cut_last xs' (by omega)]
          refine fin _ ?_ _ q (xs'.drop (xs'.length - 1)) (Same.new hq) upd_same ?_
          · exact fun H5 c zs es sx a1 a2 a3 a4 a5 a6 a7 a8 a9 => ⟨⟨a1, c, zs, es, sx, rfl, a2, a3, a4, a5, a6, a7, a8⟩, le_p a2 a9⟩
          rw [lastO_eq, if_pos (by rw [← hlen1]; exact odd), ← hlen1]
          exact (r1.same (Same.new hq)).drop _
        · have odd : ¬ xs'.length % 2 = 1 := fun c => by
            rw [c] at ho
            exact ho (by decide)
          refine ⟨by show 0 ≤ sizeLine; exact Nat.zero_le _, fun q hq => ?_⟩
          refine fin _ ?_ _ q [] (Same.new hq) upd_same ?_
          · exact fun H5 c zs es sx a1 a2 a3 a4 a5 a6 a7 a8 a9 => ⟨⟨a1, c, zs, es, sx, rfl, a2, a3, a4, a5, a6, a7, a8⟩, le_p a2 a9⟩
          rw [lastO_eq, if_neg (by rw [← hlen1]; exact odd)]
          exact .nil
      · have h1 : xs'.length ≤ 1 := by
          have : ¬ ((1 : Int) < xs'.length) := fun z => hb (decide_eq_true z)
          omega
        have hd' : 0 < Dn ds := Dn_pos hrat
        refine ⟨_, rfl, _, .inl ⟨xs', SqL.of hp, rfl⟩, ?_⟩
        cases r1 with
        | nil =>
          have e0 := hnil rfl
          refine iteF ?_
          refine k _ _ s1 ?_
          rw [e0]
          show Val K st H1 (.ref nA) (ratD (0, 1))
          rw [ratD_nought (by decide)]
          exact .tup (hN2 H1) (.cons (.int _) (.cons (.int _) .nil))
        | @cons v1 vs1 d1 ds1 hv1 rv1 =>
          cases rv1 with
          | cons _ _ => simp only [List.length_cons] at h1; omega
          | nil =>
            refine iteT ⟨_, rfl, p, _, _, _, rfl, rfl, SqL.of hp, atI_nat (j := 0) rfl, ?_⟩
            refine k _ _ s1 ?_
            rw [seqF_01, ← one_left (hr1 d1 (by simp)) hd' heq]
            exact hv1
    · rintro σ H1 Q1 Q2 hq ⟨x, e, p, ys, e2, hs, i, j, e3, e4, c, e5, q⟩
      exact ⟨x, e, p, ys, e2, hs, i, j, e3, e4, c, e5, hq _ _ q⟩
abbrev s_p_total : Stmt := top 55
theorem sc_p_total : FnScope ["values"] ["values"] (defScope s_p_total) := ⟨rfl, rfl, rfl, by decide +kernel, rfl, by decide +kernel, by decide +kernel⟩
theorem ok_p_total {f : Addr} {fd : FuncData} (F : Fun K "total" "total" s_p_total f fd) (c_p_need_ratio_list : Callee P w K mg base (L2N.CX P w) 5 "need_ratio_list" ["value", "argument"] (spNeeds K CW)) (c_p_sum_of : Callee P w K mg base CX0 3 "sum_of" ["values"] (spSum K)) :
    FnOk P w K mg base (L2N.CX P w) 6 f fd ["values"] (spApi K CW CZ 8 false fineT) := by
  refine okN F sc_p_total (fun vs H Q E h => ?_) (fun cdv A outer s H vs Q E hr h => ?_)
  · obtain ⟨_, _, _, _, _, rfl, _⟩ := h
    rfl
  · obtain ⟨st, v, x, d, e, rfl, hv, hx, ⟨b1, b2⟩, k1, k2⟩ := h
    refine ⟨_, (pss_cons (ps_expr (pe_fn c_p_need_ratio_list (hr.mono (by decide)) (by rfl) passN (pa_cons (pv 0) (pa_cons pe_str pa_nil))))
  (pss_one (ps_ret (pe_fn c_p_sum_of (hr.mono (by decide)) (by rfl) pass0 (pa_cons (pv 0) pa_nil))))), ?_⟩
    refine ⟨_, rfl, st, v, d, _, rfl, hv, b1, by decide +kernel, fun c H1 s1 => ?_, fun c => k1 (.wk "values") ?_⟩
    · have ef : fltD 8 d e = none := by
        show (if isRatiosD d = true then none else some (Flt.wk "values")) = none
        rw [if_pos c]
      cases d with
      | lst ds =>
        have hr2 : ∀ r ∈ ds, isRatioD r = true := List.all_eq_true.mp c
        exact ⟨_, rfl, st, v, ds, rfl, hv.same s1, hr2, b1 ds rfl, b2 c, fun y H2 s2 vy => k2 ef y H2 (s1.trans s2) vy⟩
      | _ => cases c
    · show (if isRatiosD d = true then none else some (Flt.wk "values")) = _
      rw [if_neg (by rw [c]; exact Bool.false_ne_true)]
end
end K00

set_option Elab.async false
set_option linter.all false
set_option maxRecDepth 100000
set_option maxHeartbeats 4000000
namespace K00
open PySem L2 L2H HotX
/-! ### a def that is called while the exception at p is handled, and knows p -/
section
open PyProof.Rows
structure FnP (P : Program) (w : World) (K : PySem.W.Frag) (mg : Str → Option Value) (base : Heap) (k : Nat) (f : Addr) (fd : FuncData) (ps : List Str) (sp : Addr × Obj → Sp) : Prop where
  len : ∀ p vs H Q E, sp p vs H Q E → vs.length = ps.length
  go : ∀ (A : Around) (outer : List Env) (s : Shared) (H : Hp) (args : Args) (us : List Value) (vs : List V) (Q : VK) (E : XK) (p : Addr × Obj), sp p vs H Q E → Vals vs us → BindsTo s fd args (ps.zip us) → Env0 P w K mg base A outer s H → PinOk outer H s p → Hot1 A p → RoomH k A →
    codeAny (model P w) A (.call (.ref f) args) (CR CX0 outer P w H s Q E) s
theorem fnP_of {P : Program} {w : World} {K : PySem.W.Frag} {mg : Str → Option Value} {base : Heap} {k : Nat} {x qual : Str} {st : Stmt} {f : Addr} {fd : FuncData} {N ps : List Str} {sp : Addr × Obj → Sp} (F : Fun K x qual st f fd) (S : FnScope N ps (defScope st))
    (len : ∀ p vs H Q E, sp p vs H Q E → vs.length = ps.length)
    (hb : ∀ (cdv : Value) (A : Around) (outer : List Env) (s : Shared) (H : Hp) (vs : List V) (Q : VK) (E : XK) (p : Addr × Obj), Hot1 A p → RoomH k (A.deeper (envOfC qual (defScope st) s.heap.objs.size f cdv)) → sp p vs H Q E →
      ∃ t, PSs (cxH CX0 P w K mg base N qual (defScope st) f cdv A outer s H E p) (defBody st) t ∧ t { nx := fun _ H' => Q .non H', rt := Q } (L2.start N vs) H) : FnP P w K mg base (k + 1) f fd ps sp := by
  obtain ⟨_, _, _, _, _, _, cdv, _, _, rfl, lk, hcd⟩ := F.ex
  refine ⟨len, fun A outer s H args us vs Q E p hsp r b e0 pin hot hr => ?_⟩
  have hl := len _ _ _ _ _ hsp
  have st' : ∀ b o, base.get? b = some o → s.heap.get? b = some o := fun b o e => (e0.bs b o e).1
  have KX : K.In s.heap := e0.mod.kin.keeps st'
  have nl : s.heap.NoLimit := e0.mod.nolimit.keeps st'
  have kinds : ∀ y ∈ ps.zip us, (defScope st).names.lookup y.1 = some .local ∨ ((defScope st).names.lookup y.1 = some .cell ∧ ((cellsFrom (s.heap.objs.size + 1) (defScope st).names []).lookup y.1).isSome = true) := by
    rintro ⟨n, v⟩ hy
    exact (S.par n (List.of_mem_zip hy).1).imp id fun q => ⟨q, PySem.W.cellsFrom_some _ _ _ (.inl q)⟩
  refine codeAny_call_function hr.depth (KX _ _ lk) rfl S.co S.gen rfl (PySem.W.codeRec_of KX hcd) (b _ _ _ _ (wpAny_newFunctionEnv_cells S.kind kinds fun env he s1 x => ?_))
  subst he
  refine ⟨nl.keeps x.toInCall.keep, codeAny_func ?_⟩
  obtain ⟨t, ht, hq⟩ := hb cdv A outer s H vs Q E p hot (hr.deeper _) hsp
  refine wpAny_mono (ht.run [] s1 (L2.start N vs) H _ (inv_startH (CX := CX0) (E := E) S pin e0 hl r x) hq) (fun fl s' hs => ?_) fun e s' hs => hs
  cases fl with
  | ret u => obtain ⟨v, σ', H', J, rv, q⟩ := hs; exact ⟨v, H', J.os, J.bare, J.base, J.hok, rv, q⟩
  | next => obtain ⟨σ', H', J, q⟩ := hs; exact ⟨.non, H', J.os, J.bare, J.base, J.hok, rfl, q⟩
  | brk => obtain ⟨_, _, _, q⟩ := hs; exact q.elim
  | cont => obtain ⟨_, _, _, q⟩ := hs; exact q.elim
structure CalleeP (P : Program) (w : World) (K : PySem.W.Frag) (mg : Str → Option Value) (base : Heap) (k : Nat) (x : Str) (ps : List Str) (sp : Addr × Obj → Sp) : Prop where
  go : ∃ (f : Addr) (fd : FuncData), FnP P w K mg base k f fd ps sp ∧ mg x = some (.ref f) ∧ PySem.W.keepIn K (.ref f) = true ∧ Binds K fd ps []
theorem pe_fnP {X : Cx} {k : Nat} {x : Str} {ps : List Str} {sp : Addr × Obj → Sp} {e : Expr} {te : TE} {q pos : Pos} {p : Addr × Obj} (C : CalleeP X.prog X.w X.K X.mg X.base k x ps sp) (hr : RoomH k X.A) (hp : p ∈ X.pn) (hot : Hot1 X.A p) (hg : Gl X x)
    (ha : PE X e te) (hst : starEach [e] X.env = (false, eval e X.env) :: starEach [] X.env := by rfl) (hdb : (x == ("__debug__" : Str)) = false := by decide) :
    PE X (.Call (.Name x q) [e] [] pos) (fun σ H Q => te σ H fun v H1 => sp p [v] H1 Q (fun _ _ _ => False)) := by
  obtain ⟨f, fd, F, hm, hk, hb⟩ := C.go
  refine ⟨fun pins s σ H Q I h => ?_⟩
  refine wpAny_Call_Name_kw (ld_glob I hg hm ?_ hdb)
  refine PySem.W.callWith_K (h₀ := X.base) I.ok.mod.kin hk (thn ((pa_cons (hs := hst) ha pa_nil).run pos pins s σ H (fun vs H1 => sp p vs H1 Q (fun _ _ _ => False)) I h) fun us s1 ⟨vs, H1, I1, r, q⟩ => ⟨I1.kIn, ?_⟩) hst rfl
  have hl : us.length = ps.length := by rw [← r.length]; exact F.len _ _ _ _ _ q
  have b := hb s1 us I1.kIn (by rw [List.append_nil]; exact hl)
  rw [List.append_nil] at b
  have P1 := I1.pin p (List.mem_append_left _ hp)
  have hpin : PinOk X.stack H1 s1 p := ⟨P1.1, P1.2.1, fun hm => (List.mem_cons.mp (I1.stkSub p.1 hm)).elim P1.2.2.1 P1.2.2.2.1, P1.2.2.2.2⟩
  refine wpAny_call (codeAny_mono (F.go X.A X.stack s1 H1 ⟨us, []⟩ us vs Q _ p q r b I1.env0 hpin hot hr) fun res s' hq => ?_)
  cases res with
  | error e => exact hq.elim
  | ok fl =>
    cases fl with
    | ret u => exact I1.after hq
    | next => exact False.elim hq
    | brk => exact False.elim hq
    | cont => exact False.elim hq
/-! ### the handled exception is asked: its class, its fields -/
/-- an own exception of class C, its dict at dd -/
structure Its (p : Addr × Obj) (C dd : Addr) : Prop where
  cls : p.2.cls = .ref C
  dict : p.2.dict = some dd
  dat : ∃ vs, p.2.data = .fields vs
theorem Its.inst {X : Cx} {pins : List (Addr × Obj)} {σ : L2.St} {H : Hp} {s : Shared} {p : Addr × Obj} {C dd : Addr} {fs : List (Str × V)} (t : Its p C dd) (hp : p ∈ X.pn) (I : L2.Inv X pins σ H s) (hd : H dd = some (.xd fs)) :
    ∃ (mA : Str → Option Value) (od : Obj), PySem.W.InstAt s.heap p.1 p.2 C (some od) ∧ (∀ f, RelO (fs.lookup f) (mA f)) ∧ ∀ f, PySem.W.lookIn f od = some (mA f) := by
  obtain ⟨ha, _⟩ := I.pin p (List.mem_append_left _ hp)
  obtain ⟨vs, hdat⟩ := t.dat
  have hx : ObjOk X.prog X.w H s.heap dd (.xd fs) := I.hok dd _ hd
  obtain ⟨mA, hns, hr⟩ := hx
  obtain ⟨od, ho, hl⟩ := lookIn_ns hns
  exact ⟨mA, od, ⟨ha, t.cls, by unfold PySem.W.notCls; rw [hdat] <;> rfl, by rw [t.dict]; exact ho⟩, hr, hl⟩
def rIsP (K : PySem.W.Frag) (p : Addr × Obj) (C dd : Addr) : List V → Hp → VK → Prop := fun xs H Q => ∃ (c : V) (cv : Value) (b : Bool) (fs : List (Str × V)), xs = [.ref p.1, c] ∧ (∀ u, RelV c u → u = cv) ∧ PySem.W.kitOne K (.ref C) cv = some b ∧ H dd = some (.xd fs) ∧ Q (.bl b) H
theorem cr_isP {X : Cx} {p : Addr × Obj} {C dd : Addr} (hp : p ∈ X.pn) (t : Its p C dd) (T : L2.ExcC X.K C) : CallR X (.builtin "isinstance") (rIsP X.K p C dd) := by
  intro pins s σ H xs us Q I r h
  obtain ⟨c, cv, b, fs, rfl, hcv, e, hd, q⟩ := h
  cases r with
  | cons rx rr =>
    cases rr with
    | cons rt rr =>
      cases rr
      cases rx
      cases hcv _ rt
      obtain ⟨mA, od, J, _, _⟩ := t.inst hp I hd
      have hcl : (PySem.W.clsIn X.K C).isSome = true := by
        obtain ⟨cd, hc, _⟩ := PySem.W.any_some T.hd
        rw [hc]
        rfl
      refine PySem.W.kia_one (PySem.W.kitx_exc hcl T.hg T.hk T.hs T.ha T.hn T.ht T.hm) I.kIn J e (fun z => nomatch z) fun tk => ?_
      exact ⟨.bl b, H, I.tok _, rfl, q⟩
/-- e.f of the handled exception -/
theorem pe_xfP {X : Cx} {p : Addr × Obj} {C dd : Addr} {e : Expr} {te : TE} {pos : Pos} {n : Str} (hp : p ∈ X.pn) (t : Its p C dd) (T : XfC X.K C) (hno : PySem.W.findIn X.K (.ref C) n = some none) (he : PE X e te)
    (hb : attributeBase e n X.env (eval e X.env) = eval e X.env := by rfl) :
    PE X (.Attribute e n pos) (fun σ H Q => te σ H fun x H1 => x = .ref p.1 ∧ ∃ (fs : List (Str × V)) (v : V), H1 dd = some (.xd fs) ∧ fs.lookup n = some v ∧ Q v H1) := by
  refine ⟨fun pins s σ H Q I h => attr_of hb (thn (he.run pins s σ H _ I h) fun u s1 ⟨x, H1, I1, rx, ex, fs, v, hd, l, q⟩ => ?_)⟩
  subst ex
  cases rx
  obtain ⟨mA, od, J, hr, hl⟩ := t.inst hp I1 hd
  have hr := hr n
  rw [l] at hr
  obtain ⟨u, hu, ru⟩ := RelO.some_of (v := v) (o := mA n) hr
  refine HandSPX.exc_get I1.kIn J T.ga T.gg T.exC (PySem.W.findObj_own T.hdC hno rfl (by rw [hl, hu])) (handed_of ru) ?_
  exact ⟨v, H1, I1.tok _, ru, q⟩
/-! ### the end of a list's walk, an exception being handled -/
theorem nx_end {prog : Program} {w : World} {A : Around} {E : Value → Shared → Prop} {s : Shared} {it l x1 : Addr} {i : Nat} {items : Array Value} {Q : Option Value → Shared → Prop} (hot : HotAt A x1 s.heap) (hne : x1 ≠ it)
    (hit : s.heap.IsListIter it l i) (hl : s.heap.IsList l items) (hx : items[i]? = none) (hQ : ∀ h', Heap.ExtBut it s.heap h' → Q none { s with heap := h' }) : wpAny (model prog w) A (pyNext (.ref it)) Q E s := by
  obtain ⟨o, ho, hc, hd⟩ := id hit
  obtain ⟨ol, hol, _, nl, hdl⟩ := hl
  obtain ⟨hh, o1, vs1, h1, d1, c1⟩ := hot
  unfold pyNext
  refine wpAny_bind (wpAny_attempt (wpAny_callSpecial?_slot (name := Str.ofString "__next__") hit.typeIs slot_listiter_next (wpAny_call_entry slot_listiter_next hit.typeIs entry_listiter_next ?_ (args_listiter_next _))))
  show wpAny _ _ (field (.ref it) 0 >>= _) _ _ s; refine wpAny_bind (wpAny_field ho hd (x := .ref l) rfl ?_)
  show wpAny _ _ (if (Value.ref l == Value.none) = true then _ else _) _ _ s; rw [if_neg (show ¬ ((Value.ref l == Value.none) = true) from Bool.false_ne_true)]
  show wpAny _ _ (field (.ref it) 1 >>= _) _ _ s; refine wpAny_bind (wpAny_field ho hd (x := .int i 0) rfl ?_)
  show wpAny _ _ (seqItems? (.ref l) >>= _) _ _ s; refine wpAny_bind (wpAny_seqItems hol hdl ?_)
  simp only [Int.toNat_natCast, hx]; refine wpAny_bind (wpAny_rule (wpAny_bind (wpAny_setField ho hd (by simp) ?_)))
  show wpAny _ _ (newExc (.type "StopIteration") [] >>= _) _ _ _; refine wpAny_bind ?_; simp only [newExc, newTuple]
  refine wpAny_bind (wpAny_newObj_type ?_ (by size_fits)); refine wpAny_bind (m := firstArgMember _ _) (wpAny_of_eq (a := Value.none) (by first | rfl | (simp only [firstArgMember]; rfl)) ?_)
  refine wpAny_newObj_type ?_ (by size_fits)
  have h1' : ∀ f, (s.heap.update it f).get? x1 = some o1 := fun f => (Heap.get?_update_other s.heap f (Ne.symm hne)).trans h1
  refine raiseNew_hot (A := A.in1) ⟨hh, o1, vs1, Heap.get?_push_of_some _ (Heap.get?_push_of_some _ (h1' _)), d1, c1⟩ (Nat.ne_of_lt (Heap.lt_size (Heap.get?_push_of_some _ (h1' _)))) (Heap.get?_push_size _ rfl) rfl (by show 2 < 6; decide) ?_
  refine wpAny_bind (wpAny_isInstance (T := "StopIteration") (b := true) ⟨_, Heap.get?_update_self _ (Heap.get?_push_size _ rfl) rfl, rfl⟩ isSubtype_stop (wpAny_pure (hQ _ fun b o hb e => ?_)))
  have e1 : ∀ f, (s.heap.update it f).get? b = some o := fun f => (Heap.get?_update_other s.heap f (Ne.symm hb)).trans e
  rw [Heap.get?_update_other _ _ (Nat.ne_of_gt (Heap.lt_size (Heap.get?_push_of_some _ (e1 _))))]
  exact Heap.get?_push_of_some _ (Heap.get?_push_of_some _ (e1 _))
end
end K00

set_option Elab.async false
set_option linter.all false
set_option maxRecDepth 100000
set_option maxHeartbeats 4000000
namespace K00
open PySem L2 L2H HotX
/-! ### a list comprehension over a list, an exception being handled -/
section
open PyProof.Rows PySem.Spec
abbrev lcx (elt tg iter : Expr) (ifs : List Expr) (scope : Scope) (pos : Pos) : Expr := .ListComp elt [⟨tg, iter, ifs, 0⟩] scope pos
abbrev InB {α : Sort _} (X : Cx) (scope : Scope) (r : Cx → α → Prop) (t : α) : Prop := ∀ (s : Shared) (H : Hp) (C : Addr) (cl : List (Str × Addr)) (fp : List Addr), r (X.blk s H scope (compEnvC scope cl C X.env) fp) t
theorem lc_hot {X : Cx} {p : Addr × Obj} {pins : List (Addr × Obj)} {s : Shared} {σ : L2.St} {H : Hp} {Q : VK} {elt tg iter : Expr} {ifs : List Expr} {scope : Scope} {own : List (Str × Nat)} {pos pos' : Pos} {tl : TE} {g : TG} {tt : TT} {te : TE} {use : Option (Value → Sem Unit)} {Qf : Value → Shared → Prop}
    (hp : p ∈ X.pn) (hot : Hot1 X.A p) (hN : X.N.Nodup) (I : L2.Inv X pins σ H s) (hl : PE X iter tl) (ok : BlkOk X.N X.env.scope scope own)
    (hg : InB X scope (fun Y t => PG Y tg t) g) (ht : InB X scope (fun Y t => PTs Y ifs t) tt) (he : InB X scope (fun Y t => PE Y elt t) te) (hs : ∀ x, foldedSetIterable iter X.env x = pure x) (h : tLc (iList X.K tl) g tt te (own.map (·.2)) σ H Q)
    (hRR : ∀ D C s' m H', L2.Inv X pins σ H' s' → Q (.ref D) H' → s'.heap.Ns C m → FpOk X pins H' C → compPost (model X.prog X.w) X.A X.xe use Qf (.ref D) C (.ok .next) s') :
    wpAny (model X.prog X.w) X.A (comprehension (lcx elt tg iter ifs scope pos) scope X.env pos' (newList []) false (eval iter X.env) use) Qf X.xe s := by
  have hfree : ∀ y ∈ scope.names, y.2 = .free → ∃ c, X.env.cells.lookup y.1 = some c := fun y hy e => (ok.free y hy e).elim (fun k => I.ok.has _ (.inl k)) fun k => I.ok.has _ (.inr k)
  refine wpAny_comprehension_free (use := use) rfl hs (closure_ok hfree) ok.kind (fun y hy e => by rw [ok.uniq y hy, e]) (thn (hl.run pins s σ H _ I h) fun v s1 ⟨x, H2, I1, r1, a, ex, hqx, q⟩ => ?_)
  subst ex
  cases r1
  obtain ⟨xs0, hq0⟩ := hqx
  obtain ⟨its0, _, p0, _⟩ := I1.list hq0
  refine wpAny_pyIter_list p0.isList ?_
  generalize hs2 : ({ s1 with heap := s1.heap.push { cls := .type "list_iterator", data := .fields #[.ref a, .int 0 0] } } : Shared) = s2
  have I2 : L2.Inv X pins σ H2 s2 := by rw [← hs2]; exact I1.kept (t' := s1.toks) fun b o e => Heap.get?_push_of_some _ e
  have st2 : s2.heap.IsListIter s1.heap.objs.size a 0 := by rw [← hs2]; exact ⟨_, Heap.get?_push_size _ rfl, rfl, rfl⟩
  have f2 : FpOk X pins H2 s1.heap.objs.size := I1.fpOk (Nat.le_refl _) (I1.hok.fresh (Nat.le_refl _))
  generalize hit : s1.heap.objs.size = it at st2 f2
  have T := turn_list (P := X.prog) (w := X.w) (K := X.K) (tg := tg) a it
  refine wpAny_newObj_type (newEnv_comp ?_) (by show 0 ≤ sizeLine; decide)
  generalize hD : s2.heap.objs.size = D
  have hDn : H2 D = none := I2.hok.fresh (Nat.le_of_eq hD)
  obtain ⟨W, ⟨m0, w0⟩, turn⟩ := q D hDn
  generalize hs3 : ({ s2 with heap := s2.heap.push { cls := .type "list", data := .seq ([] : List Value).toArray } } : Shared) = s3
  have h3 : s3.heap = s2.heap.push { cls := .type "list", data := .seq ([] : List Value).toArray } := by rw [← hs3]
  have I3 : L2.Inv X pins σ (upd H2 D (.lst [])) s3 := by
    rw [← hs3]; refine I2.laid (t' := s2.toks) (fun b o e => Heap.get?_push_of_some _ e) (Nat.le_of_eq hD) ⟨Nat.zero_le _, [], 0, .nil, ?_⟩; rw [← hD]; exact Heap.get?_push_size _ rfl
  have hlt : it < s2.heap.objs.size := by obtain ⟨o, e, _⟩ := st2; exact Heap.lt_size e
  have f3' : FpOk X pins (upd H2 D (.lst [])) it := ⟨by rw [upd_ne (by rw [← hD]; exact Nat.ne_of_lt hlt)]; exact f2.1, f2.2⟩
  have f3 : ∀ b ∈ [it], FpOk X pins (upd H2 D (.lst [])) b ∧ b < s3.heap.objs.size := fun b hb => by
    rw [List.mem_singleton.mp hb]
    exact ⟨f3', by rw [h3, Heap.size_push]; exact Nat.lt_succ_of_lt hlt⟩
  have st3 : s3.heap.IsListIter it a 0 := st2.at fun o e => by rw [h3]; exact Heap.get?_push_of_some _ e
  have P3 := I3.pin p (List.mem_append_left _ hp)
  have pno : p.1 ∉ frs X.stack := fun hm => (List.mem_cons.mp (I3.stkSub p.1 hm)).elim P3.2.2.1 P3.2.2.2.1
  have pit : p.1 ≠ it := f3'.2.2.2.2.2 p (List.mem_append_left _ hp)
  have I4 := block_start I3 ok hN f3
  have pg := hg s3 (upd H2 D (.lst [])) s3.heap.objs.size (cellsFrom (s3.heap.objs.size + 1) scope.names (cloFrom X.env.cells scope.names [])) [it]; have pt := ht s3 (upd H2 D (.lst [])) s3.heap.objs.size (cellsFrom (s3.heap.objs.size + 1) scope.names (cloFrom X.env.cells scope.names [])) [it]
  have pe := he s3 (upd H2 D (.lst [])) s3.heap.objs.size (cellsFrom (s3.heap.objs.size + 1) scope.names (cloFrom X.env.cells scope.names [])) [it]
  show codeAny _ _ (.compStart (lcx elt tg iter ifs scope pos) 0 (.ref it) (.ref D) (compEnvC scope (cellsFrom (s3.heap.objs.size + 1) scope.names (cloFrom X.env.cells scope.names [])) s3.heap.objs.size X.env)) (compPost (model X.prog X.w) X.A X.xe use Qf (.ref D) s3.heap.objs.size) { s3 with heap := pushCells (s3.heap.push { cls := .type "dict", data := .dict #[] }) scope.names }
  generalize hce : compEnvC scope (cellsFrom (s3.heap.objs.size + 1) scope.names (cloFrom X.env.cells scope.names [])) s3.heap.objs.size X.env = ce at I4 pg pt pe ⊢
  have cL : ce.locals = s3.heap.objs.size := by subst hce; rfl
  generalize hH3 : upd H2 D (.lst []) = H3 at I3 I4 pg pt pe w0 f3 f3' P3
  generalize hs4 : ({ s3 with heap := pushCells (s3.heap.push { cls := .type "dict", data := .dict #[] }) scope.names } : Shared) = s4 at I4 ⊢
  have st4 : s4.heap.IsListIter it a 0 := st3.at fun o e => by rw [← hs4]; exact pushCells_keeps _ _ _ _ (Heap.get?_push_of_some _ e)
  generalize hXB : X.blk s3 H3 scope ce [it] = XB at I4 pg pt pe
  have eA : XB.A = X.A := by rw [← hXB]
  have stat : ∀ {σ' : L2.St} {H' : Hp} {s' : Shared}, L2.Inv XB [] σ' H' s' → H' it = none → FpOk XB [] H' it := by
    rw [← hXB]; intro σ' H' s' I' hn
    exact ⟨hn, (I'.ok.exf it (List.mem_singleton.mpr rfl)).1, I'.ok.exfs it (List.mem_singleton.mpr rfl), .inl (List.mem_singleton.mpr rfl), fun x c e => (I'.ok.exf it (List.mem_singleton.mpr rfl)).2 x c e, fun p hp => absurd (show p ∈ ([] : List (Addr × Obj)) ++ [] from hp) (by simp)⟩
  have hotB : ∀ {σ' : L2.St} {H' : Hp} {s' : Shared}, L2.Inv XB [] σ' H' s' → HotAt X.A p.1 s'.heap := by
    rw [← hXB]; intro σ' H' s' I'
    obtain ⟨hh, vs1, e1, c1⟩ := hot
    exact ⟨hh, p.2, vs1, I'.base.keep p.1 p.2 P3.1 P3.2.1 pno (fun z => pit (List.mem_singleton.mp z)), e1, c1⟩
  have loop : codeAny (model X.prog X.w) X.A (.compLoop (lcx elt tg iter ifs scope pos) 0 (.ref it) (.ref D) ce) (compPost (model X.prog X.w) X.A X.xe use Qf (.ref D) s3.heap.objs.size) s4 := by
    refine compLoop_any (fun n s' => ∃ i H', L2.Inv XB [] (wipe σ (own.map (·.2))) H' s' ∧ s'.heap.IsListIter it a i ∧ H' it = none ∧ W i n H') ?_ m0 ⟨0, H3, I4, st4, f3'.1, w0⟩
    rintro n s5 ⟨i, H5, I5, st5, n5, w5⟩
    rcases turn i n H5 w5 with ⟨⟨xs, hq, hx⟩, qq⟩ | ⟨⟨xs, x, hq, hx⟩, Nx, hNx, step⟩
    · have hq' : SqL XB.K H5 a xs := by rw [← hXB]; exact hq
      obtain ⟨its, rv, pl, hz⟩ := I5.list hq'
      have hlen := rv.length
      have fp5 := stat I5 n5
      refine nx_end (hotB I5) pit st5 pl.isList (by simp; omega) fun h' eb => ?_
      have I6 : L2.Inv XB [] (wipe σ (own.map (·.2))) H5 { s5 with heap := h' } := I5.turned (t' := s5.toks) (fun b o hb e => eb b o hb e) fp5.1 fp5.2.1 fp5.2.2.2.1 fp5.2.2.2.2.1 fp5.2.2.2.2.2
      rw [← hXB] at I6
      have I7 : L2.Inv X pins σ H5 { s5 with heap := h' } := I3.call' (ch := [it]) I6.os I6.base I6.hok I6.bare fun b hb => ⟨(f3 b hb).1.2.2.2.1, (f3 b hb).1.2.1, (f3 b hb).1.2.2.2.2.1, (f3 b hb).1.2.2.2.2.2⟩
      have z : H5 ce.locals = none := I6.free
      obtain ⟨m, hn, _⟩ := I6.loc
      have hn : h'.Ns ce.locals m := hn
      rw [cL] at z hn
      exact hRR D s3.heap.objs.size _ m H5 I7 qq hn (I3.fpOk (Nat.le_refl _) z)
    · have hq' : SqL XB.K H5 a xs := by rw [← hXB]; exact hq
      obtain ⟨its, rv, pl, hz⟩ := I5.list hq'
      obtain ⟨u, hu, ru⟩ := rv.get hx
      have fp5 := stat I5 n5
      refine wpAny_pyNext_list_item st5 pl.isList (x := u) (by simpa using hu) fun h' st' sb => ?_
      have I7 : L2.Inv XB [] (wipe σ (own.map (·.2))) H5 { s5 with heap := h' } := I5.turned (t' := s5.toks) (fun b o hb e => (sb.2 b hb).trans e) fp5.1 fp5.2.1 fp5.2.2.2.1 fp5.2.2.2.2.1 fp5.2.2.2.2.2
      obtain ⟨o, e1, c1, d1⟩ := id st'
      refine go_of (s := { s5 with heap := h' }) e1 c1 d1 (by decide) ?_
      have yl : (Itl X.K a).yld i H5 x H5 := ⟨rfl, fun ys hy => by
        have hy' : SqL XB.K H5 a ys := by rw [← hXB]; exact hy
        rw [I5.list_inj hy' hq']; exact hx⟩
      have I7' := I7.pinned (fp := [it]) (fun b hb => by rw [List.mem_singleton.mp hb]; exact stat I7 n5) fun b hb => by
        rw [List.mem_singleton.mp hb]
        exact ⟨o, e1, fun v z => by rw [d1] at z; cases z⟩
      have eP : model X.prog X.w = model XB.prog XB.w := by rw [← hXB]
      have eX : XB.xe = fun _ _ => False := by rw [← hXB]
      have eE : XB.env = ce := by rw [← hXB]
      have conv : ∀ {α : Type} {t : Sem α} {q : α → Shared → Prop} {q' : α → Shared → Prop} {E' : Value → Shared → Prop} {s' : Shared}, wpAny (model XB.prog XB.w) XB.A t q XB.xe s' → (∀ a s, q a s → q' a s) → wpAny (model X.prog X.w) X.A t q' E' s' := by
        intro α t q q' E' s' h1 h2
        rw [← eP, eA, eX] at h1
        exact thnF h1 h2
      have r1 := pg.run _ { s5 with heap := h' } _ H5 x u _ I7' ru (step x H5 yl)
      rw [eE] at r1
      refine conv r1 fun _ s8 ⟨σ8, H8, I8, hw8, q8⟩ => ?_
      have r2 := pt.run _ s8 σ8 H8 _ I8 q8
      rw [eE] at r2
      refine conv r2 fun b s9 ⟨H9, I9, q9⟩ => ?_
      have fin : ∀ {s' : Shared} {H' : Hp}, L2.Inv XB ([] ++ pinsAt [it] h') σ8 H' s' → Nx H' → ∃ m, m < n ∧ ∃ i H', L2.Inv XB [] (wipe σ (own.map (·.2))) H' s' ∧ s'.heap.IsListIter it a i ∧ H' it = none ∧ W i m H' := fun {s' H'} I' nx => by
        obtain ⟨m', hm, w'⟩ := hNx H' nx
        have z := I'.pin (it, o) (List.mem_append_right _ (List.mem_append_right _ (mem_pinsAt (List.mem_singleton.mpr rfl) e1)))
        have hln : (wipe σ (own.map (·.2))).length = σ8.length := by rw [← hw8, wipe_length]
        refine ⟨m', hm, i + 1, H', (I'.unpinned (pins := [])).weak hln (fun j v e => ?_), st'.at fun o' e' => ?_, z.2.1, w'⟩
        · rw [← hw8] at e
          exact (wipe_some e).1
        · have e3 : some o' = some o := e'.symm.trans e1
          cases e3
          exact z.1
      cases b with
      | false =>
        simp only [Bool.false_eq_true, if_false] at q9 ⊢; exact fin I9 q9
      | true =>
        simp only [if_true] at q9 ⊢
        have r3 := pe.run _ s9 σ8 H9 _ I9 q9
        rw [eE] at r3
        refine conv r3 fun z s10 ⟨yv, H10, I10, r10, acc, hD10, hz10, nx⟩ => ?_
        have r4 := app_ok (X := XB) (E := XB.xe) (Q := fun _ s₅ => ∃ m, m < n ∧ ∃ i H', L2.Inv XB [] (wipe σ (own.map (·.2))) H' s₅ ∧ s₅.heap.IsListIter it a i ∧ H' it = none ∧ W i m H') I10 hD10 hz10 r10 fun s11 I11 => fin I11 nx
        exact conv r4 fun _ _ q => q
  exact codeAny_compStart_list loop (T.self X.A 0 _ _ _ st4 loop)
theorem ps_setLcP {X : Cx} {p : Addr × Obj} {i : Nat} {y : Str} {py : Pos} {elt tg iter : Expr} {ifs : List Expr} {scope : Scope} {own : List (Str × Nat)} {pos spos : Pos} {tl : TE} {g : TG} {tt : TT} {te : TE} (hp : p ∈ X.pn) (hot : Hot1 X.A p) (hN : X.N.Nodup) (hy : X.N[i]? = some y) (hyl : X.env.scope.names.lookup y = some .local)
    (hsw : swapsWith (lcx elt tg iter ifs scope pos) (some (.Name y py)) spos.line X.env = pure true) (hl : PE X iter tl) (ok : BlkOk X.N X.env.scope scope own)
    (hg : InB X scope (fun Y t => PG Y tg t) g) (ht : InB X scope (fun Y t => PTs Y ifs t) tt) (he : InB X scope (fun Y t => PE Y elt t) te) (hs : ∀ x, foldedSetIterable iter X.env x = pure x := by intro _; rfl) :
    PS X (.Assign [.Name y py] (lcx elt tg iter ifs scope pos) spos) (tAsg (tLc (iList X.K tl) g tt te (own.map (·.2))) (gName i)) := by
  refine ⟨fun pins s σ H D I h => ?_⟩
  rw [exec_Assign_Name_used _ _ _ _ hsw]
  refine wpAny_bind (wpAny_standAt (wpAny_bind ?_))
  show wpAny _ X.A (do let _ ← comprehension (lcx elt tg iter ifs scope pos) scope X.env (firstIterPos [⟨tg, iter, ifs, 0⟩] pos) (newList []) false (eval iter X.env) (some (assign (.Name y py) X.env))) _ _ s
  have h : tLc (iList X.K tl) g tt te (own.map (·.2)) σ H (fun x H1 => gName i x σ H1 D.nx) := h
  refine wpAny_bind (thn (lc_hot (Qf := fun _ s' => SP X pins D .next s') hp hot hN I hl ok hg ht he hs h fun L C s' m H' I' q hn f => ?_) fun _ s' hq => wpAny_pure (wpAny_pure hq))
  show wpAny _ _ (assign (.Name y py) X.env (.ref L)) _ _ _
  refine wpAny_assign_Name (store_ok2 (v := V.ref L) I' hN hy (.inl hyl) rfl (fun s2 I2 ⟨a, sb, ha⟩ => ?_) (.inr hyl))
  obtain ⟨f0, f1, f2, f3, f4, f5⟩ := f
  have haC : C ≠ a := ha.elim (fun z => by rw [z]; exact f1) fun z e => f4 y a z e.symm
  exact ⟨m, hn.sameBut sb haC, fun h3 sb3 => ⟨_, H', I2.turned (t' := s2.toks) (fun b o hb e => (sb3.2 b hb).trans e) f0 f1 f3 f4 f5, q⟩⟩
end
end K00

set_option Elab.async false
set_option linter.all false
set_option maxRecDepth 100000
set_option maxHeartbeats 4000000
namespace K00
open PySem L2 L2H HotX
/-- x names a class of the module, C's instances are its (b) -/
def Kd (K : PySem.W.Frag) (mg : Str → Option Value) (C : Addr) (x : Str) (b : Bool) : Prop := ∃ D : Addr, mg x = some (.ref D) ∧ PySem.W.kitOne K (.ref C) (.ref D) = some b
structure AskR (K : PySem.W.Frag) (mg : Str → Option Value) (C : Addr) (w u : Bool) : Prop where
  WrongKind : Kd K mg C "WrongKind" w
  OutOfBounds : Kd K mg C "OutOfBounds" false
  RepeatedName : Kd K mg C "RepeatedName" false
  UnknownName : Kd K mg C "UnknownName" false
  Unsafe : Kd K mg C "Unsafe" false
  BadText : Kd K mg C "BadText" false
  UnfitError : Kd K mg C "UnfitError" u
  FrameError : Kd K mg C "FrameError" true
  ValueError : PySem.W.kitOne K (.ref C) (.type "ValueError") = some true
  hVE : mg "ValueError" = none
structure AskU (K : PySem.W.Frag) (mg : Str → Option Value) (C : Addr) : Prop where
  ZeroDivisor : Kd K mg C "ZeroDivisor" true
  NegativeRoot : Kd K mg C "NegativeRoot" false
  ZeroBar : Kd K mg C "ZeroBar" false
  FlatMap : Kd K mg C "FlatMap" false
  BadSteps : Kd K mg C "BadSteps" false
  NotOneWay : Kd K mg C "NotOneWay" false
  NotHeld : Kd K mg C "NotHeld" false
  NotFlat : Kd K mg C "NotFlat" false
  NotCover : Kd K mg C "NotCover" false
  NotOwnStress : Kd K mg C "NotOwnStress" false
  NotPicture : Kd K mg C "NotPicture" false
  NotLift : Kd K mg C "NotLift" false
  NoReciprocal : Kd K mg C "NoReciprocal" false
  NotMotion : Kd K mg C "NotMotion" false
  NotAlike : Kd K mg C "NotAlike" false
  NotCrank : Kd K mg C "NotCrank" false
  NothingToUndo : Kd K mg C "NothingToUndo" false
  NothingToRedo : Kd K mg C "NothingToRedo" false
section
open PyProof.Rows
theorem pe_isP {X : Cx} {p : Addr × Obj} {C dd : Addr} {j : Nat} {e : Expr} {x : Str} {b : Bool} {p1 p2 pos : Pos} (hp : p ∈ X.pn) (t : Its p C dd) (T : L2.ExcC X.K C) (hg : Gl X "isinstance") (hm : X.mg "isinstance" = none) (he : PE X e (tVar j)) (hgx : Gl X x) (hk : Kd X.K X.mg C x b)
    (hd : (x == ("__debug__" : Str)) = false := by decide) (hst : starEach [e, .Name x p2] X.env = (false, eval e X.env) :: starEach [.Name x p2] X.env := by rfl) (hpl : (backTo pos (starEach [.Name x p2] X.env)).any (·.1) = false := by rfl) (hs2 : starEach [Expr.Name x p2] X.env = (false, eval (.Name x p2) X.env) :: starEach [] X.env := by rfl) :
    PE X (.Call (.Name "isinstance" p1) [e, .Name x p2] [] pos) (fun σ H Q => σ[j]? = some (some (.ref p.1)) ∧ (∃ fs, H dd = some (.xd fs)) ∧ Q (.bl b) H) := by
  obtain ⟨D, hD, hb⟩ := hk
  have q := pe_callB (p := p1) (pos := pos) (cr_isP hp t T) hg hm (by decide +kernel) (pa_cons (hs := hst) he (pa_cons (hs := hs2) (pe_glob (v := .ref D) (pos := p2) hgx hD rfl hd) pa_nil)) (he := hst) (hpl := hpl)
  exact ⟨fun pins s σ H Q I ⟨h1, ⟨fs, h2⟩, h3⟩ => q.run pins s σ H Q I ⟨_, h1, .ref D, .ref D, b, fs, rfl, fun u hu => hu, hb, h2, h3⟩⟩
theorem pe_isPT {X : Cx} {p : Addr × Obj} {C dd : Addr} {j : Nat} {e : Expr} {b : Bool} {p1 p2 pos : Pos} {T1 : String} {x : Str} (hp : p ∈ X.pn) (t : Its p C dd) (T : L2.ExcC X.K C) (hg : Gl X "isinstance") (hm : X.mg "isinstance" = none) (he : PE X e (tVar j)) (hgx : Gl X x) (hx : X.mg x = none)
    (hv : bootBuiltins x = some (.type T1)) (hk : PySem.W.kitOne X.K (.ref C) (.type T1) = some b) (hn : x ≠ "__name__" := by decide)
    (hd : (x == ("__debug__" : Str)) = false := by decide) (hst : starEach [e, .Name x p2] X.env = (false, eval e X.env) :: starEach [.Name x p2] X.env := by rfl) (hpl : (backTo pos (starEach [.Name x p2] X.env)).any (·.1) = false := by rfl) (hs2 : starEach [Expr.Name x p2] X.env = (false, eval (.Name x p2) X.env) :: starEach [] X.env := by rfl) :
    PE X (.Call (.Name "isinstance" p1) [e, .Name x p2] [] pos) (fun σ H Q => σ[j]? = some (some (.ref p.1)) ∧ (∃ fs, H dd = some (.xd fs)) ∧ Q (.bl b) H) := by
  have q := pe_callB (p := p1) (pos := pos) (cr_isP hp t T) hg hm (by decide +kernel) (pa_cons (hs := hst) he (pa_cons (hs := hs2) (pe_bltn (v := .ty T1) (pos := p2) hgx hx hv rfl hn hd) pa_nil)) (he := hst) (hpl := hpl)
  exact ⟨fun pins s σ H Q I ⟨h1, ⟨fs, h2⟩, h3⟩ => q.run pins s σ H Q I ⟨_, h1, .ty T1, .type T1, b, fs, rfl, fun u hu => hu, hk, h2, h3⟩⟩
end
theorem gv_isP {K : PySem.W.Frag} {st a dd : Addr} {σ : L2.St} {H : Hp} {j : Nat} {b : Bool} {fs : List (Str × V)} (hσ : σ[j]? = some (some (.ref a))) (hd : H dd = some (.xd fs)) :
    Gv K st σ H (fun σ H Q => σ[j]? = some (some (.ref a)) ∧ (∃ fs, H dd = some (.xd fs)) ∧ Q (.bl b) H) (.bl b) := fun H1 s1 Q k => ⟨hσ, ⟨fs, s1 _ _ hd⟩, k _ _ (Same.refl _) (.bl b)⟩
/-- the names that are so -/
def trues : List (Str × Bool) → List V
  | (z, true) :: t => .str z :: trues t
  | (_, false) :: t => trues t
  | [] => []
theorem trues_append : ∀ (a b : List (Str × Bool)), trues (a ++ b) = trues a ++ trues b
  | [], b => rfl
  | (z, true) :: t, b => congrArg (V.str z :: ·) (trues_append t b)
  | (_, false) :: t, b => trues_append t b
theorem trues_le : ∀ (a : List (Str × Bool)), (trues a).length ≤ a.length
  | [] => Nat.le_refl _
  | (z, true) :: t => Nat.succ_le_succ (trues_le t)
  | (_, false) :: t => Nat.le_succ_of_le (trues_le t)
def asked : List (Str × Bool) := [("ZeroDivisor", true), ("NegativeRoot", false), ("ZeroBar", false), ("FlatMap", false), ("BadSteps", false), ("NotOneWay", false), ("NotHeld", false), ("NotFlat", false), ("NotCover", false), ("NotOwnStress", false), ("NotPicture", false), ("NotLift", false), ("NoReciprocal", false), ("NotMotion", false), ("NotAlike", false), ("NotCrank", false), ("NothingToUndo", false), ("NothingToRedo", false)]
def askD (l : List (Str × Bool)) : List D := l.map fun q => .tup [.str q.1, .bl q.2]
def spUnfit (K : PySem.W.Frag) (CZ : Addr) : Addr × Obj → Sp := fun p vs H Q _ => ∃ (st dd : Addr), vs = [.ref p.1] ∧ Its p CZ dd ∧ H dd = some (.xd [("subject", .non)]) ∧ StAt H st ∧ ∀ (x : V) (H' : Hp), Same H H' → Val K st H' x (.tup [.str "ZeroDivisor", .non]) → Q x H'
/-- the pair that tells the fault -/
def errD : Flt → D
  | .wk z => .tup [.str "WrongKind", .str z]
  | .zd => .tup [.str "ZeroDivisor", .non]
section
variable {P : Program} {w : World} {K : PySem.W.Frag} {mg : Str → Option Value} {base : Heap} {CW CZ : Addr}
abbrev s_unfit : Stmt := top 74
theorem sc_unfit : FnScope ["_law_e", "_law_asked", "_law_found", "_law_one"] ["_law_e"] (defScope s_unfit) := ⟨rfl, rfl, rfl, by decide +kernel, rfl, by decide +kernel, by decide +kernel⟩
theorem ok_unfit {f : Addr} {fd : FuncData} (F : Fun K "_law_unfit" "_law_unfit" s_unfit f fd) (T : TxtP K mg) (A0 : AskU K mg CZ) (TC : L2.ExcC K CZ) (XC : XfC K CZ) (hno : PySem.W.findIn K (.ref CZ) "subject" = some none) : FnP P w K mg base 1 f fd ["_law_e"] (spUnfit K CZ) := by
  refine fnP_of F sc_unfit (fun p vs H Q E h => ?_) (fun cdv A outer s H vs Q E p hot0 hr h => ?_)
  · obtain ⟨_, _, rfl, _⟩ := h
    rfl
  · obtain ⟨st, dd, rfl, t, hd, hS, k⟩ := h
    have hp : p ∈ (cxH CX0 P w K mg base ["_law_e", "_law_asked", "_law_found", "_law_one"] "_law_unfit" (defScope s_unfit) f cdv A outer s H E p).pn := List.mem_singleton.mpr rfl
    have hot : Hot1 (cxH CX0 P w K mg base ["_law_e", "_law_asked", "_law_found", "_law_one"] "_law_unfit" (defScope s_unfit) f cdv A outer s H E p).A p := hot0
    obtain ⟨k_ZeroDivisor, k_NegativeRoot, k_ZeroBar, k_FlatMap, k_BadSteps, k_NotOneWay, k_NotHeld, k_NotFlat, k_NotCover, k_NotOwnStress, k_NotPicture, k_NotLift, k_NoReciprocal, k_NotMotion, k_NotAlike, k_NotCrank, k_NothingToUndo, k_NothingToRedo⟩ := A0
    refine ⟨_, (pss_cons (ps_set (i := 1) sc_unfit.nd rfl (Or.inl rfl) (pe_lst (pa_cons (pe_tup (pa_cons pe_str (pa_cons (pe_isP hp t TC (by rfl) T.isinstance (pv 0) (by rfl) k_ZeroDivisor) pa_nil))) (pa_cons (pe_tup (pa_cons pe_str (pa_cons (pe_isP hp t TC (by rfl) T.isinstance (pv 0) (by rfl) k_NegativeRoot) pa_nil))) pa_nil))))
  (pss_cons (ps_set (i := 1) sc_unfit.nd rfl (Or.inl rfl) (pe_op op_cat (pv 1) (pe_lst (pa_cons (pe_tup (pa_cons pe_str (pa_cons (pe_isP hp t TC (by rfl) T.isinstance (pv 0) (by rfl) k_ZeroBar) pa_nil))) (pa_cons (pe_tup (pa_cons pe_str (pa_cons (pe_isP hp t TC (by rfl) T.isinstance (pv 0) (by rfl) k_FlatMap) pa_nil))) pa_nil)))))
  (pss_cons (ps_set (i := 1) sc_unfit.nd rfl (Or.inl rfl) (pe_op op_cat (pv 1) (pe_lst (pa_cons (pe_tup (pa_cons pe_str (pa_cons (pe_isP hp t TC (by rfl) T.isinstance (pv 0) (by rfl) k_BadSteps) pa_nil))) (pa_cons (pe_tup (pa_cons pe_str (pa_cons (pe_isP hp t TC (by rfl) T.isinstance (pv 0) (by rfl) k_NotOneWay) pa_nil))) pa_nil)))))
  (pss_cons (ps_set (i := 1) sc_unfit.nd rfl (Or.inl rfl) (pe_op op_cat (pv 1) (pe_lst (pa_cons (pe_tup (pa_cons pe_str (pa_cons (pe_isP hp t TC (by rfl) T.isinstance (pv 0) (by rfl) k_NotHeld) pa_nil))) (pa_cons (pe_tup (pa_cons pe_str (pa_cons (pe_isP hp t TC (by rfl) T.isinstance (pv 0) (by rfl) k_NotFlat) pa_nil))) pa_nil)))))
  (pss_cons (ps_set (i := 1) sc_unfit.nd rfl (Or.inl rfl) (pe_op op_cat (pv 1) (pe_lst (pa_cons (pe_tup (pa_cons pe_str (pa_cons (pe_isP hp t TC (by rfl) T.isinstance (pv 0) (by rfl) k_NotCover) pa_nil))) (pa_cons (pe_tup (pa_cons pe_str (pa_cons (pe_isP hp t TC (by rfl) T.isinstance (pv 0) (by rfl) k_NotOwnStress) pa_nil))) pa_nil)))))
  (pss_cons (ps_set (i := 1) sc_unfit.nd rfl (Or.inl rfl) (pe_op op_cat (pv 1) (pe_lst (pa_cons (pe_tup (pa_cons pe_str (pa_cons (pe_isP hp t TC (by rfl) T.isinstance (pv 0) (by rfl) k_NotPicture) pa_nil))) (pa_cons (pe_tup (pa_cons pe_str (pa_cons (pe_isP hp t TC (by rfl) T.isinstance (pv 0) (by rfl) k_NotLift) pa_nil))) pa_nil)))))
  (pss_cons (ps_set (i := 1) sc_unfit.nd rfl (Or.inl rfl) (pe_op op_cat (pv 1) (pe_lst (pa_cons (pe_tup (pa_cons pe_str (pa_cons (pe_isP hp t TC (by rfl) T.isinstance (pv 0) (by rfl) k_NoReciprocal) pa_nil))) (pa_cons (pe_tup (pa_cons pe_str (pa_cons (pe_isP hp t TC (by rfl) T.isinstance (pv 0) (by rfl) k_NotMotion) pa_nil))) pa_nil)))))
  (pss_cons (ps_set (i := 1) sc_unfit.nd rfl (Or.inl rfl) (pe_op op_cat (pv 1) (pe_lst (pa_cons (pe_tup (pa_cons pe_str (pa_cons (pe_isP hp t TC (by rfl) T.isinstance (pv 0) (by rfl) k_NotAlike) pa_nil))) (pa_cons (pe_tup (pa_cons pe_str (pa_cons (pe_isP hp t TC (by rfl) T.isinstance (pv 0) (by rfl) k_NotCrank) pa_nil))) pa_nil)))))
  (pss_cons (ps_set (i := 1) sc_unfit.nd rfl (Or.inl rfl) (pe_op op_cat (pv 1) (pe_lst (pa_cons (pe_tup (pa_cons pe_str (pa_cons (pe_isP hp t TC (by rfl) T.isinstance (pv 0) (by rfl) k_NothingToUndo) pa_nil))) (pa_cons (pe_tup (pa_cons pe_str (pa_cons (pe_isP hp t TC (by rfl) T.isinstance (pv 0) (by rfl) k_NothingToRedo) pa_nil))) pa_nil)))))
  (pss_cons (ps_setLcP (i := 2) (own := [("_law_one", 3)]) (g := gName 3) (tt := tB (tOp (rIxT K) (tVar 3) (tC (.int 1)))) (te := tOp (rIxT K) (tVar 3) (tC (.int 0))) hp hot sc_unfit.nd rfl rfl (sw_true rfl rfl rfl (by decide +kernel)) (pv 1) (blkOk_by (own := [("_law_one", 3)]) (N := ["_law_e", "_law_asked", "_law_found", "_law_one"]) (sc := defScope s_unfit) (by decide +kernel)) (fun _ _ _ _ _ => pg_name (i := 3) sc_unfit.nd rfl (Or.inl rfl)) (fun _ _ _ _ _ => (pts_one (pt_val (pe_ix ix_tup (pv 3) pe_int (fun _ _ => rfl))))) (fun _ _ _ _ _ => (pe_ix ix_tup (pv 3) pe_int (fun _ _ => rfl))))
  (pss_cons (ps_if (pt_cmpR op_eq (pe_callB call_len_seq (by rfl) T.len PySem.boot_len (pa_cons (pv 2) pa_nil)) pe_int (nomark _)) (pss_one ps_never) pss_nil)
  (pss_cons (ps_if (pt_cmpR op_gt (pe_callB call_len_seq (by rfl) T.len PySem.boot_len (pa_cons (pv 2) pa_nil)) pe_int (nomark _)) (pss_one ps_never) pss_nil)
  (pss_one (ps_ret (pe_tup (pa_cons (pe_ix ix_list (pv 2) pe_int (fun _ _ => rfl)) (pa_cons (pe_xfP hp t XC hno (pv 0)) pa_nil))))))))))))))))), ?_⟩
    refine asg_of ?_
    refine GvL.lst (K := K) (st := st) hS (.cons (.tup (.cons .str (.cons (gv_isP rfl hd) .nil)) (Nat.le_of_ble_eq_true rfl)) (.cons (.tup (.cons .str (.cons (gv_isP rfl hd) .nil)) (Nat.le_of_ble_eq_true rfl)) .nil)) (Nat.le_of_ble_eq_true rfl) H (Same.refl H) _ (fun p1 v1 H1 s1 n1 hp1 hv1 => ?_)
    have hS1 := hS.same s1
    replace hd := s1 _ _ hd
    try dsimp only [gName]
    refine asg_of ?_
    refine GvL.cat (K := K) (st := st) (H := H1) hS1 (GvL.var rfl n1 hp1 hv1) (GvL.lst hS1 (.cons (.tup (.cons .str (.cons (gv_isP rfl hd) .nil)) (Nat.le_of_ble_eq_true rfl)) (.cons (.tup (.cons .str (.cons (gv_isP rfl hd) .nil)) (Nat.le_of_ble_eq_true rfl)) .nil)) (Nat.le_of_ble_eq_true rfl)) (Nat.le_of_ble_eq_true rfl) H1 (Same.refl H1) _ (fun p2 v2 H2 s2 n2 hp2 hv2 => ?_)
    have hS2 := hS1.same s2
    replace hd := s2 _ _ hd
    try dsimp only [gName]
    refine asg_of ?_
    refine GvL.cat (K := K) (st := st) (H := H2) hS2 (GvL.var rfl n2 hp2 hv2) (GvL.lst hS2 (.cons (.tup (.cons .str (.cons (gv_isP rfl hd) .nil)) (Nat.le_of_ble_eq_true rfl)) (.cons (.tup (.cons .str (.cons (gv_isP rfl hd) .nil)) (Nat.le_of_ble_eq_true rfl)) .nil)) (Nat.le_of_ble_eq_true rfl)) (Nat.le_of_ble_eq_true rfl) H2 (Same.refl H2) _ (fun p3 v3 H3 s3 n3 hp3 hv3 => ?_)
    have hS3 := hS2.same s3
    replace hd := s3 _ _ hd
    try dsimp only [gName]
    refine asg_of ?_
    refine GvL.cat (K := K) (st := st) (H := H3) hS3 (GvL.var rfl n3 hp3 hv3) (GvL.lst hS3 (.cons (.tup (.cons .str (.cons (gv_isP rfl hd) .nil)) (Nat.le_of_ble_eq_true rfl)) (.cons (.tup (.cons .str (.cons (gv_isP rfl hd) .nil)) (Nat.le_of_ble_eq_true rfl)) .nil)) (Nat.le_of_ble_eq_true rfl)) (Nat.le_of_ble_eq_true rfl) H3 (Same.refl H3) _ (fun p4 v4 H4 s4 n4 hp4 hv4 => ?_)
    have hS4 := hS3.same s4
    replace hd := s4 _ _ hd
    try dsimp only [gName]
    refine asg_of ?_
    refine GvL.cat (K := K) (st := st) (H := H4) hS4 (GvL.var rfl n4 hp4 hv4) (GvL.lst hS4 (.cons (.tup (.cons .str (.cons (gv_isP rfl hd) .nil)) (Nat.le_of_ble_eq_true rfl)) (.cons (.tup (.cons .str (.cons (gv_isP rfl hd) .nil)) (Nat.le_of_ble_eq_true rfl)) .nil)) (Nat.le_of_ble_eq_true rfl)) (Nat.le_of_ble_eq_true rfl) H4 (Same.refl H4) _ (fun p5 v5 H5 s5 n5 hp5 hv5 => ?_)
    have hS5 := hS4.same s5
    replace hd := s5 _ _ hd
    try dsimp only [gName]
    refine asg_of ?_
    refine GvL.cat (K := K) (st := st) (H := H5) hS5 (GvL.var rfl n5 hp5 hv5) (GvL.lst hS5 (.cons (.tup (.cons .str (.cons (gv_isP rfl hd) .nil)) (Nat.le_of_ble_eq_true rfl)) (.cons (.tup (.cons .str (.cons (gv_isP rfl hd) .nil)) (Nat.le_of_ble_eq_true rfl)) .nil)) (Nat.le_of_ble_eq_true rfl)) (Nat.le_of_ble_eq_true rfl) H5 (Same.refl H5) _ (fun p6 v6 H6 s6 n6 hp6 hv6 => ?_)
    have hS6 := hS5.same s6
    replace hd := s6 _ _ hd
    try dsimp only [gName]
    refine asg_of ?_
    refine GvL.cat (K := K) (st := st) (H := H6) hS6 (GvL.var rfl n6 hp6 hv6) (GvL.lst hS6 (.cons (.tup (.cons .str (.cons (gv_isP rfl hd) .nil)) (Nat.le_of_ble_eq_true rfl)) (.cons (.tup (.cons .str (.cons (gv_isP rfl hd) .nil)) (Nat.le_of_ble_eq_true rfl)) .nil)) (Nat.le_of_ble_eq_true rfl)) (Nat.le_of_ble_eq_true rfl) H6 (Same.refl H6) _ (fun p7 v7 H7 s7 n7 hp7 hv7 => ?_)
    have hS7 := hS6.same s7
    replace hd := s7 _ _ hd
    try dsimp only [gName]
    refine asg_of ?_
    refine GvL.cat (K := K) (st := st) (H := H7) hS7 (GvL.var rfl n7 hp7 hv7) (GvL.lst hS7 (.cons (.tup (.cons .str (.cons (gv_isP rfl hd) .nil)) (Nat.le_of_ble_eq_true rfl)) (.cons (.tup (.cons .str (.cons (gv_isP rfl hd) .nil)) (Nat.le_of_ble_eq_true rfl)) .nil)) (Nat.le_of_ble_eq_true rfl)) (Nat.le_of_ble_eq_true rfl) H7 (Same.refl H7) _ (fun p8 v8 H8 s8 n8 hp8 hv8 => ?_)
    have hS8 := hS7.same s8
    replace hd := s8 _ _ hd
    try dsimp only [gName]
    refine asg_of ?_
    refine GvL.cat (K := K) (st := st) (H := H8) hS8 (GvL.var rfl n8 hp8 hv8) (GvL.lst hS8 (.cons (.tup (.cons .str (.cons (gv_isP rfl hd) .nil)) (Nat.le_of_ble_eq_true rfl)) (.cons (.tup (.cons .str (.cons (gv_isP rfl hd) .nil)) (Nat.le_of_ble_eq_true rfl)) .nil)) (Nat.le_of_ble_eq_true rfl)) (Nat.le_of_ble_eq_true rfl) H8 (Same.refl H8) _ (fun p9 v9 H9 s9 n9 hp9 hv9 => ?_)
    have hS9 := hS8.same s9
    replace hd := s9 _ _ hd
    have sa : Same H H9 := ((((((((s1.trans s2).trans s3).trans s4).trans s5).trans s6).trans s7).trans s8).trans s9)
    have hv : ValAll K st H9 v9 (askD asked) := hv9
    have hl9 : v9.length = 18 := hv.length
    try dsimp only [gName]
    refine ⟨_, rfl, p9, rfl, ⟨_, SqL.of hp9⟩, fun D0 hD => lc_list (xs := v9) (fun i H' => H' = upd H9 D0 (.lst (trues (asked.take i)))) rfl (fun i H' _ e => ?_) (fun i x H' hx e => ?_) (fun H' e => ?_)⟩
    · rw [e]
      exact SqL.of (Same.new hD _ _ hp9)
    · subst e
      obtain ⟨dx, hdx, hvx⟩ := hv.get hx
      obtain ⟨⟨z, b⟩, hq, rfl⟩ : ∃ q, asked[i]? = some q ∧ dx = .tup [.str q.1, .bl q.2] := by
        unfold askD at hdx
        rw [List.getElem?_map] at hdx
        cases e : asked[i]? with
        | none => rw [e] at hdx; cases hdx
        | some q => rw [e] at hdx; exact ⟨q, rfl, (Option.some.inj hdx).symm⟩
      have et : trues (asked.take (i + 1)) = trues (asked.take i) ++ trues [(z, b)] := by
        rw [List.take_add_one, hq, trues_append]
        rfl
      cases hvx with
      | @tup a2 xs2 _ h2 r2 =>
        cases r2 with
        | cons h3 r3 =>
          cases r3 with
          | cons h4 r4 =>
            cases r4
            cases h3
            cases h4
            have h5 : SqT K (upd H9 D0 (.lst (trues (asked.take i)))) a2 [.str z, .bl b] := sqT_same (Same.new hD) h2
            refine ⟨rfl, ⟨_, rfl, a2, _, 1, .bl b, rfl, rfl, h5, atI_nat (j := 1) rfl, b, rfl, ?_⟩⟩
            cases b with
            | false =>
              refine iteF ?_
              show _ = upd H9 D0 _
              rw [et]
              show _ = upd H9 D0 (.lst (trues (asked.take i) ++ []))
              rw [List.append_nil]
            | true =>
              refine iteT ⟨_, rfl, a2, _, 0, .str z, rfl, rfl, h5, atI_nat (j := 0) rfl, _, upd_same, ?_, ?_⟩
              · have q1 := trues_le (asked.take i)
                have q2 : (asked.take i).length ≤ 18 := by
                  rw [List.length_take]
                  exact Nat.min_le_right _ _
                rw [sizeLine_eq]
                omega
              · rw [upd_upd, et]
                rfl
    · subst e
      have e1 : trues (asked.take v9.length) = [.str "ZeroDivisor"] := by rw [hl9]; rfl
      rw [e1]
      have hd9 : upd H9 D0 (.lst [.str "ZeroDivisor"]) dd = some (.xd [("subject", .non)]) := Same.new hD _ _ hd
      refine ⟨_, rfl, D0, _, rfl, .inl (SqL.of upd_same), rfl, _, rfl, ite2 (fun h0 => absurd (int_eq h0) (by decide)) (fun _ => ?_)⟩
      refine ⟨_, rfl, D0, _, rfl, .inl (SqL.of upd_same), _, _, rfl, rfl, _, rfl, ite2 (fun h0 => absurd (of_decide_eq_true h0) (by decide)) (fun _ => ?_)⟩
      refine ⟨_, rfl, D0, _, 0, .str "ZeroDivisor", rfl, rfl, SqL.of upd_same, atI_nat (j := 0) rfl, _, rfl, rfl, _, .non, hd9, by simp [List.lookup], by show 2 ≤ sizeLine; decide, fun c hc => ?_⟩
      exact k _ _ ((sa.trans (Same.new hD)).trans (Same.new hc)) (.tup (SqT.of upd_same) (.cons (.str _) (.cons .non .nil)))
/-- what an error is told as: g the fault, of class C -/
inductive Says (CW CZ : Addr) : Flt → Addr → Str → V → Prop
  | wk (z : Str) : Says CW CZ (.wk z) CW "argument" (.str z)
  | zd : Says CW CZ .zd CZ "subject" .non
def spRefused (K : PySem.W.Frag) (CW CZ : Addr) : Addr × Obj → Sp := fun p vs H Q _ => ∃ (st dd C : Addr) (g : Flt) (fld : Str) (v : V), vs = [.ref p.1] ∧ Its p C dd ∧ Says CW CZ g C fld v ∧ H dd = some (.xd [(fld, v)]) ∧ StAt H st ∧ ∀ (x : V) (H' : Hp), Same H H' → Val K st H' x (errD g) → Q x H'
abbrev s_refused : Stmt := top 73
theorem sc_refused : FnScope ["_law_e", "_law_found"] ["_law_e"] (defScope s_refused) := ⟨rfl, rfl, rfl, by decide +kernel, rfl, by decide +kernel, by decide +kernel⟩
theorem ok_refused {f : Addr} {fd : FuncData} (F : Fun K "_law_refused" "_law_refused" s_refused f fd) (T : TxtP K mg) (AW : AskR K mg CW true false) (AZ : AskR K mg CZ false true) (TW : L2.ExcC K CW) (TZ : L2.ExcC K CZ) (XW : XfC K CW) (noW : PySem.W.findIn K (.ref CW) "argument" = some none)
    (c_unfit : CalleeP P w K mg base 1 "_law_unfit" ["_law_e"] (spUnfit K CZ)) : FnP P w K mg base 2 f fd ["_law_e"] (spRefused K CW CZ) := by
  refine fnP_of F sc_refused (fun p vs H Q E h => ?_) (fun cdv A outer s H vs Q E p hot0 hr h => ?_)
  · obtain ⟨_, _, _, _, _, _, rfl, _⟩ := h
    rfl
  · obtain ⟨st, dd, C, g, fld, v, rfl, t, sy, hd, hS, k⟩ := h
    have hp : p ∈ (cxH CX0 P w K mg base ["_law_e", "_law_found"] "_law_refused" (defScope s_refused) f cdv A outer s H E p).pn := List.mem_singleton.mpr rfl
    have hot : Hot1 (cxH CX0 P w K mg base ["_law_e", "_law_found"] "_law_refused" (defScope s_refused) f cdv A outer s H E p).A p := hot0
    cases sy with
    | wk z =>
      have TC := TW
      have XC := XW
      have hno := noW
      obtain ⟨k_WrongKind, k_OutOfBounds, k_RepeatedName, k_UnknownName, k_Unsafe, k_BadText, k_UnfitError, k_FrameError, k_ValueError, hVE⟩ := AW
      refine ⟨_, (pss_cons (ps_set (i := 1) sc_refused.nd rfl (Or.inl rfl) (pe_lst pa_nil))
  (pss_cons (ps_if (pt_val (pe_isP hp t TC (by rfl) T.isinstance (pv 0) (by rfl) k_WrongKind)) (pss_one (ps_expr (pe_bm PySem.F.plainAttrs_list PySem.F.slot_list_append PySem.F.type_list_append mt_append (pv 1) (pa_cons (pe_tup (pa_cons pe_str (pa_cons (pe_xfP hp t XC hno (pv 0)) pa_nil))) pa_nil)))) pss_nil)
  (pss_cons (ps_if (pt_val (pe_isP hp t TC (by rfl) T.isinstance (pv 0) (by rfl) k_OutOfBounds)) (pss_one ps_never) pss_nil)
  (pss_cons (ps_if (pt_val (pe_isP hp t TC (by rfl) T.isinstance (pv 0) (by rfl) k_RepeatedName)) (pss_one ps_never) pss_nil)
  (pss_cons (ps_if (pt_val (pe_isP hp t TC (by rfl) T.isinstance (pv 0) (by rfl) k_UnknownName)) (pss_one ps_never) pss_nil)
  (pss_cons (ps_if (pt_val (pe_isP hp t TC (by rfl) T.isinstance (pv 0) (by rfl) k_Unsafe)) (pss_one ps_never) pss_nil)
  (pss_cons (ps_if (pt_val (pe_isP hp t TC (by rfl) T.isinstance (pv 0) (by rfl) k_BadText)) (pss_one ps_never) pss_nil)
  (pss_cons (ps_if (pt_val (pe_isP hp t TC (by rfl) T.isinstance (pv 0) (by rfl) k_UnfitError)) (pss_one ps_never) pss_nil)
  (pss_cons (ps_if (PW.pt (pw_or (pt_not (pt_val (pe_isP hp t TC (by rfl) T.isinstance (pv 0) (by rfl) k_FrameError))) (pw_or1 (pt_not (pt_val (pe_isPT hp t TC (by rfl) T.isinstance (pv 0) (by rfl) hVE (by decide +kernel) k_ValueError)))))) (pss_one ps_never) pss_nil)
  (pss_cons (ps_if (pt_cmpR op_eq (pe_callB call_len_seq (by rfl) T.len PySem.boot_len (pa_cons (pv 1) pa_nil)) pe_int (nomark _)) (pss_one ps_never) pss_nil)
  (pss_cons (ps_if (pt_cmpR op_gt (pe_callB call_len_seq (by rfl) T.len PySem.boot_len (pa_cons (pv 1) pa_nil)) pe_int (nomark _)) (pss_one ps_never) pss_nil)
  (pss_one (ps_ret (pe_ix ix_list (pv 1) pe_int (fun _ _ => rfl))))))))))))))), ?_⟩
      refine ⟨by show 0 ≤ sizeLine; exact Nat.zero_le _, fun l hl => ?_⟩
      have hd1 := Same.new (o := .lst []) hl _ _ hd
      refine ⟨rfl, ⟨_, hd1⟩, _, rfl, iteT ?_⟩
      refine ⟨_, rfl, .inl ⟨rfl, _, SqL.of upd_same⟩, _, rfl, rfl, _, .str z, hd1, by simp [List.lookup], by show 2 ≤ sizeLine; decide, fun c hc => ?_⟩
      have ncl : c ≠ l := fun e => by rw [e, upd_same] at hc; cases hc
      refine ⟨l, [], .ref c, rfl, rfl, Same.new hc _ _ upd_same, by show 0 < sizeLine; decide, ?_⟩
      generalize hH2 : upd (upd (upd H l (.lst [])) c (.tup [.str "WrongKind", .str z])) l (.lst ([] ++ [.ref c])) = H2
      have sH : Same H H2 := fun b o e => by
        rw [← hH2, upd_ne (ne_of_none e hl)]
        exact Same.new hc _ _ (Same.new hl _ _ e)
      have hd2 := sH _ _ hd
      have hl2 : H2 l = some (.lst [.ref c]) := by rw [← hH2]; exact upd_same
      have hc2 : H2 c = some (.tup [.str "WrongKind", .str z]) := by rw [← hH2, upd_ne ncl]; exact upd_same
      refine ⟨rfl, ⟨_, hd2⟩, _, rfl, iteF ⟨rfl, ⟨_, hd2⟩, _, rfl, iteF ⟨rfl, ⟨_, hd2⟩, _, rfl, iteF ⟨rfl, ⟨_, hd2⟩, _, rfl, iteF ⟨rfl, ⟨_, hd2⟩, _, rfl, iteF ⟨rfl, ⟨_, hd2⟩, _, rfl, iteF ?_⟩⟩⟩⟩⟩⟩
      refine ⟨rfl, ⟨_, hd2⟩, _, rfl, iteF ⟨rfl, ⟨_, hd2⟩, _, rfl, iteF ?_⟩⟩
      refine ⟨_, rfl, l, _, rfl, .inl (SqL.of hl2), rfl, _, rfl, ite2 (fun h0 => absurd (int_eq h0) (by show ¬ ((1 : Nat) : Int) = 0; decide)) (fun _ => ?_)⟩
      refine ⟨_, rfl, l, _, rfl, .inl (SqL.of hl2), _, _, rfl, rfl, _, rfl, ite2 (fun h0 => absurd (of_decide_eq_true h0) (by show ¬ (1 : Int) < ((1 : Nat) : Int); decide)) (fun _ => ?_)⟩
      exact ⟨_, rfl, l, _, 0, .ref c, rfl, rfl, SqL.of hl2, atI_nat (j := 0) rfl, k _ _ sH (.tup (SqT.of hc2) (.cons (.str _) (.cons (.str _) .nil)))⟩
    | zd =>
      have TC := TZ
      obtain ⟨k_WrongKind, k_OutOfBounds, k_RepeatedName, k_UnknownName, k_Unsafe, k_BadText, k_UnfitError, k_FrameError, k_ValueError, hVE⟩ := AZ
      refine ⟨_, (pss_cons (ps_set (i := 1) sc_refused.nd rfl (Or.inl rfl) (pe_lst pa_nil))
  (pss_cons (ps_if (pt_val (pe_isP hp t TC (by rfl) T.isinstance (pv 0) (by rfl) k_WrongKind)) (pss_one ps_never) pss_nil)
  (pss_cons (ps_if (pt_val (pe_isP hp t TC (by rfl) T.isinstance (pv 0) (by rfl) k_OutOfBounds)) (pss_one ps_never) pss_nil)
  (pss_cons (ps_if (pt_val (pe_isP hp t TC (by rfl) T.isinstance (pv 0) (by rfl) k_RepeatedName)) (pss_one ps_never) pss_nil)
  (pss_cons (ps_if (pt_val (pe_isP hp t TC (by rfl) T.isinstance (pv 0) (by rfl) k_UnknownName)) (pss_one ps_never) pss_nil)
  (pss_cons (ps_if (pt_val (pe_isP hp t TC (by rfl) T.isinstance (pv 0) (by rfl) k_Unsafe)) (pss_one ps_never) pss_nil)
  (pss_cons (ps_if (pt_val (pe_isP hp t TC (by rfl) T.isinstance (pv 0) (by rfl) k_BadText)) (pss_one ps_never) pss_nil)
  (pss_cons (ps_if (pt_val (pe_isP hp t TC (by rfl) T.isinstance (pv 0) (by rfl) k_UnfitError)) (pss_one (ps_expr (pe_bm PySem.F.plainAttrs_list PySem.F.slot_list_append PySem.F.type_list_append mt_append (pv 1) (pa_cons (pe_fnP c_unfit (hr.mono (by decide)) hp hot (by rfl) (pv 0)) pa_nil)))) pss_nil)
  (pss_cons (ps_if (PW.pt (pw_or (pt_not (pt_val (pe_isP hp t TC (by rfl) T.isinstance (pv 0) (by rfl) k_FrameError))) (pw_or1 (pt_not (pt_val (pe_isPT hp t TC (by rfl) T.isinstance (pv 0) (by rfl) hVE (by decide +kernel) k_ValueError)))))) (pss_one ps_never) pss_nil)
  (pss_cons (ps_if (pt_cmpR op_eq (pe_callB call_len_seq (by rfl) T.len PySem.boot_len (pa_cons (pv 1) pa_nil)) pe_int (nomark _)) (pss_one ps_never) pss_nil)
  (pss_cons (ps_if (pt_cmpR op_gt (pe_callB call_len_seq (by rfl) T.len PySem.boot_len (pa_cons (pv 1) pa_nil)) pe_int (nomark _)) (pss_one ps_never) pss_nil)
  (pss_one (ps_ret (pe_ix ix_list (pv 1) pe_int (fun _ _ => rfl))))))))))))))), ?_⟩
      refine ⟨by show 0 ≤ sizeLine; exact Nat.zero_le _, fun l hl => ?_⟩
      have hd1 := Same.new (o := .lst []) hl _ _ hd
      refine ⟨rfl, ⟨_, hd1⟩, _, rfl, iteF ⟨rfl, ⟨_, hd1⟩, _, rfl, iteF ⟨rfl, ⟨_, hd1⟩, _, rfl, iteF ⟨rfl, ⟨_, hd1⟩, _, rfl, iteF ⟨rfl, ⟨_, hd1⟩, _, rfl, iteF ⟨rfl, ⟨_, hd1⟩, _, rfl, iteF ⟨rfl, ⟨_, hd1⟩, _, rfl, iteT ?_⟩⟩⟩⟩⟩⟩⟩
      refine ⟨_, rfl, .inl ⟨rfl, _, SqL.of upd_same⟩, _, rfl, st, dd, rfl, t, hd1, hS.same (Same.new hl), fun x H1 s1 vx => ?_⟩
      refine ⟨l, [], x, rfl, rfl, s1 _ _ upd_same, by show 0 < sizeLine; decide, ?_⟩
      generalize hH2 : upd H1 l (.lst ([] ++ [x])) = H2
      have sH : Same H H2 := fun b o e => by
        rw [← hH2, upd_ne (ne_of_none e hl)]
        exact s1 _ _ (Same.new hl _ _ e)
      have hd2 := sH _ _ hd
      have hl2 : H2 l = some (.lst [x]) := by rw [← hH2]; exact upd_same
      have vx2 : Val K st H2 x (errD .zd) := by
        cases vx with
        | tup h r =>
          cases r with
          | cons a b =>
            cases a
            cases b with
            | cons a b =>
              cases a
              cases b
              exact .tup (by rw [← hH2]; exact sqT_set (s1 _ _ upd_same) h) (.cons (.str _) (.cons .non .nil))
      refine ⟨rfl, ⟨_, hd2⟩, _, rfl, iteF ⟨rfl, ⟨_, hd2⟩, _, rfl, iteF ?_⟩⟩
      refine ⟨_, rfl, l, _, rfl, .inl (SqL.of hl2), rfl, _, rfl, ite2 (fun h0 => absurd (int_eq h0) (by show ¬ ((1 : Nat) : Int) = 0; decide)) (fun _ => ?_)⟩
      refine ⟨_, rfl, l, _, rfl, .inl (SqL.of hl2), _, _, rfl, rfl, _, rfl, ite2 (fun h0 => absurd (of_decide_eq_true h0) (by show ¬ (1 : Int) < ((1 : Nat) : Int); decide)) (fun _ => ?_)⟩
      exact ⟨_, rfl, l, _, 0, x, rfl, rfl, SqL.of hl2, atI_nat (j := 0) rfl, k _ _ sH vx2⟩
end
end K00

set_option Elab.async false
set_option linter.all false
set_option maxRecDepth 100000
set_option maxHeartbeats 4000000
namespace K00
open PySem L2 L2H HotX
/-- a def that may raise, some of its parameters left to their defaults -/
structure CalleeR (P : Program) (w : World) (K : PySem.W.Frag) (mg : Str → Option Value) (base : Heap) (k : Nat) (x : Str) (ps : List Str) (dvs : List V) (sp : Sp) : Prop where
  go : ∃ (f : Addr) (fd : FuncData) (ds : List Value), FnOk P w K mg base (L2N.CX P w) k f fd ps sp ∧ mg x = some (.ref f) ∧ PySem.W.keepIn K (.ref f) = true ∧ Vals dvs ds ∧ Binds K fd ps ds
section
open PyProof.Rows
theorem pe_fnS {X : Cx} {k : Nat} {x : Str} {ps : List Str} {dvs : List V} {sp : Sp} {W : WX} {e : Expr} {es : List Expr} {t : TA} {p pos : Pos} (C : CalleeR X.prog X.w X.K X.mg X.base k x ps dvs sp) (hr : Room k X.A) (hg : Gl X x) (tk : L2N.Takes X W)
    (hb : PA X (e :: es) t) (hd : (x == ("__debug__" : Str)) = false := by decide) (hst : starEach (e :: es) X.env = (false, eval e X.env) :: starEach es X.env := by rfl) (hpl : (backTo pos (starEach es X.env)).any (·.1) = false := by rfl) :
    PE X (.Call (.Name x p) (e :: es) [] pos) (tCallSD sp dvs (WE W) t) := by
  obtain ⟨f, fd, ds, F, hm, hk, hv, hbd⟩ := C.go
  exact pe_callSD F hr hg hm hk hbd hv (fun σ => L2N.passAt tk σ) hb hd hst hpl
theorem tk0 {X : Cx} : L2N.Takes X (fun _ _ _ _ => False) := fun _ _ x => by
  obtain ⟨_, _, _, _, _, _, _, _, _, _, _, _, _, _, _, _, z⟩ := x
  exact z.elim
theorem hot_of {X : Cx} {a : Addr} {oe : Obj} {cls : Value} {d : Option Addr} {pn : List (Addr × Obj)} (hz : L2N.Zn cls d oe) (hf : ∃ vs, oe.data = .fields vs) : Hot1 (X.suite a ((a, oe) :: pn)).A (a, oe) := by
  obtain ⟨vs, e⟩ := hf
  exact ⟨rfl, vs, e, hz.2.2 vs e⟩
end
def tsC (K : PySem.W.Frag) (CW CZ : Addr) : Addr → Value → Option Addr → TS := fun a cls d D σ H => ∀ oe : Obj, oe.cls = cls → oe.dict = d → (∃ vs, oe.data = .fields vs) →
  tRet (fun σ H Q => tVar 4 σ H fun v H1 => spRefused K CW CZ (a, oe) [v] H1 Q (fun _ _ _ => False)) D σ H
def fineW : Nat → D → D → Prop
  | 0, d, e => fineI d e
  | 8, d, e => fineT d e
  | 9, _, _ => True
  | _, d, e => fineR d e
def toldD (way : Nat) (d e : D) : D := match fltD way d e with
  | some g => errD g
  | none => .tup [.str "told", ansD way d e]
def spCall (K : PySem.W.Frag) : Sp := fun vs H Q _ => ∃ (st : Addr) (way : Nat) (v x : V) (d e : D), vs = [.int (way : Int), v, x] ∧ way ≤ 9 ∧ StAt H st ∧ Val K st H v d ∧ Val K st H x e ∧ fineW way d e ∧ ∀ (y : V) (H' : Hp), Same H H' → Val K st H' y (toldD way d e) → Q y H'
theorem eqT {i j : Int} {A B : Prop} (h : i = j) (a : A) : if decide (V.int i = V.int j) = true then A else B := by
  rw [decide_eq_true (by rw [h])]
  exact iteT a
theorem eqF {i j : Int} {A B : Prop} (h : i ≠ j) (b : B) : if decide (V.int i = V.int j) = true then A else B := by
  rw [decide_eq_false (fun z => h (V.int.inj z))]
  exact iteF b
section
variable {P : Program} {w : World} {K : PySem.W.Frag} {mg : Str → Option Value} {base : Heap} {CW CZ CF : Addr}
abbrev s_call : Stmt := top 75
theorem sc_call : FnScope ["_law_way", "_law_one", "_law_two", "_law_told", "_law_e"] ["_law_way", "_law_one", "_law_two"] (defScope s_call) := ⟨rfl, rfl, rfl, by decide +kernel, rfl, by decide +kernel, by decide +kernel⟩
theorem ok_call {f : Addr} {fd : FuncData} (F : Fun K "_law_call" "_law_call" s_call f fd) (gF : mg "FrameError" = some (.ref CF)) (tW : PySem.W.exmOne K (.ref CW) (.ref CF) = some true) (tZ : PySem.W.exmOne K (.ref CZ) (.ref CF) = some true)
    (c_refused : CalleeP P w K mg base 2 "_law_refused" ["_law_e"] (spRefused K CW CZ))
    (c_p_ratio : CalleeR P w K mg base 5 "ratio" ["numerator", "denominator"] [] (spApi K CW CZ 0 true fineI)) (c_p_ratio1 : CalleeR P w K mg base 5 "ratio" ["numerator", "denominator"] [.int 1] (spApi K CW CZ 0 true fineI))
    (c_p_add : CalleeR P w K mg base 7 "add" ["one", "other"] [] (spApi K CW CZ 1 true fineR)) (c_p_subtract : CalleeR P w K mg base 7 "subtract" ["one", "other"] [] (spApi K CW CZ 2 true fineR))
    (c_p_multiply : CalleeR P w K mg base 7 "multiply" ["one", "other"] [] (spApi K CW CZ 3 true fineR)) (c_p_divide : CalleeR P w K mg base 7 "divide" ["one", "other"] [] (spApi K CW CZ 4 true fineR))
    (c_p_compare : CalleeR P w K mg base 7 "compare" ["one", "other"] [] (spApi K CW CZ 5 true fineR)) (c_p_negate : CalleeR P w K mg base 6 "negate" ["one"] [] (spApi K CW CZ 6 false fineR))
    (c_p_sign : CalleeR P w K mg base 6 "sign" ["one"] [] (spApi K CW CZ 7 false fineR)) (c_p_total : CalleeR P w K mg base 6 "total" ["values"] [] (spApi K CW CZ 8 false fineT)) :
    FnOk P w K mg base CX0 8 f fd ["_law_way", "_law_one", "_law_two"] (spCall K) := by
  refine F.ok sc_call (fun vs H Q E h => ?_) (fun cdv A outer s H vs Q E hr h => ?_)
  · obtain ⟨_, _, _, _, _, _, rfl, _⟩ := h
    rfl
  · obtain ⟨st, way, v, x, d, e, rfl, hw, hS, hv, hx, hf, k⟩ := h
    refine ⟨_, (pss_cons (L2N.ps_try_as (i := 4) (c := .ref CF) (ts := tsC K CW CZ) (Wout := fun _ _ _ _ => False) rfl rfl sc_call.nd rfl rfl ⟨rfl, by decide, .inl gF⟩ tk0 (fun W pn xe tk _ => (pss_one (ps_if (pt_cmpR op_eq (pv 0) pe_int (nomark _)) (pss_one (ps_set (i := 3) sc_call.nd rfl (Or.inl rfl) (pe_fnS c_p_ratio (hr.mono (by decide)) (by rfl) tk (pa_cons (pv 1) (pa_cons (pv 2) pa_nil))))) (pss_one (ps_if (pt_cmpR op_eq (pv 0) pe_int (nomark _)) (pss_one (ps_set (i := 3) sc_call.nd rfl (Or.inl rfl) (pe_fnS c_p_add (hr.mono (by decide)) (by rfl) tk (pa_cons (pv 1) (pa_cons (pv 2) pa_nil))))) (pss_one (ps_if (pt_cmpR op_eq (pv 0) pe_int (nomark _)) (pss_one (ps_set (i := 3) sc_call.nd rfl (Or.inl rfl) (pe_fnS c_p_subtract (hr.mono (by decide)) (by rfl) tk (pa_cons (pv 1) (pa_cons (pv 2) pa_nil))))) (pss_one (ps_if (pt_cmpR op_eq (pv 0) pe_int (nomark _)) (pss_one (ps_set (i := 3) sc_call.nd rfl (Or.inl rfl) (pe_fnS c_p_multiply (hr.mono (by decide)) (by rfl) tk (pa_cons (pv 1) (pa_cons (pv 2) pa_nil))))) (pss_one (ps_if (pt_cmpR op_eq (pv 0) pe_int (nomark _)) (pss_one (ps_set (i := 3) sc_call.nd rfl (Or.inl rfl) (pe_fnS c_p_divide (hr.mono (by decide)) (by rfl) tk (pa_cons (pv 1) (pa_cons (pv 2) pa_nil))))) (pss_one (ps_if (pt_cmpR op_eq (pv 0) pe_int (nomark _)) (pss_one (ps_set (i := 3) sc_call.nd rfl (Or.inl rfl) (pe_fnS c_p_compare (hr.mono (by decide)) (by rfl) tk (pa_cons (pv 1) (pa_cons (pv 2) pa_nil))))) (pss_one (ps_if (pt_cmpR op_eq (pv 0) pe_int (nomark _)) (pss_one (ps_set (i := 3) sc_call.nd rfl (Or.inl rfl) (pe_fnS c_p_negate (hr.mono (by decide)) (by rfl) tk (pa_cons (pv 1) pa_nil)))) (pss_one (ps_if (pt_cmpR op_eq (pv 0) pe_int (nomark _)) (pss_one (ps_set (i := 3) sc_call.nd rfl (Or.inl rfl) (pe_fnS c_p_sign (hr.mono (by decide)) (by rfl) tk (pa_cons (pv 1) pa_nil)))) (pss_one (ps_if (pt_cmpR op_eq (pv 0) pe_int (nomark _)) (pss_one (ps_set (i := 3) sc_call.nd rfl (Or.inl rfl) (pe_fnS c_p_total (hr.mono (by decide)) (by rfl) tk (pa_cons (pv 1) pa_nil)))) (pss_one (ps_set (i := 3) sc_call.nd rfl (Or.inl rfl) (pe_fnS c_p_ratio1 (hr.mono (by decide)) (by rfl) tk (pa_cons (pv 1) pa_nil))))))))))))))))))))))) (fun a oe cls d pn hz hf => ⟨fun pins s σ H D I h => (pss_one (ps_ret (pe_fnP c_refused ⟨(hr.mono (by decide) : Room 2 _).dp, (hr.mono (by decide) : Room 2 _).un⟩ (List.Mem.head _) (hot_of hz hf) (by rfl) (pv 4)))).run pins s σ H D I (h oe hz.1 hz.2.1 hf)⟩))
  (pss_one (ps_ret (pe_tup (pa_cons pe_str (pa_cons (pv 3) pa_nil)))))), ?_⟩
    have out : ∀ (D : Ends), D.rt = Q → ∀ g, fltD way d e = some g → OutF CW CZ g H (WE (wAs K (.ref CF) 4 (tsC K CW CZ) (fun _ _ _ _ => False) D) [some (.int (way : Int)), some v, some x, none, none]) := by
      intro D hD g hg
      have kk : ∀ (y : V) (H' : Hp), Same H H' → Val K st H' y (errD g) → Q y H' := fun y H' s1 hy => k y H' s1 (by unfold toldD; rw [hg]; exact hy)
      cases g with
      | wk z =>
        intro H' dd s1 hd
        refine ⟨true, tW, fun _ a0 _ => ?_, fun q => Bool.noConfusion q⟩
        intro oe h1 h2 h3
        refine ⟨_, rfl, st, dd, CW, .wk z, _, _, rfl, ⟨h1, h2, h3⟩, .wk z, upd_same, (hS.same s1).same (Same.new hd), fun y H2 s2 vy => ?_⟩
        show D.rt y H2
        rw [hD]
        exact kk y H2 ((s1.trans (Same.new hd)).trans s2) vy
      | zd =>
        intro H' dd s1 hd
        refine ⟨true, tZ, fun _ a0 _ => ?_, fun q => Bool.noConfusion q⟩
        intro oe h1 h2 h3
        refine ⟨_, rfl, st, dd, CZ, .zd, _, _, rfl, ⟨h1, h2, h3⟩, .zd, upd_same, (hS.same s1).same (Same.new hd), fun y H2 s2 vy => ?_⟩
        show D.rt y H2
        rw [hD]
        exact kk y H2 ((s1.trans (Same.new hd)).trans s2) vy
    have fin : fltD way d e = none → ∀ (y : V) (H1 : Hp), Same H H1 → Val K st H1 y (ansD way d e) → tRet (tTup (tCons (tC (.str "told")) (tCons (tVar 3) tNil))) { nx := fun _ H' => Q .non H', rt := Q } [some (.int (way : Int)), some v, some x, some y, none] H1 := fun hn y H1 s1 vy => by
      refine ⟨_, rfl, by show 2 ≤ sizeLine; decide, fun p hp => k _ _ (s1.trans (Same.new hp)) ?_⟩
      unfold toldD
      rw [hn]
      exact .tup (SqT.of upd_same) (.cons (.str _) (.cons (vy.same (Same.new hp)) .nil))
    have hw' : way = 0 ∨ way = 1 ∨ way = 2 ∨ way = 3 ∨ way = 4 ∨ way = 5 ∨ way = 6 ∨ way = 7 ∨ way = 8 ∨ way = 9 := by omega
    rcases hw' with rfl | rfl | rfl | rfl | rfl | rfl | rfl | rfl | rfl | rfl
    · exact ⟨_, rfl, rfl, _, rfl, eqT rfl ⟨_, rfl, _, rfl, st, v, x, d, e, rfl, hv, hx, hf, out _ rfl, fun hn y H1 s1 vy => fin hn y H1 s1 vy⟩⟩
    · exact ⟨_, rfl, rfl, _, rfl, eqF (by decide) ⟨_, rfl, rfl, _, rfl, eqT rfl ⟨_, rfl, _, rfl, st, v, x, d, e, rfl, hv, hx, hf, out _ rfl, fun hn y H1 s1 vy => fin hn y H1 s1 vy⟩⟩⟩
    · exact ⟨_, rfl, rfl, _, rfl, eqF (by decide) ⟨_, rfl, rfl, _, rfl, eqF (by decide) ⟨_, rfl, rfl, _, rfl, eqT rfl ⟨_, rfl, _, rfl, st, v, x, d, e, rfl, hv, hx, hf, out _ rfl, fun hn y H1 s1 vy => fin hn y H1 s1 vy⟩⟩⟩⟩
    · exact ⟨_, rfl, rfl, _, rfl, eqF (by decide) ⟨_, rfl, rfl, _, rfl, eqF (by decide) ⟨_, rfl, rfl, _, rfl, eqF (by decide) ⟨_, rfl, rfl, _, rfl, eqT rfl ⟨_, rfl, _, rfl, st, v, x, d, e, rfl, hv, hx, hf, out _ rfl, fun hn y H1 s1 vy => fin hn y H1 s1 vy⟩⟩⟩⟩⟩
    · exact ⟨_, rfl, rfl, _, rfl, eqF (by decide) ⟨_, rfl, rfl, _, rfl, eqF (by decide) ⟨_, rfl, rfl, _, rfl, eqF (by decide) ⟨_, rfl, rfl, _, rfl, eqF (by decide) ⟨_, rfl, rfl, _, rfl, eqT rfl ⟨_, rfl, _, rfl, st, v, x, d, e, rfl, hv, hx, hf, out _ rfl, fun hn y H1 s1 vy => fin hn y H1 s1 vy⟩⟩⟩⟩⟩⟩
    · exact ⟨_, rfl, rfl, _, rfl, eqF (by decide) ⟨_, rfl, rfl, _, rfl, eqF (by decide) ⟨_, rfl, rfl, _, rfl, eqF (by decide) ⟨_, rfl, rfl, _, rfl, eqF (by decide) ⟨_, rfl, rfl, _, rfl, eqF (by decide) ⟨_, rfl, rfl, _, rfl, eqT rfl ⟨_, rfl, _, rfl, st, v, x, d, e, rfl, hv, hx, hf, out _ rfl, fun hn y H1 s1 vy => fin hn y H1 s1 vy⟩⟩⟩⟩⟩⟩⟩
    · exact ⟨_, rfl, rfl, _, rfl, eqF (by decide) ⟨_, rfl, rfl, _, rfl, eqF (by decide) ⟨_, rfl, rfl, _, rfl, eqF (by decide) ⟨_, rfl, rfl, _, rfl, eqF (by decide) ⟨_, rfl, rfl, _, rfl, eqF (by decide) ⟨_, rfl, rfl, _, rfl, eqF (by decide) ⟨_, rfl, rfl, _, rfl, eqT rfl ⟨_, rfl, st, v, x, d, e, rfl, hv, hx, hf, out _ rfl, fun hn y H1 s1 vy => fin hn y H1 s1 vy⟩⟩⟩⟩⟩⟩⟩⟩
    · exact ⟨_, rfl, rfl, _, rfl, eqF (by decide) ⟨_, rfl, rfl, _, rfl, eqF (by decide) ⟨_, rfl, rfl, _, rfl, eqF (by decide) ⟨_, rfl, rfl, _, rfl, eqF (by decide) ⟨_, rfl, rfl, _, rfl, eqF (by decide) ⟨_, rfl, rfl, _, rfl, eqF (by decide) ⟨_, rfl, rfl, _, rfl, eqF (by decide) ⟨_, rfl, rfl, _, rfl, eqT rfl ⟨_, rfl, st, v, x, d, e, rfl, hv, hx, hf, out _ rfl, fun hn y H1 s1 vy => fin hn y H1 s1 vy⟩⟩⟩⟩⟩⟩⟩⟩⟩
    · exact ⟨_, rfl, rfl, _, rfl, eqF (by decide) ⟨_, rfl, rfl, _, rfl, eqF (by decide) ⟨_, rfl, rfl, _, rfl, eqF (by decide) ⟨_, rfl, rfl, _, rfl, eqF (by decide) ⟨_, rfl, rfl, _, rfl, eqF (by decide) ⟨_, rfl, rfl, _, rfl, eqF (by decide) ⟨_, rfl, rfl, _, rfl, eqF (by decide) ⟨_, rfl, rfl, _, rfl, eqF (by decide) ⟨_, rfl, rfl, _, rfl, eqT rfl ⟨_, rfl, st, v, x, d, e, rfl, hv, hx, hf, out _ rfl, fun hn y H1 s1 vy => fin hn y H1 s1 vy⟩⟩⟩⟩⟩⟩⟩⟩⟩⟩
    · have e1 : fltD 0 d (.int 1) = fltD 9 d e := by
        show (if isIntD d = true then (if true = true then (if (1 : Int) = 0 then some Flt.zd else none) else some (.wk "denominator")) else some (.wk "numerator")) = (if isIntD d = true then none else some (Flt.wk "numerator"))
        rw [if_pos rfl, if_neg (show ¬ (1 : Int) = 0 by decide)]
      refine ⟨_, rfl, rfl, _, rfl, eqF (by decide) ⟨_, rfl, rfl, _, rfl, eqF (by decide) ⟨_, rfl, rfl, _, rfl, eqF (by decide) ⟨_, rfl, rfl, _, rfl, eqF (by decide) ⟨_, rfl, rfl, _, rfl, eqF (by decide) ⟨_, rfl, rfl, _, rfl, eqF (by decide) ⟨_, rfl, rfl, _, rfl, eqF (by decide) ⟨_, rfl, rfl, _, rfl, eqF (by decide) ⟨_, rfl, rfl, _, rfl, eqF (by decide) ?_⟩⟩⟩⟩⟩⟩⟩⟩⟩
      refine ⟨_, rfl, st, v, .int 1, d, .int 1, rfl, hv, .int 1, fun i hi => ?_, fun g hg => out _ rfl g (e1 ▸ hg), fun hn y H1 s1 vy => fin (e1 ▸ hn) y H1 s1 vy⟩
      cases hi
      decide
end
end K00

set_option Elab.async false
set_option linter.all false
set_option maxRecDepth 100000
set_option maxHeartbeats 4000000
namespace K00
open PySem L2
/-- what is asked for of the two arguments of an ask -/
structure Fine (d e : D) : Prop where
  bd : Bs d
  be : Bs e
  id : ∀ i, d = .int i → i.natAbs < 2 ^ 4400
  ie : ∀ i, e = .int i → i.natAbs < 2 ^ 4400
  sh : Sh d
  el : ∀ ds, d = .lst ds → ∀ x ∈ ds, Bd x
  sz : isRatiosD d = true → szs (lstD d) < 2 ^ 8000
theorem Bs.bd {d : D} (h : Bs d) : Bd d := fun n m e => ⟨sm9 (h n m e).1, sm9 (h n m e).2⟩
theorem Fine.w {d e : D} (f : Fine d e) : ∀ way, way ≤ 9 → fineW way d e := by
  intro way hw
  have hw' : way = 0 ∨ way = 1 ∨ way = 2 ∨ way = 3 ∨ way = 4 ∨ way = 5 ∨ way = 6 ∨ way = 7 ∨ way = 8 ∨ way = 9 := by omega
  rcases hw' with rfl | rfl | rfl | rfl | rfl | rfl | rfl | rfl | rfl | rfl
  · exact fun i hi => sm9 (f.ie i hi)
  · exact ⟨f.bd, f.be⟩
  · exact ⟨f.bd, f.be⟩
  · exact ⟨f.bd, f.be⟩
  · exact ⟨f.bd, f.be⟩
  · exact ⟨f.bd, f.be⟩
  · exact ⟨f.bd, f.be⟩
  · exact ⟨f.bd, f.be⟩
  · exact ⟨f.sh, f.sz⟩
  · trivial
def fltR (way : Nat) (d e : D) : Option Flt := if isRatioD d = true then (if way < 6 then (if isRatioD e = true then (if way = 4 then (if numD e = 0 then some .zd else none) else none) else some (.wk "other")) else none) else some (.wk "one")
theorem fltD_eq {way : Nat} {d e : D} (h1 : 1 ≤ way) (h7 : way ≤ 7) : fltD way d e = fltR way d e := by
  have hw' : way = 1 ∨ way = 2 ∨ way = 3 ∨ way = 4 ∨ way = 5 ∨ way = 6 ∨ way = 7 := by omega
  rcases hw' with rfl | rfl | rfl | rfl | rfl | rfl | rfl <;> rfl
def faultD (way : Nat) (d e : D) : D := match fltD way d e with
  | some g => errD g
  | none => .non
theorem faultD_some {way : Nat} {d e : D} {g : Flt} (h : fltD way d e = some g) : faultD way d e = errD g := by unfold faultD; rw [h]
theorem faultD_none {way : Nat} {d e : D} (h : fltD way d e = none) : faultD way d e = .non := by unfold faultD; rw [h]
def spFault (K : PySem.W.Frag) : Sp := fun vs H Q _ => ∃ (st : Addr) (way : Nat) (v x : V) (d e : D), vs = [.int (way : Int), v, x] ∧ way ≤ 9 ∧ Val K st H v d ∧ Val K st H x e ∧ Fine d e ∧ ∀ (y : V) (H' : Hp), Same H H' → Val K st H' y (faultD way d e) → Q y H'
theorem ne_n {a b : Nat} (h : a ≠ b) : (a : Int) ≠ (b : Int) := fun e => h (Int.ofNat.inj e)
section
variable {P : Program} {w : World} {K : PySem.W.Frag} {mg : Str → Option Value} {base : Heap}
abbrev s_fault : Stmt := top 76
theorem sc_fault : FnScope ["_law_way", "_law_one", "_law_two"] ["_law_way", "_law_one", "_law_two"] (defScope s_fault) := ⟨rfl, rfl, rfl, by decide +kernel, rfl, by decide +kernel, by decide +kernel⟩
theorem ok_fault {f : Addr} {fd : FuncData} (F : Fun K "_law_fault" "_law_fault" s_fault f fd) (T : TxtP K mg) (c_is_int : Callee P w K mg base CX0 1 "_law_is_int" ["_law_thing"] (spIsInt K)) (c_is_ratio : Callee P w K mg base CX0 2 "_law_is_ratio" ["_law_thing"] (spIsRatio K))
    (c_is_ratios : Callee P w K mg base CX0 3 "_law_is_ratios" ["_law_thing", "_law_many"] (spIsRatios K)) : FnOk P w K mg base CX0 4 f fd ["_law_way", "_law_one", "_law_two"] (spFault K) := by
  refine F.ok sc_fault (fun vs H Q E h => ?_) (fun cdv A outer s H vs Q E hr h => ?_)
  · obtain ⟨_, _, _, _, _, _, rfl, _⟩ := h
    rfl
  · obtain ⟨st, way, v, x, d, e, rfl, hw, hv, hx, hf, k⟩ := h
    refine ⟨_, (pss_cons (ps_if (pt_cmpR op_eq (pv 0) pe_int (nomark _)) (pss_cons (ps_if (PW.pt (pw_or (pt_not (pt_val (pe_callB call_isi (by rfl) T.isinstance (by decide +kernel) (pa_cons (pv 1) (pa_cons (pe_bltn (v := .ty "list") (by rfl) T.list (by decide +kernel) rfl) pa_nil))))) (pw_or1 (pt_not (pt_val (pe_fn c_is_ratios (hr.mono (by decide)) (by rfl) pass0 (pa_cons (pv 1) (pa_cons (pe_callB call_len_seq (by rfl) T.len PySem.boot_len (pa_cons (pv 1) pa_nil)) pa_nil)))))))) (pss_one (ps_ret (pe_tup (pa_cons pe_str (pa_cons pe_str pa_nil))))) pss_nil)
  (pss_one (ps_ret pe_non))) pss_nil)
  (pss_cons (ps_if (PW.pt (pw_or (pt_cmpR op_eq (pv 0) pe_int (nomark _)) (pw_or1 (pt_cmpR op_eq (pv 0) pe_int (nomark _))))) (pss_cons (ps_if (pt_not (pt_val (pe_fn c_is_int (hr.mono (by decide)) (by rfl) pass0 (pa_cons (pv 1) pa_nil)))) (pss_one (ps_ret (pe_tup (pa_cons pe_str (pa_cons pe_str pa_nil))))) pss_nil)
  (pss_cons (ps_if (PW.pt (pw_and (pt_cmpR op_eq (pv 0) pe_int (nomark _)) (pw_and1 (pt_not (pt_val (pe_fn c_is_int (hr.mono (by decide)) (by rfl) pass0 (pa_cons (pv 2) pa_nil))))))) (pss_one (ps_ret (pe_tup (pa_cons pe_str (pa_cons pe_str pa_nil))))) pss_nil)
  (pss_cons (ps_if (PW.pt (pw_and (pt_cmpR op_eq (pv 0) pe_int (nomark _)) (pw_and1 (pt_cmpR op_eq (pv 2) pe_int (nomark _))))) (pss_one (ps_ret (pe_tup (pa_cons pe_str (pa_cons pe_non pa_nil))))) pss_nil)
  (pss_one (ps_ret pe_non))))) pss_nil)
  (pss_cons (ps_if (pt_not (pt_val (pe_fn c_is_ratio (hr.mono (by decide)) (by rfl) pass0 (pa_cons (pv 1) pa_nil)))) (pss_one (ps_ret (pe_tup (pa_cons pe_str (pa_cons pe_str pa_nil))))) pss_nil)
  (pss_cons (ps_if (PW.pt (pw_and (pt_cmpR op_lt (pv 0) pe_int (nomark _)) (pw_and1 (pt_not (pt_val (pe_fn c_is_ratio (hr.mono (by decide)) (by rfl) pass0 (pa_cons (pv 2) pa_nil))))))) (pss_one (ps_ret (pe_tup (pa_cons pe_str (pa_cons pe_str pa_nil))))) pss_nil)
  (pss_cons (ps_if (PW.pt (pw_and (pt_cmpR op_eq (pv 0) pe_int (nomark _)) (pw_and1 (pt_cmpR op_eq (pe_ix ix_seq (pv 2) pe_int (fun _ _ => rfl)) pe_int (nomark _))))) (pss_one (ps_ret (pe_tup (pa_cons pe_str (pa_cons pe_non pa_nil))))) pss_nil)
  (pss_one (ps_ret pe_non))))))), ?_⟩
    have tell : ∀ (a b : Str) (H1 : Hp), Same H H1 → fltD way d e = some (.wk b) → a = "WrongKind" → ∀ p, H1 p = none → Q (.ref p) (upd H1 p (.tup [.str a, .str b])) := fun a b H1 s1 hg ha p hp =>
      k _ _ (s1.trans (Same.new hp)) (by rw [faultD_some hg, ha]; exact .tup (SqT.of upd_same) (.cons (.str _) (.cons (.str _) .nil)))
    have tellz : ∀ (H1 : Hp), Same H H1 → fltD way d e = some .zd → ∀ p, H1 p = none → Q (.ref p) (upd H1 p (.tup [.str "ZeroDivisor", .non])) := fun H1 s1 hg p hp =>
      k _ _ (s1.trans (Same.new hp)) (by rw [faultD_some hg]; exact .tup (SqT.of upd_same) (.cons (.str _) (.cons .non .nil)))
    have good : ∀ (H1 : Hp), Same H H1 → fltD way d e = none → Q .non H1 := fun H1 s1 hg => k _ _ s1 (by rw [faultD_none hg]; exact .non)
    have sz2 : ([V.non, V.non] : List V).length ≤ sizeLine := by show 2 ≤ sizeLine; decide
    by_cases h8 : way = 8
    · subst h8
      have ef : fltD 8 d e = if isRatiosD d = true then none else some (.wk "values") := rfl
      refine ⟨_, rfl, rfl, _, rfl, eqT rfl ⟨_, rfl, _, _, _, _, _, rfl, .ty _, hv.ty, isC_kit .list _, _, rfl, ?_⟩⟩
      cases hv with
      | non => exact iteT (iteT ⟨sz2, tell _ _ H (Same.refl H) ef rfl⟩)
      | bl b => exact iteT (iteT ⟨sz2, tell _ _ H (Same.refl H) ef rfl⟩)
      | int i => exact iteT (iteT ⟨sz2, tell _ _ H (Same.refl H) ef rfl⟩)
      | str s => exact iteT (iteT ⟨sz2, tell _ _ H (Same.refl H) ef rfl⟩)
      | tup h r => exact iteT (iteT ⟨sz2, tell _ _ H (Same.refl H) ef rfl⟩)
      | dct n h => exact iteT (iteT ⟨sz2, tell _ _ H (Same.refl H) ef rfl⟩)
      | @lst a xs ds n h r =>
        have hlen : xs.length = ds.length := r.length
        refine iteF ⟨_, rfl, _, rfl, a, xs, rfl, .inl h, st, _, _, _, rfl, .lst n h r, hf.el, fun H1 s1 => ⟨_, rfl, ?_⟩⟩
        have eb : (decide ((ds.length : Int) = (xs.length : Int)) && ds.all isRatioD) = isRatiosD (.lst ds) := by
          rw [hlen, decide_eq_true rfl, Bool.true_and]
          rfl
        show if (!(decide ((ds.length : Int) = (xs.length : Int)) && ds.all isRatioD)) = true then _ else _
        rw [eb]
        by_cases c : isRatiosD (.lst ds) = true
        · rw [c]
          rw [if_pos c] at ef
          exact iteF (good _ s1 ef)
        · rw [if_neg c] at ef
          rw [Bool.not_eq_true] at c
          rw [c]
          exact iteT ⟨sz2, tell _ _ _ s1 ef rfl⟩
    · refine ⟨_, rfl, rfl, _, rfl, eqF (ne_n (b := 8) h8) ?_⟩
      by_cases h09 : way = 0 ∨ way = 9
      · have body : ∀ {B : Prop}, (way = 0 → fltD way d e = if isIntD d = true then (if isIntD e = true then (if intD e = 0 then some .zd else none) else some (.wk "denominator")) else some (.wk "numerator")) → True := fun _ => trivial
        have en : isIntD d = false → fltD way d e = some (.wk "numerator") := fun c => by
          rcases h09 with rfl | rfl
          · show (if isIntD d = true then _ else _) = _
            rw [if_neg (by rw [c]; exact Bool.false_ne_true)]
          · show (if isIntD d = true then _ else _) = _
            rw [if_neg (by rw [c]; exact Bool.false_ne_true)]
        have e9 : isIntD d = true → way = 9 → fltD way d e = none := fun c hw => by
          rw [hw]
          show (if isIntD d = true then _ else _) = _
          rw [if_pos c]
        have e0 : isIntD d = true → way = 0 → fltD way d e = if isIntD e = true then (if intD e = 0 then some .zd else none) else some (.wk "denominator") := fun c hw => by
          rw [hw]
          show (if isIntD d = true then _ else _) = _
          rw [if_pos c]
        rcases h09 with h0 | h9
        · subst h0
          refine ⟨_, rfl, rfl, _, rfl, eqT rfl (iteT ⟨_, rfl, st, v, d, rfl, hv, _, rfl, ?_⟩)⟩
          by_cases c1 : isIntD d = true
          · have e0 := e0 c1 rfl
            rw [c1]
            refine iteF ⟨_, rfl, rfl, _, rfl, eqT rfl ⟨_, rfl, st, x, e, rfl, hx, _, rfl, ?_⟩⟩
            by_cases c2 : isIntD e = true
            · rw [if_pos c2] at e0
              rw [c2]
              obtain ⟨m, rfl⟩ := isIntD_inv c2
              cases hx
              refine iteF ⟨_, rfl, rfl, _, rfl, eqT rfl ⟨_, rfl, rfl, _, rfl, ite2 (fun h0 => ?_) (fun h0 => ?_)⟩⟩
              · have m0 : m = 0 := int_eq h0
                exact ⟨sz2, tellz H (Same.refl H) (by rw [e0]; exact if_pos m0)⟩
              · have m0 : m ≠ 0 := int_ne h0
                exact good H (Same.refl H) (by rw [e0]; exact if_neg m0)
            · rw [if_neg c2] at e0
              rw [Bool.not_eq_true] at c2
              rw [c2]
              exact iteT ⟨sz2, tell _ _ H (Same.refl H) e0 rfl⟩
          · rw [Bool.not_eq_true] at c1
            rw [c1]
            exact iteT ⟨sz2, tell _ _ H (Same.refl H) (en c1) rfl⟩
        · subst h9
          refine ⟨_, rfl, rfl, _, rfl, eqF (by decide) ⟨_, rfl, rfl, _, rfl, eqT rfl ⟨_, rfl, st, v, d, rfl, hv, _, rfl, ?_⟩⟩⟩
          by_cases c1 : isIntD d = true
          · rw [c1]
            exact iteF ⟨_, rfl, rfl, _, rfl, eqF (by decide) (iteF ⟨_, rfl, rfl, _, rfl, eqF (by decide) (iteF (good H (Same.refl H) (e9 c1 rfl)))⟩)⟩
          · rw [Bool.not_eq_true] at c1
            rw [c1]
            exact iteT ⟨sz2, tell _ _ H (Same.refl H) (en c1) rfl⟩
      · have h0 : way ≠ 0 := fun z => h09 (.inl z)
        have h9 : way ≠ 9 := fun z => h09 (.inr z)
        have ef := fltD_eq (way := way) (d := d) (e := e) (by omega) (by omega)
        unfold fltR at ef
        refine ⟨_, rfl, rfl, _, rfl, eqF (ne_n (b := 0) h0) ⟨_, rfl, rfl, _, rfl, eqF (ne_n (b := 9) h9) ⟨_, rfl, st, v, d, rfl, hv, hf.bd.bd, fun H1 s1 => ⟨_, rfl, ?_⟩⟩⟩⟩
        by_cases c1 : isRatioD d = true
        · rw [if_pos c1] at ef
          rw [c1]
          refine iteF ⟨_, rfl, _, _, rfl, rfl, _, rfl, ite2 (fun l6 => ?_) (fun l6 => ?_)⟩
          · have l6' : way < 6 := by have := of_decide_eq_true l6; omega
            rw [if_pos l6'] at ef
            refine ⟨_, rfl, st, x, e, rfl, hx.same s1, hf.be.bd, fun H2 s2 => ⟨_, rfl, ?_⟩⟩
            by_cases c2 : isRatioD e = true
            · rw [if_pos c2] at ef
              rw [c2]
              refine iteF ⟨_, rfl, rfl, _, rfl, ?_⟩
              obtain ⟨n, m, rfl, _⟩ := isRatioD_inv c2
              by_cases h4 : way = 4
              · rw [if_pos h4] at ef
                subst h4
                refine eqT rfl ⟨_, rfl, ((hx.same s1).same s2).rat.i0 ⟨rfl, _, rfl, ite2 (fun z0 => ?_) (fun z0 => ?_)⟩⟩
                · exact ⟨sz2, tellz H2 (s1.trans s2) (by rw [ef]; exact if_pos (int_eq z0))⟩
                · exact good H2 (s1.trans s2) (by rw [ef]; exact if_neg (int_ne z0))
              · rw [if_neg h4] at ef
                exact eqF (ne_n (b := 4) h4) (iteF (good H2 (s1.trans s2) ef))
            · rw [if_neg c2] at ef
              rw [Bool.not_eq_true] at c2
              rw [c2]
              exact iteT ⟨sz2, tell _ _ H2 (s1.trans s2) ef rfl⟩
          · have l6' : ¬ way < 6 := fun z => l6 (decide_eq_true (by omega))
            rw [if_neg l6'] at ef
            exact iteF ⟨_, rfl, rfl, _, rfl, eqF (ne_n (b := 4) (by omega)) (iteF (good H1 s1 ef))⟩
        · rw [if_neg c1] at ef
          rw [Bool.not_eq_true] at c1
          rw [c1]
          exact iteT ⟨sz2, tell _ _ H1 s1 ef rfl⟩
end
end K00

set_option Elab.async false
set_option linter.all false
set_option maxRecDepth 100000
set_option maxHeartbeats 4000000
namespace K00
open PySem L2
theorem seqF_snoc : ∀ (l : List D) (r : D) (u w : Int), seqF u w (l ++ [r]) = ((seqF u w l).1 * denD r + numD r * (seqF u w l).2, (seqF u w l).2 * denD r)
  | [], _, _, _ => rfl
  | x :: l, r, u, w => seqF_snoc l r _ _
theorem seqF_sz : ∀ (l : List D) (u w : Int), (seqF u w l).1.natAbs + (seqF u w l).2.natAbs ≤ (u.natAbs + w.natAbs) * szs l
  | [], u, w => by
    show u.natAbs + w.natAbs ≤ (u.natAbs + w.natAbs) * 1
    omega
  | r :: l, u, w => by
    have ih := seqF_sz l (u * denD r + numD r * w) (w * denD r)
    show (seqF (u * denD r + numD r * w) (w * denD r) l).1.natAbs + (seqF (u * denD r + numD r * w) (w * denD r) l).2.natAbs ≤ (u.natAbs + w.natAbs) * (szD r * szs l)
    refine Nat.le_trans ih ?_
    rw [← Nat.mul_assoc]
    refine Nat.mul_le_mul_right _ ?_
    have a := Int.natAbs_add_le (u * denD r) (numD r * w)
    rw [Int.natAbs_mul, Int.natAbs_mul] at a
    rw [Int.natAbs_mul w]
    unfold szD
    have e : (u.natAbs + w.natAbs) * ((numD r).natAbs + (denD r).natAbs) = u.natAbs * (numD r).natAbs + u.natAbs * (denD r).natAbs + (w.natAbs * (numD r).natAbs + w.natAbs * (denD r).natAbs) := by grind
    rw [e, Nat.mul_comm w.natAbs (numD r).natAbs]
    omega
theorem szs_take : ∀ {ds : List D} (i : Nat), (∀ r ∈ ds, isRatioD r = true) → szs (ds.take i) ≤ szs ds
  | ds, 0, h => szs_one h
  | [], i + 1, _ => Nat.le_refl _
  | r :: t, i + 1, h => Nat.mul_le_mul_left _ (szs_take i fun x hx => h x (by simp [hx]))
theorem szD_mem : ∀ {ds : List D} {r : D}, (∀ r ∈ ds, isRatioD r = true) → r ∈ ds → szD r ≤ szs ds
  | x :: t, r, h, hm => by
    have hx := szD_one (h x (by simp))
    have ht := szs_one (ds := t) fun y hy => h y (by simp [hy])
    rcases List.mem_cons.mp hm with e | hm
    · rw [e]
      exact Nat.le_mul_of_pos_right _ ht
    · exact Nat.le_trans (szD_mem (fun y hy => h y (by simp [hy])) hm) (Nat.le_mul_of_pos_left _ hx)
theorem add9 {a b : Int} (h : a.natAbs < 2 ^ 8800) (g : b.natAbs < 2 ^ 8800) : (a + b).natAbs < 2 ^ 9000 := by
  have x := Int.natAbs_add_le a b
  have e : (2 : Nat) ^ 8801 = 2 ^ 8800 * 2 := Nat.pow_succ ..
  exact pow_up (k := 8801) (by omega) (by decide)
theorem sub9 {a b : Int} (h : a.natAbs < 2 ^ 8800) (g : b.natAbs < 2 ^ 8800) : (a - b).natAbs < 2 ^ 9000 := by
  rw [Int.sub_eq_add_neg]
  exact add9 h (by rw [Int.natAbs_neg]; exact g)
theorem m88 {a b : Int} (h : a.natAbs < 2 ^ 4400) (g : b.natAbs < 2 ^ 4400) : (a * b).natAbs < 2 ^ 8800 := wide_lt h g
/-- a right fraction: its numbers are not too great -/
structure Fr (f : Int × Int) : Prop where
  n : f.1.natAbs < 2 ^ 9000
  d : f.2.natAbs < 2 ^ 9000
  z : f.2 ≠ 0
theorem ratD_rat {f : Int × Int} (h : f.2 ≠ 0) : isRatioD (ratD f) = true := by
  have l := lo_low (u := f.1) (d := f.2) h
  show (decide (1 ≤ lowD f.1 f.2) && decide (Nat.gcd (lowN f.1 f.2).natAbs (lowD f.1 f.2).natAbs = 1)) = true
  rw [decide_eq_true (by have := l.pos; omega), decide_eq_true l.cop]
  rfl
theorem Fr.bd {f : Int × Int} (h : Fr f) : Bd (ratD f) := fun n m e => by
  cases e
  exact ⟨Nat.lt_of_le_of_lt low_le_n h.n, Nat.lt_of_le_of_lt (low_le_d h.z) h.d⟩
theorem mz {n a m b : Int} (l1 : Lo n a) (l2 : Lo m b) : a * b ≠ 0 := by
  have := Int.mul_pos l1.pos l2.pos
  omega
theorem mz0 {n a m : Int} (l1 : Lo n a) (h : m ≠ 0) : a * m ≠ 0 := by
  have p := l1.pos
  exact Int.mul_ne_zero (by omega) h
theorem zd_none {m : Int} (h : (if m = 0 then some Flt.zd else none) = none) : m ≠ 0 := fun z => by
  rw [if_pos z] at h
  cases h
theorem frac_ok {way : Nat} {d e : D} (hf : Fine d e) (hw : way ≤ 9) (h5 : way ≠ 5) (h7 : way ≠ 7) (hn : fltD way d e = none) : Fr (fracD way d e) := by
  have hw' : way = 0 ∨ way = 1 ∨ way = 2 ∨ way = 3 ∨ way = 4 ∨ way = 6 ∨ way = 8 ∨ way = 9 := by omega
  have two : rat2 d e = none → ∃ n a m b, d = .tup [.int n, .int a] ∧ e = .tup [.int m, .int b] ∧ Lo n a ∧ Lo m b ∧ n.natAbs < 2 ^ 4400 ∧ a.natAbs < 2 ^ 4400 ∧ m.natAbs < 2 ^ 4400 ∧ b.natAbs < 2 ^ 4400 := fun h => by
    obtain ⟨c1, c2⟩ := rat2_none h
    obtain ⟨n, a, rfl, l1⟩ := isRatioD_inv c1
    obtain ⟨m, b, rfl, l2⟩ := isRatioD_inv c2
    obtain ⟨x1, x2⟩ := hf.bd _ _ rfl
    obtain ⟨x3, x4⟩ := hf.be _ _ rfl
    exact ⟨n, a, m, b, rfl, rfl, l1, l2, x1, x2, x3, x4⟩
  rcases hw' with rfl | rfl | rfl | rfl | rfl | rfl | rfl | rfl
  · have ef : fltD 0 d e = if isIntD d = true then (if isIntD e = true then (if intD e = 0 then some .zd else none) else some (.wk "denominator")) else some (.wk "numerator") := rfl
    rw [ef] at hn
    by_cases c1 : isIntD d = true
    · rw [if_pos c1] at hn
      by_cases c2 : isIntD e = true
      · rw [if_pos c2] at hn
        obtain ⟨n, rfl⟩ := isIntD_inv c1
        obtain ⟨m, rfl⟩ := isIntD_inv c2
        exact ⟨sm9 (hf.id n rfl), sm9 (hf.ie m rfl), zd_none hn⟩
      · rw [if_neg c2] at hn; cases hn
    · rw [if_neg c1] at hn; cases hn
  · obtain ⟨n, a, m, b, rfl, rfl, l1, l2, x1, x2, x3, x4⟩ := two hn
    exact ⟨add9 (m88 x1 x4) (m88 x3 x2), sm9m x2 x4, mz l1 l2⟩
  · obtain ⟨n, a, m, b, rfl, rfl, l1, l2, x1, x2, x3, x4⟩ := two hn
    exact ⟨sub9 (m88 x1 x4) (m88 x3 x2), sm9m x2 x4, mz l1 l2⟩
  · obtain ⟨n, a, m, b, rfl, rfl, l1, l2, x1, x2, x3, x4⟩ := two hn
    exact ⟨sm9m x1 x3, sm9m x2 x4, mz l1 l2⟩
  · have ef := fltD_eq (way := 4) (d := d) (e := e) (by decide) (by decide)
    rw [ef] at hn
    unfold fltR at hn
    by_cases c1 : isRatioD d = true
    · rw [if_pos c1, if_pos (by decide)] at hn
      by_cases c2 : isRatioD e = true
      · rw [if_pos c2, if_pos rfl] at hn
        obtain ⟨n, a, m, b, rfl, rfl, l1, l2, x1, x2, x3, x4⟩ := two (rat2_yes c1 c2)
        have m0 : m ≠ 0 := zd_none hn
        exact ⟨sm9m x1 x4, sm9m x2 x3, mz0 l1 m0⟩
      · rw [if_neg c2] at hn; cases hn
    · rw [if_neg c1] at hn; cases hn
  · have c1 : isRatioD d = true := by
      by_cases c : isRatioD d = true
      · exact c
      · have : fltD 6 d e = some (.wk "one") := if_neg c
        rw [this] at hn
        cases hn
    obtain ⟨n, a, rfl, l1⟩ := isRatioD_inv c1
    obtain ⟨x1, x2⟩ := hf.bd _ _ rfl
    exact ⟨by show (-n).natAbs < _; rw [Int.natAbs_neg]; exact sm9 x1, sm9 x2, by have := l1.pos; show a ≠ 0; omega⟩
  · have c1 : isRatiosD d = true := by
      by_cases c : isRatiosD d = true
      · exact c
      · have : fltD 8 d e = some (.wk "values") := if_neg c
        rw [this] at hn
        cases hn
    cases d with
    | lst ds =>
      have hr : ∀ r ∈ ds, isRatioD r = true := List.all_eq_true.mp c1
      have z := seqF_sz ds 0 1
      rw [show (0 : Int).natAbs + (1 : Int).natAbs = 1 by decide, Nat.one_mul] at z
      have hs := hf.sz c1
      have hs' : szs ds < 2 ^ 8000 := hs
      have a : (seqF 0 1 ds).1.natAbs < 2 ^ 9000 := pow_up (Nat.lt_of_le_of_lt (by omega) hs') (by decide)
      have b : (seqF 0 1 ds).2.natAbs < 2 ^ 9000 := pow_up (Nat.lt_of_le_of_lt (by omega) hs') (by decide)
      refine ⟨a, b, ?_⟩
      show (seqF 0 1 ds).2 ≠ 0
      rw [seqF_01]
      have := Dn_pos hr
      omega
    | _ => cases c1
  · have c1 : isIntD d = true := by
      by_cases c : isIntD d = true
      · exact c
      · have : fltD 9 d e = some (.wk "numerator") := if_neg c
        rw [this] at hn
        cases hn
    obtain ⟨n, rfl⟩ := isIntD_inv c1
    exact ⟨sm9 (hf.id n rfl), by show (1 : Int).natAbs < _; exact pow_up (k := 1) (by decide) (by decide), by show (1 : Int) ≠ 0; decide⟩
def spFrac (K : PySem.W.Frag) : Sp := fun vs H Q _ => ∃ (st : Addr) (way : Nat) (v x : V) (d e : D), vs = [.int (way : Int), v, x] ∧ way ≤ 9 ∧ way ≠ 5 ∧ way ≠ 7 ∧ Val K st H v d ∧ Val K st H x e ∧ Fine d e ∧ fltD way d e = none ∧
  ∀ p, H p = none → Q (.ref p) (upd H p (.lst [.int (fracD way d e).1, .int (fracD way d e).2]))
def spRight (K : PySem.W.Frag) : Sp := fun vs H Q _ => ∃ (st : Addr) (way : Nat) (v x t : V) (d e : D), vs = [.int (way : Int), v, x, t] ∧ way ≤ 9 ∧ Val K st H v d ∧ Val K st H x e ∧ Fine d e ∧ fltD way d e = none ∧ Val K st H t (ansD way d e) ∧ ∀ H', Same H H' → Q (.bl true) H'
def spAsDue (K : PySem.W.Frag) : Sp := fun vs H Q _ => ∃ (st a : Addr) (way : Nat) (v x t : V) (d e : D), vs = [.ref a, t] ∧ SqT K H a [.int (way : Int), v, x] ∧ way ≤ 9 ∧ Val K st H v d ∧ Val K st H x e ∧ Fine d e ∧ Val K st H t (toldD way d e) ∧ ∀ H', Same H H' → Q (.bl true) H'
section
variable {P : Program} {w : World} {K : PySem.W.Frag} {mg : Str → Option Value} {base : Heap}
abbrev s_fraction : Stmt := top 77
theorem sc_fraction : FnScope ["_law_way", "_law_one", "_law_two", "_law_up", "_law_down", "_law_part"] ["_law_way", "_law_one", "_law_two"] (defScope s_fraction) := ⟨rfl, rfl, rfl, by decide +kernel, rfl, by decide +kernel, by decide +kernel⟩
theorem ok_fraction {f : Addr} {fd : FuncData} (F : Fun K "_law_fraction" "_law_fraction" s_fraction f fd) : FnOk P w K mg base CX0 1 f fd ["_law_way", "_law_one", "_law_two"] (spFrac K) := by
  refine F.ok sc_fraction (fun vs H Q E h => ?_) (fun cdv A outer s H vs Q E hr h => ?_)
  · obtain ⟨_, _, _, _, _, _, rfl, _⟩ := h
    rfl
  · obtain ⟨st, way, v, x, d, e, rfl, hw, h5, h7, hv, hx, hf, hn, k⟩ := h
    refine ⟨_, (pss_cons (ps_if (pt_cmpR op_eq (pv 0) pe_int (nomark _)) (pss_one (ps_ret (pe_lst (pa_cons (pv 1) (pa_cons (pv 2) pa_nil))))) pss_nil)
  (pss_cons (ps_if (pt_cmpR op_eq (pv 0) pe_int (nomark _)) (pss_one (ps_ret (pe_lst (pa_cons (pv 1) (pa_cons pe_int pa_nil))))) pss_nil)
  (pss_cons (ps_if (pt_cmpR op_eq (pv 0) pe_int (nomark _)) (pss_one (ps_ret (pe_lst (pa_cons (pe_op op_add (pe_op op_mulW (pe_ix ix_seq (pv 1) pe_int (fun _ _ => rfl)) (pe_ix ix_seq (pv 2) pe_int (fun _ _ => rfl))) (pe_op op_mulW (pe_ix ix_seq (pv 2) pe_int (fun _ _ => rfl)) (pe_ix ix_seq (pv 1) pe_int (fun _ _ => rfl)))) (pa_cons (pe_op op_mulW (pe_ix ix_seq (pv 1) pe_int (fun _ _ => rfl)) (pe_ix ix_seq (pv 2) pe_int (fun _ _ => rfl))) pa_nil))))) pss_nil)
  (pss_cons (ps_if (pt_cmpR op_eq (pv 0) pe_int (nomark _)) (pss_one (ps_ret (pe_lst (pa_cons (pe_op op_sub (pe_op op_mulW (pe_ix ix_seq (pv 1) pe_int (fun _ _ => rfl)) (pe_ix ix_seq (pv 2) pe_int (fun _ _ => rfl))) (pe_op op_mulW (pe_ix ix_seq (pv 2) pe_int (fun _ _ => rfl)) (pe_ix ix_seq (pv 1) pe_int (fun _ _ => rfl)))) (pa_cons (pe_op op_mulW (pe_ix ix_seq (pv 1) pe_int (fun _ _ => rfl)) (pe_ix ix_seq (pv 2) pe_int (fun _ _ => rfl))) pa_nil))))) pss_nil)
  (pss_cons (ps_if (pt_cmpR op_eq (pv 0) pe_int (nomark _)) (pss_one (ps_ret (pe_lst (pa_cons (pe_op op_mulW (pe_ix ix_seq (pv 1) pe_int (fun _ _ => rfl)) (pe_ix ix_seq (pv 2) pe_int (fun _ _ => rfl))) (pa_cons (pe_op op_mulW (pe_ix ix_seq (pv 1) pe_int (fun _ _ => rfl)) (pe_ix ix_seq (pv 2) pe_int (fun _ _ => rfl))) pa_nil))))) pss_nil)
  (pss_cons (ps_if (pt_cmpR op_eq (pv 0) pe_int (nomark _)) (pss_one (ps_ret (pe_lst (pa_cons (pe_op op_mulW (pe_ix ix_seq (pv 1) pe_int (fun _ _ => rfl)) (pe_ix ix_seq (pv 2) pe_int (fun _ _ => rfl))) (pa_cons (pe_op op_mulW (pe_ix ix_seq (pv 1) pe_int (fun _ _ => rfl)) (pe_ix ix_seq (pv 2) pe_int (fun _ _ => rfl))) pa_nil))))) pss_nil)
  (pss_cons (ps_if (pt_cmpR op_eq (pv 0) pe_int (nomark _)) (pss_one (ps_ret (pe_lst (pa_cons (pe_un un_neg (pe_ix ix_seq (pv 1) pe_int (fun _ _ => rfl))) (pa_cons (pe_ix ix_seq (pv 1) pe_int (fun _ _ => rfl)) pa_nil))))) pss_nil)
  (pss_cons (ps_set (i := 3) sc_fraction.nd rfl (Or.inl rfl) pe_int)
  (pss_cons (ps_set (i := 4) sc_fraction.nd rfl (Or.inl rfl) pe_int)
  (pss_cons (ps_for PassesOwn.never rfl (pi_list (pv 1)) (pg_name (i := 5) sc_fraction.nd rfl (Or.inl rfl)) (pss_cons (ps_set (i := 3) sc_fraction.nd rfl (Or.inl rfl) (pe_op op_add (pe_op op_mulW (pv 3) (pe_ix ix_seq (pv 5) pe_int (fun _ _ => rfl))) (pe_op op_mulW (pe_ix ix_seq (pv 5) pe_int (fun _ _ => rfl)) (pv 4))))
  (pss_one (ps_set (i := 4) sc_fraction.nd rfl (Or.inl rfl) (pe_op op_mulW (pv 4) (pe_ix ix_seq (pv 5) pe_int (fun _ _ => rfl)))))))
  (pss_one (ps_ret (pe_lst (pa_cons (pv 3) (pa_cons (pv 4) pa_nil))))))))))))))), ?_⟩
    have hw' : way = 0 ∨ way = 9 ∨ way = 1 ∨ way = 2 ∨ way = 3 ∨ way = 4 ∨ way = 6 ∨ way = 8 := by omega
    have fr := frac_ok hf hw h5 h7 hn
    have s2 : ([V.non, V.non] : List V).length ≤ sizeLine := by show 2 ≤ sizeLine; decide
    have two : ∀ w', w' = way → w' = 1 ∨ w' = 2 ∨ w' = 3 ∨ w' = 4 → ∃ n a m b, d = .tup [.int n, .int a] ∧ e = .tup [.int m, .int b] ∧ RatV K H v n a ∧ RatV K H x m b ∧ n.natAbs < 2 ^ 9000 ∧ a.natAbs < 2 ^ 9000 ∧ m.natAbs < 2 ^ 9000 ∧ b.natAbs < 2 ^ 9000 := fun w' ew hw2 => by
      have ef := fltD_eq (way := way) (d := d) (e := e) (by omega) (by omega)
      rw [ef] at hn
      unfold fltR at hn
      by_cases c1 : isRatioD d = true
      · rw [if_pos c1, if_pos (by omega)] at hn
        by_cases c2 : isRatioD e = true
        · obtain ⟨n, a, rfl, l1⟩ := isRatioD_inv c1
          obtain ⟨m, b, rfl, l2⟩ := isRatioD_inv c2
          obtain ⟨x1, x2⟩ := hf.bd _ _ rfl
          obtain ⟨x3, x4⟩ := hf.be _ _ rfl
          exact ⟨n, a, m, b, rfl, rfl, hv.rat, hx.rat, sm9 x1, sm9 x2, sm9 x3, sm9 x4⟩
        · rw [if_neg c2] at hn; cases hn
      · rw [if_neg c1] at hn; cases hn
    rcases hw' with rfl | rfl | rfl | rfl | rfl | rfl | rfl | rfl
    · have ef : fltD 0 d e = if isIntD d = true then (if isIntD e = true then (if intD e = 0 then some .zd else none) else some (.wk "denominator")) else some (.wk "numerator") := rfl
      rw [ef] at hn
      by_cases c1 : isIntD d = true
      · rw [if_pos c1] at hn
        by_cases c2 : isIntD e = true
        · obtain ⟨n, rfl⟩ := isIntD_inv c1
          obtain ⟨m, rfl⟩ := isIntD_inv c2
          cases hv
          cases hx
          exact ⟨_, rfl, rfl, _, rfl, eqT rfl ⟨_, rfl, _, rfl, s2, k⟩⟩
        · rw [if_neg c2] at hn; cases hn
      · rw [if_neg c1] at hn; cases hn
    · have c1 : isIntD d = true := by
        by_cases c : isIntD d = true
        · exact c
        · have : fltD 9 d e = some (.wk "numerator") := if_neg c
          rw [this] at hn
          cases hn
      obtain ⟨n, rfl⟩ := isIntD_inv c1
      cases hv
      exact ⟨_, rfl, rfl, _, rfl, eqF (by decide) ⟨_, rfl, rfl, _, rfl, eqT rfl ⟨_, rfl, s2, k⟩⟩⟩
    · obtain ⟨n, a, m, b, rfl, rfl, r1, r2, bn, bd, bm, be⟩ := two 1 rfl (by decide)
      exact ⟨_, rfl, rfl, _, rfl, eqF (by decide) ⟨_, rfl, rfl, _, rfl, eqF (by decide) ⟨_, rfl, rfl, _, rfl, eqT rfl
        ⟨_, rfl, r1.i0 ⟨_, rfl, r2.i1 ⟨_, _, rfl, rfl, cm bn be, _, rfl, r2.i0 ⟨_, rfl, r1.i1 ⟨_, _, rfl, rfl, cm bm bd, _, _, rfl, rfl, _, rfl, r1.i1 ⟨_, rfl, r2.i1 ⟨_, _, rfl, rfl, cm bd be, s2, k⟩⟩⟩⟩⟩⟩⟩⟩⟩⟩
    · obtain ⟨n, a, m, b, rfl, rfl, r1, r2, bn, bd, bm, be⟩ := two 2 rfl (by decide)
      exact ⟨_, rfl, rfl, _, rfl, eqF (by decide) ⟨_, rfl, rfl, _, rfl, eqF (by decide) ⟨_, rfl, rfl, _, rfl, eqF (by decide) ⟨_, rfl, rfl, _, rfl, eqT rfl
        ⟨_, rfl, r1.i0 ⟨_, rfl, r2.i1 ⟨_, _, rfl, rfl, cm bn be, _, rfl, r2.i0 ⟨_, rfl, r1.i1 ⟨_, _, rfl, rfl, cm bm bd, _, _, rfl, rfl, _, rfl, r1.i1 ⟨_, rfl, r2.i1 ⟨_, _, rfl, rfl, cm bd be, s2, k⟩⟩⟩⟩⟩⟩⟩⟩⟩⟩⟩
    · obtain ⟨n, a, m, b, rfl, rfl, r1, r2, bn, bd, bm, be⟩ := two 3 rfl (by decide)
      exact ⟨_, rfl, rfl, _, rfl, eqF (by decide) ⟨_, rfl, rfl, _, rfl, eqF (by decide) ⟨_, rfl, rfl, _, rfl, eqF (by decide) ⟨_, rfl, rfl, _, rfl, eqF (by decide) ⟨_, rfl, rfl, _, rfl, eqT rfl
        ⟨_, rfl, r1.i0 ⟨_, rfl, r2.i0 ⟨_, _, rfl, rfl, cm bn bm, _, rfl, r1.i1 ⟨_, rfl, r2.i1 ⟨_, _, rfl, rfl, cm bd be, s2, k⟩⟩⟩⟩⟩⟩⟩⟩⟩⟩
    · obtain ⟨n, a, m, b, rfl, rfl, r1, r2, bn, bd, bm, be⟩ := two 4 rfl (by decide)
      exact ⟨_, rfl, rfl, _, rfl, eqF (by decide) ⟨_, rfl, rfl, _, rfl, eqF (by decide) ⟨_, rfl, rfl, _, rfl, eqF (by decide) ⟨_, rfl, rfl, _, rfl, eqF (by decide) ⟨_, rfl, rfl, _, rfl, eqF (by decide) ⟨_, rfl, rfl, _, rfl, eqT rfl
        ⟨_, rfl, r1.i0 ⟨_, rfl, r2.i1 ⟨_, _, rfl, rfl, cm bn be, _, rfl, r1.i1 ⟨_, rfl, r2.i0 ⟨_, _, rfl, rfl, cm bd bm, s2, k⟩⟩⟩⟩⟩⟩⟩⟩⟩⟩⟩
    · have c1 : isRatioD d = true := by
        by_cases c : isRatioD d = true
        · exact c
        · have : fltD 6 d e = some (.wk "one") := if_neg c
          rw [this] at hn
          cases hn
      obtain ⟨n, a, rfl, l1⟩ := isRatioD_inv c1
      have r1 := hv.rat
      exact ⟨_, rfl, rfl, _, rfl, eqF (by decide) ⟨_, rfl, rfl, _, rfl, eqF (by decide) ⟨_, rfl, rfl, _, rfl, eqF (by decide) ⟨_, rfl, rfl, _, rfl, eqF (by decide) ⟨_, rfl, rfl, _, rfl, eqF (by decide) ⟨_, rfl, rfl, _, rfl, eqF (by decide) ⟨_, rfl, rfl, _, rfl, eqT rfl
        ⟨_, rfl, r1.i0 ⟨_, rfl, _, rfl, r1.i1 ⟨s2, k⟩⟩⟩⟩⟩⟩⟩⟩⟩⟩
    · have c1 : isRatiosD d = true := by
        by_cases c : isRatiosD d = true
        · exact c
        · have : fltD 8 d e = some (.wk "values") := if_neg c
          rw [this] at hn
          cases hn
      cases hv with
      | @lst a xs ds n h r =>
        have hrr : ∀ r ∈ ds, isRatioD r = true := List.all_eq_true.mp c1
        have hs' : szs ds < 2 ^ 8000 := hf.sz c1
        have hlen : xs.length = ds.length := r.length
        refine ⟨_, rfl, rfl, _, rfl, eqF (by decide) ⟨_, rfl, rfl, _, rfl, eqF (by decide) ⟨_, rfl, rfl, _, rfl, eqF (by decide) ⟨_, rfl, rfl, _, rfl, eqF (by decide) ⟨_, rfl, rfl, _, rfl, eqF (by decide) ⟨_, rfl, rfl, _, rfl, eqF (by decide) ⟨_, rfl, rfl, _, rfl, eqF (by decide) ?_⟩⟩⟩⟩⟩⟩⟩
        refine ⟨_, rfl, a, rfl, ⟨_, h⟩, for_list (K := K) (a := a) (xs := xs) (fun i σ H' => H' = H ∧ ∃ z, σ = [some (.int 8), some (.ref a), some x, some (.int (seqF 0 1 (ds.take i)).1), some (.int (seqF 0 1 (ds.take i)).2), z]) ⟨rfl, none, rfl⟩ (fun i σ H' _ q => by rw [q.1]; exact h) ?_ ?_⟩
        · rintro i y σ H' hy ⟨rfl, z, rfl⟩
          obtain ⟨dy, hdy, vy⟩ := r.get hy
          have hm := List.mem_of_getElem? hdy
          obtain ⟨n1, m1, rfl, l1⟩ := isRatioD_inv (hrr dy hm)
          have ry := vy.rat
          have es : seqF 0 1 (ds.take (i + 1)) = ((seqF 0 1 (ds.take i)).1 * m1 + n1 * (seqF 0 1 (ds.take i)).2, (seqF 0 1 (ds.take i)).2 * m1) := by
            rw [List.take_add_one, hdy]
            exact seqF_snoc _ _ _ _
          have z1 := seqF_sz (ds.take i) 0 1
          rw [show (0 : Int).natAbs + (1 : Int).natAbs = 1 by decide, Nat.one_mul] at z1
          have z2 := szs_take (ds := ds) i hrr
          have z3 : n1.natAbs + m1.natAbs ≤ szs ds := szD_mem hrr hm
          obtain ⟨b1, b2⟩ := sz_lt (Nat.le_trans z1 z2) hs'
          obtain ⟨b3, b4⟩ := sz_lt z3 hs'
          refine ⟨_, rfl, _, rfl, ry.i1 ⟨_, _, rfl, rfl, cm b1 b4, _, rfl, ry.i0 ⟨_, rfl, _, _, rfl, rfl, cm b3 b2, _, _, rfl, rfl, _, rfl, _, rfl, ry.i1 ⟨_, _, rfl, rfl, cm b2 b4, rfl, some y, ?_⟩⟩⟩⟩
          rw [es]
          rfl
        · rintro σ H' ⟨rfl, z, rfl⟩
          have et : ds.take xs.length = ds := by rw [hlen, List.take_length]
          rw [et]
          exact ⟨_, rfl, _, rfl, s2, k⟩
      | _ => cases c1
abbrev s_right : Stmt := top 78
theorem sc_right : FnScope ["_law_way", "_law_one", "_law_two", "_law_told", "_law_due"] ["_law_way", "_law_one", "_law_two", "_law_told"] (defScope s_right) := ⟨rfl, rfl, rfl, by decide +kernel, rfl, by decide +kernel, by decide +kernel⟩
theorem ok_right {f : Addr} {fd : FuncData} (F : Fun K "_law_right" "_law_right" s_right f fd) (c_same : Callee P w K mg base CX0 5 "_law_same" ["_law_got", "_law_due"] (spSame K 4)) (c_sgn : Callee P w K mg base CX0 1 "_law_sgn" ["_law_one"] (spSgn K))
    (c_fraction : Callee P w K mg base CX0 1 "_law_fraction" ["_law_way", "_law_one", "_law_two"] (spFrac K)) (c_is_ratio : Callee P w K mg base CX0 2 "_law_is_ratio" ["_law_thing"] (spIsRatio K)) : FnOk P w K mg base CX0 6 f fd ["_law_way", "_law_one", "_law_two", "_law_told"] (spRight K) := by
  refine F.ok sc_right (fun vs H Q E h => ?_) (fun cdv A outer s H vs Q E hr h => ?_)
  · obtain ⟨_, _, _, _, _, _, _, rfl, _⟩ := h
    rfl
  · obtain ⟨st, way, v, x, t, d, e, rfl, hw, hv, hx, hf, hn, ht, k⟩ := h
    refine ⟨_, (pss_cons (ps_if (pt_cmpR op_eq (pv 0) pe_int (nomark _)) (pss_one (ps_ret (pe_fn c_same (hr.mono (by decide)) (by rfl) pass0 (pa_cons (pv 3) (pa_cons (pe_fn c_sgn (hr.mono (by decide)) (by rfl) pass0 (pa_cons (pe_lst (pa_cons (pe_op op_sub (pe_op op_mulW (pe_ix ix_seq (pv 1) pe_int (fun _ _ => rfl)) (pe_ix ix_seq (pv 2) pe_int (fun _ _ => rfl))) (pe_op op_mulW (pe_ix ix_seq (pv 2) pe_int (fun _ _ => rfl)) (pe_ix ix_seq (pv 1) pe_int (fun _ _ => rfl)))) (pa_cons pe_int pa_nil))) pa_nil)) pa_nil))))) pss_nil)
  (pss_cons (ps_if (pt_cmpR op_eq (pv 0) pe_int (nomark _)) (pss_one (ps_ret (pe_fn c_same (hr.mono (by decide)) (by rfl) pass0 (pa_cons (pv 3) (pa_cons (pe_fn c_sgn (hr.mono (by decide)) (by rfl) pass0 (pa_cons (pv 1) pa_nil)) pa_nil))))) pss_nil)
  (pss_cons (ps_set (i := 4) sc_right.nd rfl (Or.inl rfl) (pe_fn c_fraction (hr.mono (by decide)) (by rfl) pass0 (pa_cons (pv 0) (pa_cons (pv 1) (pa_cons (pv 2) pa_nil)))))
  (pss_one (ps_ret (pe_and (pe_fn c_is_ratio (hr.mono (by decide)) (by rfl) pass0 (pa_cons (pv 3) pa_nil)) (pe_one (pe_cmpR op_eq (pe_op op_mulW (pe_ix ix_seq (pv 3) pe_int (fun _ _ => rfl)) (pe_ix ix_seq (pv 4) pe_int (fun _ _ => rfl))) (pe_op op_mulW (pe_ix ix_seq (pv 3) pe_int (fun _ _ => rfl)) (pe_ix ix_seq (pv 4) pe_int (fun _ _ => rfl))) (nomark _))))))))), ?_⟩
    have fit : ∀ (i : Int), Fit 3 (.int i) := fun i => trivial
    by_cases h5 : way = 5
    · subst h5
      obtain ⟨c1, c2⟩ := rat2_none hn
      obtain ⟨n, a, rfl, l1⟩ := isRatioD_inv c1
      obtain ⟨m, b, rfl, l2⟩ := isRatioD_inv c2
      obtain ⟨x1, x2⟩ := hf.bd _ _ rfl
      obtain ⟨x3, x4⟩ := hf.be _ _ rfl
      have r1 := hv.rat
      have r2 := hx.rat
      refine ⟨_, rfl, rfl, _, rfl, eqT rfl ⟨_, rfl, _, rfl, r1.i0 ⟨_, rfl, r2.i1 ⟨_, _, rfl, rfl, cm (sm9 x1) (sm9 x4), _, rfl, r2.i0 ⟨_, rfl, r1.i1 ⟨_, _, rfl, rfl, cm (sm9 x3) (sm9 x2), _, _, rfl, rfl, by show 2 ≤ sizeLine; decide, fun p hp => ?_⟩⟩⟩⟩⟩⟩
      exact ⟨p, _, _, rfl, .inl (SqL.of upd_same), st, t, _, _, rfl, ht.same (Same.new hp), .int _, fit _, fun H' s1 => k _ ((Same.new hp).trans s1)⟩
    · by_cases h7 : way = 7
      · subst h7
        have c1 : isRatioD d = true := by
          by_cases c : isRatioD d = true
          · exact c
          · have : fltD 7 d e = some (.wk "one") := if_neg c
            rw [this] at hn
            cases hn
        obtain ⟨n, a, rfl, l1⟩ := isRatioD_inv c1
        obtain ⟨va, rfl, q⟩ := hv.rat
        exact ⟨_, rfl, rfl, _, rfl, eqF (by decide) ⟨_, rfl, rfl, _, rfl, eqT rfl ⟨_, rfl, _, rfl, va, n, _, rfl, .inr q, st, t, _, _, rfl, ht, .int _, fit _, k⟩⟩⟩
      · have fr := frac_ok hf hw h5 h7 hn
        have ea : ansD way d e = ratD (fracD way d e) := by
          have hw' : way = 0 ∨ way = 1 ∨ way = 2 ∨ way = 3 ∨ way = 4 ∨ way = 6 ∨ way = 8 ∨ way = 9 := by omega
          rcases hw' with rfl | rfl | rfl | rfl | rfl | rfl | rfl | rfl <;> rfl
        rw [ea] at ht
        refine ⟨_, rfl, rfl, _, rfl, eqF (ne_n (b := 5) h5) ⟨_, rfl, rfl, _, rfl, eqF (ne_n (b := 7) h7) ?_⟩⟩
        refine ⟨_, rfl, _, rfl, _, rfl, st, way, v, x, d, e, rfl, hw, h5, h7, hv, hx, hf, hn, fun p hp => ?_⟩
        have ht1 := ht.same (Same.new (o := .lst [.int (fracD way d e).1, .int (fracD way d e).2]) hp)
        refine ⟨_, rfl, st, t, _, rfl, ht1, fr.bd, fun H1 s1 => ?_⟩
        rw [ratD_rat fr.z]
        have rt : RatV K H1 t (lowN (fracD way d e).1 (fracD way d e).2) (lowD (fracD way d e).1 (fracD way d e).2) := (ht1.same s1).rat
        have hp1 : H1 p = some (.lst [.int (fracD way d e).1, .int (fracD way d e).2]) := s1 _ _ upd_same
        have bn : (lowN (fracD way d e).1 (fracD way d e).2).natAbs < 2 ^ 9000 := Nat.lt_of_le_of_lt low_le_n fr.n
        have bd : (lowD (fracD way d e).1 (fracD way d e).2).natAbs < 2 ^ 9000 := Nat.lt_of_le_of_lt (low_le_d fr.z) fr.d
        refine ⟨_, rfl, iteT ⟨_, rfl, rt.i0 ⟨_, rfl, rIx_at (j := 1) (.inl (SqL.of hp1)) rfl ⟨_, _, rfl, rfl, cm bn fr.d, _, rfl, rt.i1 ⟨_, rfl, rIx_at (j := 0) (.inl (SqL.of hp1)) rfl ⟨_, _, rfl, rfl, cm bd fr.n, rfl, ?_⟩⟩⟩⟩⟩⟩
        have ec : decide (V.int (lowN (fracD way d e).1 (fracD way d e).2 * (fracD way d e).2) = V.int (lowD (fracD way d e).1 (fracD way d e).2 * (fracD way d e).1)) = true := decide_eq_true (by rw [low_cross])
        show Q (.bl (decide _)) H1
        rw [ec]
        exact k _ ((Same.new hp).trans s1)
abbrev s_as_due : Stmt := top 79
theorem sc_as_due : FnScope ["_law_ask", "_law_told", "_law_due"] ["_law_ask", "_law_told"] (defScope s_as_due) := ⟨rfl, rfl, rfl, by decide +kernel, rfl, by decide +kernel, by decide +kernel⟩
theorem ok_as_due {f : Addr} {fd : FuncData} (F : Fun K "_law_as_due" "_law_as_due" s_as_due f fd) (c_same : Callee P w K mg base CX0 5 "_law_same" ["_law_got", "_law_due"] (spSame K 4)) (c_fault : Callee P w K mg base CX0 4 "_law_fault" ["_law_way", "_law_one", "_law_two"] (spFault K))
    (c_right : Callee P w K mg base CX0 6 "_law_right" ["_law_way", "_law_one", "_law_two", "_law_told"] (spRight K)) : FnOk P w K mg base CX0 7 f fd ["_law_ask", "_law_told"] (spAsDue K) := by
  refine F.ok sc_as_due (fun vs H Q E h => ?_) (fun cdv A outer s H vs Q E hr h => ?_)
  · obtain ⟨_, _, _, _, _, _, _, _, rfl, _⟩ := h
    rfl
  · obtain ⟨st, a, way, v, x, t, d, e, rfl, ha, hw, hv, hx, hf, ht, k⟩ := h
    refine ⟨_, (pss_cons (ps_set (i := 2) sc_as_due.nd rfl (Or.inl rfl) (pe_fn c_fault (hr.mono (by decide)) (by rfl) pass0 (pa_cons (pe_ix ix_seq (pv 0) pe_int (fun _ _ => rfl)) (pa_cons (pe_ix ix_seq (pv 0) pe_int (fun _ _ => rfl)) (pa_cons (pe_ix ix_seq (pv 0) pe_int (fun _ _ => rfl)) pa_nil)))))
  (pss_cons (ps_if (pt_cmpR op_notN (pv 2) pe_non (nomark _)) (pss_one (ps_ret (pe_fn c_same (hr.mono (by decide)) (by rfl) pass0 (pa_cons (pv 1) (pa_cons (pv 2) pa_nil))))) pss_nil)
  (pss_one (ps_ret (pe_and (pe_cmpR op_eq (pe_ix ix_seq (pv 1) pe_int (fun _ _ => rfl)) pe_str (nomark _)) (pe_one (pe_fn c_right (hr.mono (by decide)) (by rfl) pass0 (pa_cons (pe_ix ix_seq (pv 0) pe_int (fun _ _ => rfl)) (pa_cons (pe_ix ix_seq (pv 0) pe_int (fun _ _ => rfl)) (pa_cons (pe_ix ix_seq (pv 0) pe_int (fun _ _ => rfl)) (pa_cons (pe_ix ix_seq (pv 1) pe_int (fun _ _ => rfl)) pa_nil))))))))))), ?_⟩
    refine ⟨_, rfl, rIx_at (j := 0) (.inr ha) rfl ⟨_, rfl, rIx_at (j := 1) (.inr ha) rfl ⟨_, rfl, rIx_at (j := 2) (.inr ha) rfl ⟨st, way, v, x, d, e, rfl, hw, hv, hx, hf, fun y H1 s1 hy => ?_⟩⟩⟩⟩
    unfold faultD at hy
    unfold toldD at ht
    cases hg : fltD way d e with
    | some g =>
      rw [hg] at hy ht
      have hy : Val K st H1 y (errD g) := hy
      have ht : Val K st H t (errD g) := ht
      have yn : ∃ b, y = .ref b := by
        cases g <;> (cases hy; exact ⟨_, rfl⟩)
      obtain ⟨b, rfl⟩ := yn
      refine ⟨_, rfl, rfl, _, rfl, iteT ⟨_, rfl, _, rfl, st, t, _, errD g, rfl, ht.same s1, hy, ?_, fun H2 s2 => k _ (s1.trans s2)⟩⟩
      cases g with
      | wk z => exact ⟨by show 2 ≤ 100000; decide, fun q hq => by
          rcases List.mem_cons.mp hq with e | hq
          · rw [e]; trivial
          · rw [List.mem_singleton.mp hq]; trivial⟩
      | zd => exact ⟨by show 2 ≤ 100000; decide, fun q hq => by
          rcases List.mem_cons.mp hq with e | hq
          · rw [e]; trivial
          · rw [List.mem_singleton.mp hq]; trivial⟩
    | none =>
      rw [hg] at hy ht
      have hy : Val K st H1 y .non := hy
      have ht : Val K st H t (.tup [.str "told", ansD way d e]) := ht
      cases hy
      have ht1 := ht.same s1
      have ha1 := sqT_same s1 ha
      cases ht1 with
      | @tup b xs ds h r =>
        cases r with
        | cons r1 r2 =>
          cases r2 with
          | cons r3 r4 =>
            cases r4
            cases r1
            refine ⟨_, rfl, rfl, _, rfl, iteF ⟨_, rfl, rIx_at (j := 0) (.inr h) rfl ⟨rfl, ?_⟩⟩⟩
            have e1 : decide (V.str "told" = V.str "told") = true := decide_eq_true rfl
            refine ⟨_, rfl, ?_⟩
            rw [e1]
            exact iteT ⟨_, rfl, rIx_at (j := 0) (.inr ha1) rfl ⟨_, rfl, rIx_at (j := 1) (.inr ha1) rfl ⟨_, rfl, rIx_at (j := 2) (.inr ha1) rfl ⟨_, rfl, rIx_at (j := 1) (.inr h) rfl
              ⟨st, way, v, x, _, d, e, rfl, hw, hv.same s1, hx.same s1, hf, hg, r3, fun H2 s2 => k _ (s1.trans s2)⟩⟩⟩⟩⟩
end
end K00

set_option Elab.async false
set_option linter.all false
set_option maxRecDepth 100000
set_option maxHeartbeats 4000000
namespace K00
open PySem L2
/-- a ratio that was drawn: its parts have at most f digits -/
structure Dr (f : Int) (n d : Int) : Prop where
  lo : Lo n d
  n : n.natAbs < 10 ^ f.toNat
  d : d.natAbs < 10 ^ f.toNat
def spSecond (K : PySem.W.Frag) : Sp := fun vs H Q _ => ∃ (st : Addr) (v : V) (n d f : Int), vs = [.ref st, v, .int f] ∧ StAt H st ∧ 1 ≤ f ∧ f ≤ 1000 ∧ RatV K H v n d ∧ Dr f n d ∧ ∀ (x : V) (H' : Hp) (m e : Int), Ext st H H' → RatV K H' x m e → Dr f m e → Q x H'
def spWhole : Sp := fun vs H Q _ => ∃ (st : Addr) (f : Int), vs = [.ref st, .int f] ∧ StAt H st ∧ 9 ≤ f ∧ f ≤ 1000 ∧ ∀ (p : Addr) (a b : Int) (H' : Hp), Ext st H H' → p ≠ st → H' p = some (.lst [.int a, .int b]) → a.natAbs < 2 ^ 4400 → b.natAbs < 2 ^ 4400 → Q (.ref p) H'
def spValues (K : PySem.W.Frag) : Sp := fun vs H Q _ => ∃ (st : Addr) (v : V) (n d f : Int), vs = [.ref st, v, .int f] ∧ StAt H st ∧ (f = 9 ∨ f = 60 ∨ f = 300 ∨ f = 1000) ∧ RatV K H v n d ∧ Dr f n d ∧
  ∀ (p : Addr) (xs : List V) (ds : List D) (H' : Hp), Ext st H H' → p ≠ st → H p = none → H' p = some (.lst xs) → ValAll K st H' xs ds → (∀ r ∈ ds, isRatioD r = true) → ds.length ≤ 300 → szs ds ≤ 2 ^ 3100 → Q (.ref p) H'
theorem p10_44 {f : Int} {n : Int} (h : n.natAbs < 10 ^ f.toNat) (hf : f ≤ 1000) : n.natAbs < 2 ^ 4400 := pow_up (Nat.lt_trans h (pow10_2 (by omega))) (by decide)
theorem St.ne {H : Hp} {st p : Addr} (h : StAt H st) (hp : H p = none) : p ≠ st := fun e => by
  obtain ⟨_, _, _, _, _, _, _, q, _⟩ := h
  rw [e, q] at hp
  cases hp
theorem fresh_of {st p : Addr} {H H' : Hp} (x : Ext st H H') (hn : p ≠ st) (h : H' p = none) : H p = none := by
  cases e : H p with
  | none => rfl
  | some o => rw [x.old p o hn e] at h; cases h
theorem szs_pow : ∀ {ds : List D} {B : Nat}, (∀ r ∈ ds, szD r ≤ B) → szs ds ≤ B ^ ds.length
  | [], B, _ => by show 1 ≤ B ^ 0; exact Nat.le_refl _
  | r :: t, B, h => by
    show szD r * szs t ≤ B ^ (t.length + 1)
    rw [Nat.pow_succ, Nat.mul_comm (B ^ t.length)]
    exact Nat.mul_le_mul (h r (by simp)) (szs_pow fun x hx => h x (by simp [hx]))
/-- the new list of draws -/
def Drawn1 (K : PySem.W.Frag) (D0 st : Addr) (H2 : Hp) (B : Nat) (i : Nat) (H3 : Hp) : Prop := Ext st H2 H3 ∧ ∃ ys ds, H3 D0 = some (.lst ys) ∧ ValAll K st H3 ys ds ∧ ys.length = i ∧ (∀ r ∈ ds, isRatioD r = true) ∧ ∀ r ∈ ds, szD r ≤ B
theorem Ext.set {st D0 : Addr} {H H' : Hp} {o : HO} (hS : StAt H st) (x : Ext st H H') (hn : D0 ≠ st) (hD : H D0 = none) : Ext st H (upd H' D0 o) := by
  obtain ⟨l, ns, i, b, c, d, e, h1, h2, h3, h4, h5⟩ := hS
  have hl : l ≠ D0 := fun z => by rw [z, hD] at h2; cases h2
  obtain ⟨r', k1⟩ := x.keep l _ h1
  obtain ⟨l', ns', i', b', c', d', e', g1, g2, g3, g4, g5⟩ := x.at_
  have el : l' = l := by
    rw [g1] at k1
    cases k1
    rfl
  subst el
  refine ⟨fun a u na ha => ?_, ⟨l', ns', i', b', c', d', e', ?_, ?_, g3, g4, g5⟩, fun l2 r2 q => ?_⟩
  · rw [upd_ne (ne_of_none ha hD)]
    exact x.old a u na ha
  · rw [upd_ne (Ne.symm hn)]
    exact g1
  · rw [upd_ne hl]
    exact g2
  · rw [upd_ne (Ne.symm hn)]
    exact x.keep l2 r2 q
theorem drawn_step {K : PySem.W.Frag} {D0 st : Addr} {H2 H3 H4 : Hp} {B i : Nat} {x : V} {m e : Int} (hS : StAt H2 st) (hn : D0 ≠ st) (hD : H2 D0 = none) (h : Drawn1 K D0 st H2 B i H3) (x4 : Ext st H3 H4) (r : RatV K H4 x m e) (l : Lo m e) (b : m.natAbs + e.natAbs ≤ B) (hi : i < 1000) :
    ∃ acc, H4 D0 = some (.lst acc) ∧ acc.length < sizeLine ∧ Drawn1 K D0 st H2 B (i + 1) (upd H4 D0 (.lst (acc ++ [x]))) := by
  obtain ⟨x3, ys, ds, hy, rv, ly, hr, hb⟩ := h
  have hy4 : H4 D0 = some (.lst ys) := x4.old _ _ hn hy
  have rr : isRatioD (.tup [.int m, .int e]) = true := by
    show (decide (1 ≤ e) && decide (Nat.gcd m.natAbs e.natAbs = 1)) = true
    rw [decide_eq_true (by have := l.pos; omega), decide_eq_true l.cop]
    rfl
  have all : ∀ r ∈ ds ++ [D.tup [.int m, .int e]], isRatioD r = true := fun r hr' => by
    rcases List.mem_append.mp hr' with h | h
    · exact hr r h
    · rw [List.mem_singleton.mp h]; exact rr
  refine ⟨ys, hy4, by rw [ly, sizeLine_eq]; omega, Ext.set hS (x3.trans x4) hn hD, ys ++ [x], ds ++ [.tup [.int m, .int e]], upd_same, ?_, by rw [List.length_append, ly]; rfl, all, fun r hr' => ?_⟩
  · have v1 : ValAll K D0 H4 (ys ++ [x]) (ds ++ [.tup [.int m, .int e]]) := ((rv.ext x3.at_ x4).append (.cons r.val .nil)).re all
    exact (v1.mono (fun b o hb e' => by rw [upd_ne hb]; exact e') fun b xs q => sqT_set hy4 q).re all
  · rcases List.mem_append.mp hr' with h | h
    · exact hb r h
    · rw [List.mem_singleton.mp h]; exact b
theorem Dr.sz {f n d : Int} (h : Dr f n d) : n.natAbs + d.natAbs ≤ 2 * 10 ^ f.toNat := by
  have := h.n
  have := h.d
  omega
section
variable {P : Program} {w : World} {K : PySem.W.Frag} {mg : Str → Option Value} {base : Heap}
abbrev s_second : Stmt := top 80
theorem sc_second : FnScope ["_law_store_here", "_law_one", "_law_figures", "_law_way"] ["_law_store_here", "_law_one", "_law_figures"] (defScope s_second) := ⟨rfl, rfl, rfl, by decide +kernel, rfl, by decide +kernel, by decide +kernel⟩
theorem ok_second {f : Addr} {fd : FuncData} (F : Fun K "_law_second" "_law_second" s_second f fd) (c_take : Callee P w K mg base CX0 126 "_law_take" psT (spTake 125)) (c_low : Callee P w K mg base CX0 1 "_law_low" psL spLow) (c_sgn : Callee P w K mg base CX0 1 "_law_sgn" ["_law_one"] (spSgn K))
    (c_ratio : Callee P w K mg base CX0 130 "_law_ratio" ["_law_store_here", "_law_figures"] (spRatio K)) : FnOk P w K mg base CX0 131 f fd ["_law_store_here", "_law_one", "_law_figures"] (spSecond K) := by
  refine F.ok sc_second (fun vs H Q E h => ?_) (fun cdv A outer s H vs Q E hr h => ?_)
  · obtain ⟨_, _, _, _, _, rfl, _⟩ := h
    rfl
  · obtain ⟨st, v, n, d, fg, rfl, hS, f1, f2, hv, dr, k⟩ := h
    refine ⟨_, (pss_cons (ps_set (i := 3) sc_second.nd rfl (Or.inl rfl) (pe_fn c_take (hr.mono (by decide)) (by rfl) pass0 (pa_cons (pv 0) (pa_cons pe_int pa_nil))))
  (pss_cons (ps_if (pt_cmpR op_eq (pv 3) pe_int (nomark _)) (pss_one (ps_ret (pv 1))) pss_nil)
  (pss_cons (ps_if (pt_cmpR op_eq (pv 3) pe_int (nomark _)) (pss_one (ps_ret (pe_tup (pa_cons (pe_un un_neg (pe_ix ix_seq (pv 1) pe_int (fun _ _ => rfl))) (pa_cons (pe_ix ix_seq (pv 1) pe_int (fun _ _ => rfl)) pa_nil))))) pss_nil)
  (C8.pss_cut (ps_if (PW.pt (pw_and (pt_cmpR op_eq (pv 3) pe_int (nomark _)) (pw_and1 (pt_cmpR op_ne (pe_ix ix_seq (pv 1) pe_int (fun _ _ => rfl)) pe_int (nomark _))))) (pss_one (ps_ret (pe_fn c_low (hr.mono (by decide)) (by rfl) pass0 (pa_cons (pe_ix ix_seq (pv 1) pe_int (fun _ _ => rfl)) (pa_cons (pe_ix ix_seq (pv 1) pe_int (fun _ _ => rfl)) pa_nil))))) pss_nil)
  (C8.pss_cut (ps_if (PW.pt (pw_and (pt_cmpR op_eq (pv 3) pe_int (nomark _)) (pw_and1 (pt_cmpR op_ne (pe_ix ix_seq (pv 1) pe_int (fun _ _ => rfl)) pe_int (nomark _))))) (pss_one (ps_ret (pe_fn c_low (hr.mono (by decide)) (by rfl) pass0 (pa_cons (pe_op op_sub (pe_ix ix_seq (pv 1) pe_int (fun _ _ => rfl)) (pe_fn c_sgn (hr.mono (by decide)) (by rfl) pass0 (pa_cons (pv 1) pa_nil))) (pa_cons (pe_ix ix_seq (pv 1) pe_int (fun _ _ => rfl)) pa_nil))))) pss_nil)
  (pss_one (ps_ret (pe_fn c_ratio (hr.mono (by decide)) (by rfl) pass0 (pa_cons (pv 0) (pa_cons (pv 2) pa_nil)))))))))), ?_⟩
    refine ⟨_, rfl, st, 7, rfl, hS, lim124s (by decide), fun r H1 r1 x1 => ?_⟩
    have hv1 := hv.ext hS x1
    have sm : ∀ z : Int, z.natAbs < 10 ^ fg.toNat → z.natAbs < 2 ^ 9000 := fun z hz => sm9 (p10_44 hz f2)
    refine ⟨_, rfl, rfl, _, rfl, ite2 (fun _ => ⟨_, rfl, k _ _ n d x1 hv1 dr⟩) (fun _ => ?_)⟩
    refine ⟨_, rfl, rfl, _, rfl, ite2 (fun _ => ?_) (fun _ => ?_)⟩
    · exact ⟨_, rfl, hv1.i0 ⟨_, rfl, _, rfl, hv1.i1 ⟨by show 2 ≤ sizeLine; decide, fun p hp => k _ _ (-n) d (x1.trans (Ext.new x1.at_ hp)) RatV.new ⟨⟨dr.lo.pos, by rw [Int.natAbs_neg]; exact dr.lo.cop⟩, by rw [Int.natAbs_neg]; exact dr.n, dr.d⟩⟩⟩⟩
    refine ⟨fun σ H2 => σ = [some (.ref st), some v, some (.int fg), some (.int r)] ∧ H2 = H1, ?_, ?_⟩
    · refine ⟨_, rfl, rfl, _, rfl, ite2 (fun _ => ?_) (fun _ => iteF ⟨rfl, rfl⟩)⟩
      refine ⟨_, rfl, hv1.i0 ⟨rfl, _, rfl, ?_⟩⟩
      by_cases n0 : n = 0
      · exact ite_nn n0 ⟨rfl, rfl⟩
      · refine ite_ne n0 ⟨_, rfl, hv1.i1 ⟨_, rfl, hv1.i0 ⟨d, n, rfl, sm _ dr.d, sm _ dr.n, fun p hp => ?_⟩⟩⟩
        exact k _ _ _ _ (x1.trans (Ext.new x1.at_ hp)) RatV.new ⟨lowP_lo, Nat.lt_of_le_of_lt lowP_n dr.d, Nat.lt_of_le_of_lt (lowP_d n0) dr.n⟩
    · rintro σ H2 ⟨rfl, rfl⟩
      refine ⟨fun σ H3 => σ = [some (.ref st), some v, some (.int fg), some (.int r)] ∧ H3 = H2, ?_, ?_⟩
      · refine ⟨_, rfl, rfl, _, rfl, ite2 (fun _ => ?_) (fun _ => iteF ⟨rfl, rfl⟩)⟩
        refine ⟨_, rfl, hv1.i0 ⟨rfl, _, rfl, ?_⟩⟩
        by_cases n0 : n = 0
        · exact ite_nn n0 ⟨rfl, rfl⟩
        · obtain ⟨va, rfl, q⟩ := hv1
          have hv2 : RatV K H2 (.ref va) n d := ⟨va, rfl, q⟩
          have ns : (n - sgn n).natAbs < 10 ^ fg.toNat := by
            have := dr.n
            unfold sgn
            by_cases h1 : 0 < n
            · rw [if_pos h1]; omega
            · rw [if_neg h1, if_pos (by omega)]; omega
          have d0 : d ≠ 0 := by have := dr.lo.pos; omega
          refine ite_ne n0 ⟨_, rfl, hv2.i0 ⟨_, rfl, va, n, _, rfl, .inr q, _, _, rfl, rfl, _, rfl, hv2.i1 ⟨n - sgn n, d, rfl, sm _ ns, sm _ dr.d, fun p hp => ?_⟩⟩⟩
          exact k _ _ _ _ (x1.trans (Ext.new x1.at_ hp)) RatV.new ⟨lowP_lo, Nat.lt_of_le_of_lt lowP_n ns, Nat.lt_of_le_of_lt (lowP_d d0) dr.d⟩
      · rintro σ H3 ⟨rfl, rfl⟩
        exact ⟨_, rfl, _, rfl, st, fg, rfl, x1.at_, f1, f2, fun y H4 m e x4 ry lo bm be => k y H4 m e (x1.trans x4) ry ⟨lo, bm, be⟩⟩
abbrev s_whole_pair : Stmt := top 81
theorem sc_whole_pair : FnScope ["_law_store_here", "_law_figures", "_law_common", "_law_by"] ["_law_store_here", "_law_figures"] (defScope s_whole_pair) := ⟨rfl, rfl, rfl, by decide +kernel, rfl, by decide +kernel, by decide +kernel⟩
theorem ok_whole_pair {f : Addr} {fd : FuncData} (F : Fun K "_law_whole_pair" "_law_whole_pair" s_whole_pair f fd) (c_take : Callee P w K mg base CX0 126 "_law_take" psT (spTake 125)) (c_integer : Callee P w K mg base CX0 129 "_law_integer" psI spInteger) :
    FnOk P w K mg base CX0 130 f fd ["_law_store_here", "_law_figures"] spWhole := by
  refine F.ok sc_whole_pair (fun vs H Q E h => ?_) (fun cdv A outer s H vs Q E hr h => ?_)
  · obtain ⟨_, _, rfl, _⟩ := h
    rfl
  · obtain ⟨st, fg, rfl, hS, f1, f2, k⟩ := h
    refine ⟨_, (pss_cons (ps_set (i := 2) sc_whole_pair.nd rfl (Or.inl rfl) (pe_fn c_integer (hr.mono (by decide)) (by rfl) pass0 (pa_cons (pv 0) (pa_cons (pe_op op_fdivW (pv 1) pe_int) pa_nil))))
  (C8.pss_cut (ps_if (PW.pt (pw_or (pt_cmpR op_eq (pv 2) pe_int (nomark _)) (pw_or1 (pt_cmpR op_eq (pe_fn c_take (hr.mono (by decide)) (by rfl) pass0 (pa_cons (pv 0) (pa_cons pe_int pa_nil))) pe_int (nomark _))))) (pss_one (ps_set (i := 2) sc_whole_pair.nd rfl (Or.inl rfl) pe_int)) pss_nil)
  (pss_cons (ps_set (i := 3) sc_whole_pair.nd rfl (Or.inl rfl) (pe_op op_mulW (pv 2) (pe_fn c_integer (hr.mono (by decide)) (by rfl) pass0 (pa_cons (pv 0) (pa_cons (pe_op op_sub (pv 1) (pe_op op_fdivW (pv 1) pe_int)) pa_nil)))))
  (C8.pss_cut (ps_if (pt_cmpR op_eq (pe_fn c_take (hr.mono (by decide)) (by rfl) pass0 (pa_cons (pv 0) (pa_cons pe_int pa_nil))) pe_int (nomark _)) (pss_one (ps_set (i := 3) sc_whole_pair.nd rfl (Or.inl rfl) pe_int)) pss_nil)
  (pss_one (ps_ret (pe_lst (pa_cons (pe_op op_mulW (pv 2) (pe_fn c_integer (hr.mono (by decide)) (by rfl) pass0 (pa_cons (pv 0) (pa_cons (pe_op op_sub (pv 1) (pe_op op_fdivW (pv 1) pe_int)) pa_nil)))) (pa_cons (pv 3) pa_nil))))))))), ?_⟩
    have q1 : 1 ≤ fg / 3 := by omega
    have q2 : fg / 3 ≤ 1000 := by omega
    have w1 : 1 ≤ fg - fg / 3 := by omega
    have w2 : fg - fg / 3 ≤ 1000 := by omega
    have big2 : ∀ {x y : Int}, x.natAbs < 10 ^ (fg / 3).toNat → y.natAbs < 10 ^ (fg - fg / 3).toNat → (x * y).natAbs < 2 ^ 4400 ∧ CMulW x y := fun {x y} hx hy => by
      refine ⟨?_, wide_mul (pow_up (Nat.lt_trans hx (pow10_2 (by omega))) (Nat.le_refl _)) (pow_up (Nat.lt_trans hy (pow10_2 (by omega))) (Nat.le_refl _)) (by decide) (by decide) (by decide)⟩
      have e : (fg / 3).toNat + (fg - fg / 3).toNat = fg.toNat := by omega
      have l : (x * y).natAbs < 10 ^ fg.toNat := by
        rw [Int.natAbs_mul, ← e, Nat.pow_add]
        exact Nat.mul_lt_mul'' hx hy
      exact p10_44 l f2
    have one : (1 : Int).natAbs < 10 ^ (fg / 3).toNat := by
      have := pow10_le q1
      show 1 < _
      omega
    refine ⟨_, rfl, _, rfl, _, _, rfl, rfl, cdiv_of (by decide) (by decide), st, fg / 3, rfl, hS, q1, q2, fun c H1 hc x1 => ?_⟩
    refine ⟨fun σ H2 => ∃ g : Int, σ = [some (.ref st), some (.int fg), some (.int g), none] ∧ Ext st H H2 ∧ g.natAbs < 10 ^ (fg / 3).toNat, ?_, ?_⟩
    · refine ⟨_, rfl, rfl, _, rfl, ite2 (fun _ => iteT ⟨1, rfl, x1, one⟩) (fun _ => ?_)⟩
      exact ⟨_, rfl, st, 3, rfl, x1.at_, lim124s (by decide), fun r H2 r2 x2 => ⟨rfl, _, rfl, ite2 (fun _ => ⟨1, rfl, x1.trans x2, one⟩) (fun _ => ⟨c, rfl, x1.trans x2, hc⟩)⟩⟩
    · rintro σ H2 ⟨g, rfl, x2, hg⟩
      refine ⟨_, rfl, _, rfl, _, rfl, _, rfl, _, _, rfl, rfl, cdiv_of (by decide) (by decide), _, _, rfl, rfl, st, fg - fg / 3, rfl, x2.at_, w1, w2, fun b H3 hb x3 => ⟨_, _, rfl, rfl, (big2 hg hb).2, ?_⟩⟩
      have x13 := x2.trans x3
      refine ⟨fun σ H4 => ∃ y : Int, σ = [some (.ref st), some (.int fg), some (.int g), some (.int y)] ∧ Ext st H H4 ∧ y.natAbs < 2 ^ 4400, ?_, ?_⟩
      · exact ⟨_, rfl, st, 8, rfl, x13.at_, lim124s (by decide), fun r H4 r4 x4 => ⟨rfl, _, rfl, ite2 (fun _ => ⟨0, rfl, x13.trans x4, Nat.pow_pos (by decide)⟩) (fun _ => ⟨_, rfl, x13.trans x4, (big2 hg hb).1⟩)⟩⟩
      · rintro σ H4 ⟨y, rfl, x4, hy⟩
        refine ⟨_, rfl, _, rfl, _, rfl, _, rfl, _, _, rfl, rfl, cdiv_of (by decide) (by decide), _, _, rfl, rfl, st, fg - fg / 3, rfl, x4.at_, w1, w2, fun b2 H5 hb2 x5 => ⟨_, _, rfl, rfl, (big2 hg hb2).2, _, rfl, by show 2 ≤ sizeLine; decide, fun p hp => ?_⟩⟩
        have x6 := x4.trans x5
        exact k p _ _ _ (x6.trans (Ext.new x6.at_ hp)) (St.ne x6.at_ hp) upd_same (big2 hg hb2).1 hy
abbrev s_values : Stmt := top 82
theorem sc_values : FnScope ["_law_store_here", "_law_one", "_law_figures", "_law_many", "_law_k"] ["_law_store_here", "_law_one", "_law_figures"] (defScope s_values) := ⟨rfl, rfl, rfl, by decide +kernel, rfl, by decide +kernel, by decide +kernel⟩
theorem ok_values {f : Addr} {fd : FuncData} (F : Fun K "_law_values" "_law_values" s_values f fd) (T : TxtP K mg) (c_take : Callee P w K mg base CX0 126 "_law_take" psT (spTake 125)) (c_edge : Callee P w K mg base CX0 127 "_law_edge" psT spEdge) (c_small : Callee P w K mg base CX0 129 "_law_small" ["_law_store_here"] (spSmall K))
    (c_second : Callee P w K mg base CX0 131 "_law_second" ["_law_store_here", "_law_one", "_law_figures"] (spSecond K)) : FnOk P w K mg base CX0 132 f fd ["_law_store_here", "_law_one", "_law_figures"] (spValues K) := by
  refine F.ok sc_values (fun vs H Q E h => ?_) (fun cdv A outer s H vs Q E hr h => ?_)
  · obtain ⟨_, _, _, _, _, rfl, _⟩ := h
    rfl
  · obtain ⟨st, v, n, d, fg, rfl, hS, hfg, hv, dr, k⟩ := h
    refine ⟨_, (pss_cons (ps_set (i := 3) sc_values.nd rfl (Or.inl rfl) (pe_fn c_edge (hr.mono (by decide)) (by rfl) pass0 (pa_cons (pv 0) (pa_cons (pe_op op_add (pe_callB (call_min2 rfl) (by rfl) T.min (by decide +kernel) (pa_cons pe_int (pa_cons (pe_op op_fdivW pe_int (pv 2)) pa_nil))) pe_int) pa_nil))))
  (C8.pss_cut (ps_if (PW.pt (pw_and (pt_cmpR op_lt (pv 2) pe_int (nomark _)) (pw_and1 (pt_cmpR op_eq (pe_fn c_take (hr.mono (by decide)) (by rfl) pass0 (pa_cons (pv 0) (pa_cons pe_int pa_nil))) pe_int (nomark _))))) (pss_one (ps_ret (pe_lc (own := [("_law_k", 4)]) (g := gName 4) rfl sc_values.nd (pi_range1 rfl T.range (pa_cons (pe_op op_add pe_int (pe_fn c_edge (hr.mono (by decide)) (by rfl) pass0 (pa_cons (pv 0) (pa_cons pe_int pa_nil)))) pa_nil)) (blkOk_by (own := [("_law_k", 4)]) (N := ["_law_store_here", "_law_one", "_law_figures", "_law_many", "_law_k"]) (sc := defScope s_values) (by decide +kernel)) (fun _ _ _ _ _ => pg_name (i := 4) sc_values.nd rfl (Or.inl rfl)) (fun _ _ _ _ _ => pts_nil) (fun _ _ _ _ _ => (pe_fn c_small (hr.mono (by decide)) (by rfl) pass0 (pa_cons (pv 0) pa_nil)))))) pss_nil)
  (pss_one (ps_ret (pe_lc (own := [("_law_k", 4)]) (g := gName 4) rfl sc_values.nd (pi_range1 rfl T.range (pa_cons (pv 3) pa_nil)) (blkOk_by (own := [("_law_k", 4)]) (N := ["_law_store_here", "_law_one", "_law_figures", "_law_many", "_law_k"]) (sc := defScope s_values) (by decide +kernel)) (fun _ _ _ _ _ => pg_name (i := 4) sc_values.nd rfl (Or.inl rfl)) (fun _ _ _ _ _ => pts_nil) (fun _ _ _ _ _ => (pe_fn c_second (hr.mono (by decide)) (by rfl) pass0 (pa_cons (pv 0) (pa_cons (pv 1) (pa_cons (pv 2) pa_nil)))))))))), ?_⟩
    have f1 : 1 ≤ fg := by omega
    have f2 : fg ≤ 1000 := by omega
    have fin : ∀ (B m : Nat) (D0 : Addr) (H2 H3 : Hp), Ext st H H2 → StAt H2 st → D0 ≠ st → H2 D0 = none → Drawn1 K D0 st H2 B m H3 → m ≤ 300 → (B ^ m ≤ 2 ^ 3100) → 1 ≤ B → Q (.ref D0) H3 := fun B m D0 H2 H3 x2 hS2 hn hD0 hd hm hB h1 => by
      obtain ⟨x3, ys, ds, hy, rv, ly, hr, hb⟩ := hd
      have ld : ds.length = m := by rw [← rv.length, ly]
      refine k D0 ys ds H3 (x2.trans x3) hn (fresh_of x2 hn hD0) hy rv hr (by omega) (Nat.le_trans (szs_pow hb) ?_)
      rw [ld]
      exact hB
    refine ⟨_, rfl, _, rfl, _, _, rfl, rfl, wide_div (b := 10) (by omega) (by omega) (by decide) (by decide), _, _, rfl, _, _, rfl, rfl, st, _, rfl, hS, lim124s ?_, fun many H1 rm x1 => ?_⟩
    · by_cases c : (900 : Int) / fg < 24
      · rw [if_pos c]; omega
      · rw [if_neg c]; omega
    have m0 := rm.1
    have m1 : many ≤ 24 ∧ many ≤ 900 / fg := by
      have a := rm.2
      have b : (0 : Int) ≤ 900 / fg := Int.ediv_nonneg (by decide) (by omega)
      by_cases c : (900 : Int) / fg < 24
      · rw [if_pos c] at a; omega
      · rw [if_neg c] at a; omega
    refine ⟨fun σ H2 => σ = [some (.ref st), some v, some (.int fg), some (.int many), none] ∧ Ext st H H2, ?_, ?_⟩
    · refine ⟨_, rfl, _, _, rfl, rfl, _, rfl, ite2 (fun _ => ?_) (fun _ => iteF ⟨rfl, x1⟩)⟩
      refine ⟨_, rfl, st, 10, rfl, x1.at_, lim124s (by decide), fun r H2 r2 x2 => ⟨rfl, _, rfl, ite2 (fun _ => ?_) (fun _ => ⟨rfl, x1.trans x2⟩)⟩⟩
      refine ⟨_, rfl, st, 200, rfl, x2.at_, lim124s (by decide), fun g H3 rg x3 => ⟨_, _, rfl, rfl, _, rfl, by have := rg.1; omega, by have := rg.1; have := rg.2; omega, fun D0 hD0 => ?_⟩⟩
      have g0 := rg.1
      have g1 : g < 200 := by have := rg.2; omega
      have hS3 := x3.at_
      have hn := St.ne hS3 hD0
      refine lc_range (fun i H' => Drawn1 K D0 st H3 8 i H') ⟨Ext.new hS3 hD0, [], [], upd_same, .nil, rfl, fun _ h => (by cases h), fun _ h => (by cases h)⟩ (fun i H4 hi hd => ⟨rfl, lcYes ⟨_, rfl, st, rfl, hd.1.at_, fun x H5 m e x5 rx lo bm be => drawn_step hS3 hn hD0 hd x5 rx lo ?_ (by omega)⟩⟩) (fun H4 hd => ?_)
      · have := lo.pos
        omega
      · refine fin 8 _ D0 H3 H4 ((x1.trans x2).trans x3) hS3 hn hD0 hd (by omega) ?_ (by decide)
        rw [show (8 : Nat) = 2 ^ 3 by decide, ← Nat.pow_mul]
        exact Nat.pow_le_pow_right (by decide) (by omega)
    · rintro σ H2 ⟨rfl, x2⟩
      have hS2 := x2.at_
      have hv2 := hv.ext hS x2
      refine ⟨_, rfl, _, rfl, by omega, by omega, fun D0 hD0 => ?_⟩
      have hn := St.ne hS2 hD0
      refine lc_range (fun i H' => Drawn1 K D0 st H2 (2 * 10 ^ fg.toNat) i H') ⟨Ext.new hS2 hD0, [], [], upd_same, .nil, rfl, fun _ h => (by cases h), fun _ h => (by cases h)⟩ (fun i H4 hi hd => ⟨rfl, lcYes ⟨_, rfl, _, rfl, _, rfl, st, v, n, d, fg, rfl, hd.1.at_, f1, f2, hv2.ext hS2 hd.1, dr, fun x H5 m e x5 rx dm => drawn_step hS2 hn hD0 hd x5 rx dm.lo dm.sz (by omega)⟩⟩) (fun H4 hd => ?_)
      have pw : ∀ (B a m k : Nat), B ≤ 2 ^ a → m ≤ k → a * k ≤ 3100 → B ^ m ≤ 2 ^ 3100 := fun B a m k h1 h2 h3 => by
        refine Nat.le_trans (Nat.pow_le_pow_left h1 m) ?_
        rw [← Nat.pow_mul]
        exact Nat.pow_le_pow_right (by decide) (Nat.le_trans (Nat.mul_le_mul_left a h2) h3)
      refine fin _ _ D0 H2 H4 x2 hS2 hn hD0 hd (by omega) ?_ (by have : 0 < 10 ^ fg.toNat := Nat.pow_pos (by decide); omega)
      rcases hfg with rfl | rfl | rfl | rfl
      · exact pw _ 31 _ 24 (by decide +kernel) (by omega) (by decide)
      · exact pw _ 201 _ 15 (by decide +kernel) (by omega) (by decide)
      · exact pw _ 998 _ 3 (by decide +kernel) (by omega) (by decide)
      · exact pw _ 3400 _ 0 (by decide +kernel) (by omega) (by decide)
end
end K00

set_option Elab.async false
set_option linter.all false
set_option maxRecDepth 100000
set_option maxHeartbeats 4000000
namespace K00
open PySem L2
structure F1 (d : D) : Prop where
  bd : Bs d
  id : ∀ i, d = .int i → i.natAbs < 2 ^ 4400
  sh : Sh d
  el : ∀ ds, d = .lst ds → ∀ x ∈ ds, Bd x
  sz : isRatiosD d = true → szs (lstD d) < 2 ^ 8000
theorem F1.fine {d e : D} (a : F1 d) (b : Bs e) (c : ∀ i, e = .int i → i.natAbs < 2 ^ 4400) : Fine d e := ⟨a.bd, b, a.id, c, a.sh, a.el, a.sz⟩
theorem Fine.f1 {d e : D} (f : Fine d e) : F1 d := ⟨f.bd, f.id, f.sh, f.el, f.sz⟩
theorem Bo.bs {d : D} (h : Bo d) : Bs d := fun n m e => ⟨pow_up (h n m e).1 (by decide), pow_up (h n m e).2 (by decide)⟩
theorem noL_lst {ds : List D} : noL (.lst ds) = true → False := fun h => Bool.noConfusion h
theorem ints_not : ∀ {is : List Int}, is ≠ [] → isRatiosD (.lst (is.map D.int)) = true → False
  | [], h, _ => h rfl
  | i :: is, _, h => by
    have : (isRatioD (.int i) && (is.map D.int).all isRatioD) = true := h
    rw [Bool.and_eq_true] at this
    exact Bool.noConfusion this.1
theorem Od.int {ne : Bool} {d : D} (o : Od ne d) : ∀ i, d = .int i → i.natAbs < 2 ^ 4400 := fun i e => by
  rcases o with ⟨_, h⟩ | ⟨is, h, _⟩ | h
  · exact pow_up (h i e) (by decide)
  · rw [e] at h; cases h
  · rw [e] at h; cases h
theorem Od.f1 {ne : Bool} {d : D} (o : Od ne d) (b : Bo d) : F1 d := by
  refine ⟨b.bs, o.int, fun ds e => ?_, fun ds e x hx => ?_, fun h => ?_⟩
  · subst e
    rcases o with ⟨h, _⟩ | ⟨is, h, hl, _⟩ | h
    · exact (noL_lst h).elim
    · cases h
      rw [List.length_map]
      omega
    · cases h
  · subst e
    rcases o with ⟨h, _⟩ | ⟨is, h, hl, _⟩ | h
    · exact (noL_lst h).elim
    · cases h
      obtain ⟨i, _, rfl⟩ := List.mem_map.mp hx
      exact fun n m e => by cases e
    · cases h
  · cases d with
    | lst ds =>
      rcases o with ⟨h', _⟩ | ⟨is, h', hl, _⟩ | h'
      · exact (noL_lst h').elim
      · cases h'
        by_cases e : is = []
        · subst e
          show (1 : Nat) < _
          exact Nat.lt_of_lt_of_le (by decide : 1 < 2 ^ 1) (Nat.pow_le_pow_right (by decide) (by decide))
        · exact (ints_not e h).elim
      · cases h'
    | _ => cases h
theorem pow2_pos : (1 : Nat) < 2 ^ 8000 := Nat.lt_of_lt_of_le (by decide : 1 < 2 ^ 1) (Nat.pow_le_pow_right (by decide) (by decide))
theorem szs_append : ∀ (a b : List D), szs (a ++ b) = szs a * szs b
  | [], b => by show szs b = 1 * szs b; omega
  | r :: a, b => by
    show szD r * szs (a ++ b) = szD r * szs a * szs b
    rw [szs_append a b, Nat.mul_assoc]
section
variable {K : PySem.W.Frag} {st q : Addr} {H : Hp} {xs : List V} {o : HO}
mutual
theorem Val.lset (hq : H q = some (.lst xs)) : ∀ {v : V} {d : D}, noL d = true → Val K st H v d → Val K st (upd H q o) v d
  | _, _, _, .non => .non
  | _, _, _, .bl b => .bl b
  | _, _, _, .int i => .int i
  | _, _, _, .str s => .str s
  | _, _, hn, .tup h r => .tup (sqT_set hq h) (ValAll.lset hq hn r)
  | _, _, hn, .lst n h r => Bool.noConfusion hn
  | _, _, hn, .dct n h => Bool.noConfusion hn
theorem ValAll.lset (hq : H q = some (.lst xs)) : ∀ {vs : List V} {ds : List D}, noLs ds = true → ValAll K st H vs ds → ValAll K st (upd H q o) vs ds
  | _, _, _, .nil => .nil
  | _, _, hn, .cons h r => .cons (Val.lset hq (Bool.and_eq_true_iff.mp hn).1 h) (ValAll.lset hq (Bool.and_eq_true_iff.mp hn).2 r)
end
theorem ints_re {H' : Hp} : ∀ {is : List Int} {vs : List V}, ValAll K st H vs (is.map D.int) → ValAll K st H' vs (is.map D.int)
  | [], _, .nil => .nil
  | i :: is, _, .cons (.int _) r => .cons (.int _) (ints_re r)
theorem Od.set (hq : H q = some (.lst xs)) {ds : List D} (hv : ValAll K st H xs ds) (hr : ∀ r ∈ ds, isRatioD r = true) {y : V} {d : D} (od : Od true d) (vy : Val K st H y d) : Val K st (upd H q o) y d := by
  rcases od with ⟨h, _⟩ | ⟨is, rfl, _, hn⟩ | rfl
  · exact vy.lset hq h
  · cases vy with
    | @lst a ys es n h r =>
      refine .lst n ?_ (ints_re r)
      have ne := hn rfl
      have na : ∀ zs, H a = some (.lst zs) → zs = ys → a ≠ q := fun zs ha hz e => by
        rw [e, hq] at ha
        cases ha
        subst hz
        cases is with
        | nil => exact ne rfl
        | cons i is =>
          cases r with
          | cons h1 _ =>
            cases h1
            cases hv with
            | @cons _ _ d1 ds1 h2 _ =>
              obtain ⟨n1, m1, rfl, _⟩ := isRatioD_inv (hr d1 (by simp))
              cases h2
      rcases h with (h | ⟨u, h⟩) | h
      · exact .inl (.inl (by rw [upd_ne (na ys h rfl)]; exact h))
      · refine .inl (.inr ⟨u, ?_⟩)
        rw [upd_ne (fun e => by rw [e, hq] at h; cases h)]
        exact h
      · exact .inr h
  · cases vy with
    | dct n h => exact .dct n (by rw [upd_ne (fun e => by rw [e, hq] at h; cases h)]; exact h)
end
def spBad (K : PySem.W.Frag) : Sp := fun vs H Q _ => ∃ (st a : Addr) (way : Nat) (v x : V) (d e : D), vs = [.ref st, .int (way : Int), .ref a] ∧ way ≤ 9 ∧ StAt H st ∧ SqT K H a [.int (way : Int), v, x] ∧ Val K st H v d ∧ Val K st H x e ∧ Fine d e ∧
  (way = 8 → ∃ ds, d = .lst ds ∧ (∀ r ∈ ds, isRatioD r = true) ∧ ds.length ≤ 300 ∧ szs ds ≤ 2 ^ 3100) ∧
  ∀ (b : Addr) (v' x' : V) (d' e' : D) (H' : Hp), Ext st H H' → SqT K H' b [.int (way : Int), v', x'] → Val K st H' v' d' → Val K st H' x' e' → Fine d' e' → Q (.ref b) H'
end K00

set_option Elab.async false
set_option linter.all false
set_option maxRecDepth 100000
set_option maxHeartbeats 4000000
namespace K00
open PySem L2
theorem f1_tup {ds : List D} (h : ∀ r ∈ ds, isRatioD r = true) : F1 (.tup ds) := by
  refine ⟨fun n m e => ?_, fun i e => (by cases e), fun _ e => (by cases e), fun _ e => (by cases e), fun h => Bool.noConfusion h⟩
  cases e
  have := h (.int n) (by simp)
  cases this
theorem f1_no {d : D} (h1 : Bs d) (h2 : ∀ i, d = .int i → i.natAbs < 2 ^ 4400) (h3 : ∀ ds, d ≠ .lst ds) : F1 d := by
  refine ⟨h1, h2, fun _ e => (h3 _ e).elim, fun _ e => (h3 _ e).elim, fun h => ?_⟩
  cases d with
  | lst ds => exact (h3 _ rfl).elim
  | _ => cases h
/-- a bad argument -/
structure Gd (d : D) : Prop where
  f : F1 d
theorem gd_si {i : Int} (h : i.natAbs < 2 ^ 4400) : F1 (.int i) := f1_no (fun n m e => by cases e) (fun j e => by cases e; exact h) (fun _ e => by cases e)
theorem lt44 {k : Nat} (h : k < 2 ^ 10) : k < 2 ^ 4400 := pow_up h (by decide)
theorem f1_list {ds : List D} {d : D} {i : Nat} (hr : ∀ r ∈ ds, isRatioD r = true) (hl : ds.length ≤ 300) (hz : szs ds ≤ 2 ^ 3100) (hbd : ∀ x ∈ ds, Bd x) (hd : Bo d) : F1 (.lst (ds.take i ++ [d] ++ ds.drop i)) := by
  refine ⟨fun n m e => by (cases e), fun j e => by (cases e), fun es e => ?_, fun es e x hx => ?_, fun h => ?_⟩
  · cases e
    simp only [List.length_append, List.length_take, List.length_drop, List.length_singleton]
    omega
  · cases e
    rcases List.mem_append.mp hx with hx | hx
    · rcases List.mem_append.mp hx with hx | hx
      · exact hbd x (List.mem_of_mem_take hx)
      · rw [List.mem_singleton.mp hx]
        exact hd.bs.bd
    · exact hbd x (List.mem_of_mem_drop hx)
  · show szs (ds.take i ++ [d] ++ ds.drop i) < 2 ^ 8000
    have hm : d ∈ ds.take i ++ [d] ++ ds.drop i := by simp
    have hdr : isRatioD d = true := List.all_eq_true.mp h d hm
    obtain ⟨n, m, rfl, l⟩ := isRatioD_inv hdr
    obtain ⟨b1, b2⟩ := hd n m rfl
    rw [szs_append, szs_append]
    have e1 : szs (ds.take i) * szs (ds.drop i) = szs ds := by rw [← szs_append, List.take_append_drop]
    have e2 : szs [D.tup [.int n, .int m]] = n.natAbs + m.natAbs := by
      show (n.natAbs + m.natAbs) * 1 = _
      omega
    have e3 : szs (ds.take i) * szs [D.tup [.int n, .int m]] * szs (ds.drop i) = szs ds * (n.natAbs + m.natAbs) := by
      rw [e2, ← e1]
      grind
    rw [e3]
    have s1 : n.natAbs + m.natAbs ≤ 2 ^ 201 := by
      have : (2 : Nat) ^ 201 = 2 ^ 200 * 2 := Nat.pow_succ ..
      omega
    refine Nat.lt_of_le_of_lt (Nat.mul_le_mul hz s1) ?_
    rw [← Nat.pow_add]
    exact Nat.pow_lt_pow_right (by decide) (by decide)
theorem ret_of {c : V} {r : R2} {ta tb : TE} {t : TA} {D : Ends} {σ : L2.St} {H : Hp} (h : ta σ H fun x H1 => tb σ H1 fun y H2 => r x y H2 fun z H3 => t σ H3 fun vs H4 => (c :: z :: vs).length ≤ sizeLine ∧ ∀ p, H4 p = none → D.rt (.ref p) (upd H4 p (.tup (c :: z :: vs)))) :
    tRet (tTup (tCons (tC c) (tCons (tOp r ta tb) t))) D σ H := h
theorem rat_bd {ds : List D} (hr : ∀ r ∈ ds, isRatioD r = true) (hz : szs ds ≤ 2 ^ 3100) : ∀ x ∈ ds, Bd x := fun x hx n m e => by
  have a := szD_mem hr hx
  subst e
  have a' : n.natAbs + m.natAbs ≤ szs ds := a
  have b : szs ds < 2 ^ 8000 := Nat.lt_of_le_of_lt hz (Nat.pow_lt_pow_right (by decide) (by decide))
  exact sz_lt a' b
theorem ValAll.take {K : PySem.W.Frag} {st : Addr} {H : Hp} : ∀ {vs : List V} {ds : List D} (k : Nat), ValAll K st H vs ds → ValAll K st H (vs.take k) (ds.take k)
  | _, _, 0, _ => by rw [List.take_zero, List.take_zero]; exact .nil
  | _, _, k + 1, .nil => .nil
  | _, _, k + 1, .cons h r => .cons h (ValAll.take k r)
section
variable {P : Program} {w : World} {K : PySem.W.Frag} {mg : Str → Option Value} {base : Heap}
abbrev s_bad_ask : Stmt := top 83
theorem sc_bad_ask : FnScope ["_law_store_here", "_law_way", "_law_ask", "_law_listed", "_law_bad", "_law_spot"] ["_law_store_here", "_law_way", "_law_ask"] (defScope s_bad_ask) := ⟨rfl, rfl, rfl, by decide +kernel, rfl, by decide +kernel, by decide +kernel⟩
theorem ok_bad_ask {f : Addr} {fd : FuncData} (F : Fun K "_law_bad_ask" "_law_bad_ask" s_bad_ask f fd) (T : TxtP K mg) (c_take : Callee P w K mg base CX0 126 "_law_take" psT (spTake 125)) (c_edge : Callee P w K mg base CX0 127 "_law_edge" psT spEdge)
    (c_not_integer : Callee P w K mg base CX0 128 "_law_not_integer" ["_law_store_here"] (fun vs H Q E => spOdd K false vs H Q E ∧ vs.length = 1)) (c_not_ratio : Callee P w K mg base CX0 129 "_law_not_ratio" ["_law_store_here", "_law_none_too"] (fun vs H Q E => spOdd K true vs H Q E ∧ vs.length = 2)) :
    FnOk P w K mg base CX0 130 f fd ["_law_store_here", "_law_way", "_law_ask"] (spBad K) := by
  refine F.ok sc_bad_ask (fun vs H Q E h => ?_) (fun cdv A outer s H vs Q E hr h => ?_)
  · obtain ⟨_, _, _, _, _, _, _, rfl, _⟩ := h
    rfl
  · obtain ⟨st, a, way, v, x, d, e, rfl, hw, hS, ha, hv, hx, hf, h8, k⟩ := h
    refine ⟨_, (C8.pss_cut (ps_if (PW.pt (pw_and (pt_cmpR op_eq (pv 1) pe_int (nomark _)) (pw_and1 (pt_cmpR op_eq (pe_fn c_take (hr.mono (by decide)) (by rfl) pass0 (pa_cons (pv 0) (pa_cons pe_int pa_nil))) pe_int (nomark _))))) (pss_one (ps_ret (pe_tup (pa_cons pe_int (pa_cons (pe_ix ix_list (pe_lst (pa_cons pe_non (pa_cons (pe_tup pa_nil) (pa_cons (pe_callTy call_tuple_of (by rfl) T.tuple (by decide +kernel) (pa_cons (pe_ix ix_seq (pv 2) pe_int (fun _ _ => rfl)) pa_nil)) (pa_cons pe_dnewK (pa_cons (pe_tup (pa_cons pe_int (pa_cons pe_int pa_nil))) (pa_cons pe_int (pa_cons pe_str pa_nil)))))))) (pe_fn c_take (hr.mono (by decide)) (by rfl) pass0 (pa_cons (pv 0) (pa_cons pe_int pa_nil))) (fun _ _ => rfl)) (pa_cons pe_non pa_nil)))))) pss_nil)
  (pss_cons (ps_if (pt_cmpR op_eq (pv 1) pe_int (nomark _)) (pss_cons (ps_set (i := 3) sc_bad_ask.nd rfl (Or.inl rfl) (pe_callTy call_list_of (by rfl) T.list (by decide +kernel) (pa_cons (pe_ix ix_seq (pv 2) pe_int (fun _ _ => rfl)) pa_nil)))
  (pss_cons (ps_expr (pe_bm PySem.F.plainAttrs_list PySem.F.slot_list_insert PySem.F.type_list_insert mt_insert (pv 3) (pa_cons (pe_fn c_edge (hr.mono (by decide)) (by rfl) pass0 (pa_cons (pv 0) (pa_cons (pe_op op_add (pe_callB call_len_seq (by rfl) T.len PySem.boot_len (pa_cons (pv 3) pa_nil)) pe_int) pa_nil))) (pa_cons (pe_fn c_not_ratio (hr.mono (by decide)) (by rfl) pass0 (pa_cons (pv 0) (pa_cons pe_bl pa_nil))) pa_nil))))
  (pss_one (ps_ret (pe_tup (pa_cons pe_int (pa_cons (pv 3) (pa_cons pe_non pa_nil)))))))) pss_nil)
  (C8.pss_cut (ps_if (PW.pt (pw_or (pt_cmpR op_eq (pv 1) pe_int (nomark _)) (pw_or1 (pt_cmpR op_eq (pv 1) pe_int (nomark _))))) (pss_one (ps_set (i := 4) sc_bad_ask.nd rfl (Or.inl rfl) (pe_lst (pa_cons (pe_fn c_not_integer (hr.mono (by decide)) (by rfl) pass0 (pa_cons (pv 0) pa_nil)) (pa_cons (pe_fn c_not_integer (hr.mono (by decide)) (by rfl) pass0 (pa_cons (pv 0) pa_nil)) (pa_cons pe_int pa_nil)))))) (pss_one (ps_set (i := 4) sc_bad_ask.nd rfl (Or.inl rfl) (pe_lst (pa_cons (pe_fn c_not_ratio (hr.mono (by decide)) (by rfl) pass0 (pa_cons (pv 0) (pa_cons pe_bl pa_nil))) (pa_cons (pe_fn c_not_ratio (hr.mono (by decide)) (by rfl) pass0 (pa_cons (pv 0) (pa_cons pe_bl pa_nil))) (pa_cons (pe_tup (pa_cons pe_int (pa_cons pe_int pa_nil))) pa_nil)))))))
  (pss_cons (ps_set (i := 5) sc_bad_ask.nd rfl (Or.inl rfl) (pe_fn c_take (hr.mono (by decide)) (by rfl) pass0 (pa_cons (pv 0) (pa_cons pe_int pa_nil))))
  (pss_cons (ps_if (pt_cmpR op_lt (pv 5) pe_int (nomark _)) (pss_one (ps_ret (pe_tup (pa_cons (pv 1) (pa_cons (pe_ix ix_seq (pv 4) pe_int (fun _ _ => rfl)) (pa_cons (pe_ix ix_list (pe_lst (pa_cons (pe_ix ix_seq (pv 2) pe_int (fun _ _ => rfl)) (pa_cons (pe_ix ix_seq (pv 4) pe_int (fun _ _ => rfl)) pa_nil))) (pv 5) (fun _ _ => rfl)) pa_nil)))))) pss_nil)
  (pss_cons (ps_if (pt_cmpR op_eq (pv 5) pe_int (nomark _)) (pss_one (ps_ret (pe_tup (pa_cons (pv 1) (pa_cons (pe_ix ix_seq (pv 4) pe_int (fun _ _ => rfl)) (pa_cons (pe_ix ix_seq (pv 4) pe_int (fun _ _ => rfl)) pa_nil)))))) pss_nil)
  (pss_one (ps_ret (pe_tup (pa_cons (pv 1) (pa_cons (pe_ix ix_seq (pv 2) pe_int (fun _ _ => rfl)) (pa_cons (pe_ix ix_seq (pv 4) (pe_op op_add (pe_op op_mod (pe_callTy call_int1 (by rfl) T.int (by decide +kernel) (pa_cons (pv 5) pa_nil)) pe_int) pe_int) (fun _ _ => rfl)) pa_nil)))))))))))), ?_⟩
    have s3 : ([V.non, V.non, V.non] : List V).length ≤ sizeLine := by show 3 ≤ sizeLine; decide
    have none_e : ∀ {d' : D}, F1 d' → Fine d' .non := fun h => h.fine (fun n m e => by cases e) (fun i e => by cases e)
    refine ⟨fun σ H1 => σ = [some (.ref st), some (.int (way : Int)), some (.ref a), none, none, none] ∧ Ext st H H1, ?_, ?_⟩
    · by_cases w8 : way = 8
      · subst w8
        obtain ⟨ds, rfl, hrr, hl3, hz3⟩ := h8 rfl
        refine ⟨_, rfl, rfl, _, rfl, eqT rfl ⟨_, rfl, st, 3, rfl, hS, lim124s (by decide), fun r H1 r1 x1 => ⟨rfl, _, rfl, ite2 (fun _ => ?_) (fun _ => ⟨rfl, x1⟩)⟩⟩⟩
        have hS1 := x1.at_
        have ha1 := sqT_ext hS x1 ha
        have hv1 := hv.ext hS x1
        have gt : Gv K st [some (V.ref st), some (V.int ((8 : Nat) : Int)), some (V.ref a), none, none, none] H1 (tCB (fun xs H Q => ∃ p ys, xs = [.ref p] ∧ ((SqL K H p ys ∧ ∀ l, H l = none → Q (.ref l) (upd H l (.tup ys))) ∨ (SqT K H p ys ∧ Q (.ref p) H))) (tCons (tOp (rIx K) (tVar 2) (tC (.int 1))) tNil)) (.tup ds) := fun H2 s2 Q2 k2 => by
          cases hv1 with
          | @lst l xs _ n h r =>
            refine ⟨_, rfl, rIx_at (j := 1) (.inr (sqT_same s2 ha1)) rfl ⟨l, xs, rfl, .inl ⟨sqL_same (st := st) (fun b o _ q => s2 b o q) n h, fun c hc => k2 _ _ (Same.new hc) (.tup (SqT.of upd_same) ((r.same s2).same (Same.new hc)))⟩⟩⟩
        have gA : GvA K st [some (V.ref st), some (V.int ((8 : Nat) : Int)), some (V.ref a), none, none, none] H1 (tCons (tC .non) (tCons (tTup tNil) (tCons (tCB (fun xs H Q => ∃ p ys, xs = [.ref p] ∧ ((SqL K H p ys ∧ ∀ l, H l = none → Q (.ref l) (upd H l (.tup ys))) ∨ (SqT K H p ys ∧ Q (.ref p) H))) (tCons (tOp (rIx K) (tVar 2) (tC (.int 1))) tNil)) (tCons tDNewK (tCons (tTup (tCons (tC (.int 0)) (tCons (tC (.int 1)) tNil))) (tCons (tC (.int 0)) (tCons (tC (.str "")) tNil))))))) [.non, .tup [], .tup ds, .dct, .tup [.int 0, .int 1], .int 0, .str ""] :=
          .cons .non (.cons (.tup .nil (by decide)) (.cons gt (.cons (.dct hS1) (.cons (.tup (.cons .int (.cons .int .nil)) (by show 2 ≤ 1000; decide)) (.cons .int (.cons .str .nil))))))
        refine ret_of (GvL.lst hS1 gA (by show 7 ≤ 1000; decide) H1 (Same.refl H1) _ (fun p vs0 H2 s2 np hp hv0 => ?_))
        have x2 := Ext.ofSame hS1 s2
        refine ⟨_, rfl, st, 7, rfl, x2.at_, lim124s (by decide), fun r3 H3 rr3 x3 => ?_⟩
        have hp3 : H3 p = some (.lst vs0) := x3.old _ _ np hp
        have r0 := rr3.1
        have hl : vs0.length = 7 := hv0.length
        have r1' : r3 < 7 := by have := rr3.2; omega
        have hi : r3.toNat < vs0.length := by omega
        obtain ⟨d', hd', hvd⟩ := (hv0.ext x2.at_ x3).get (List.getElem?_eq_getElem hi)
        refine ⟨_, _, _, _, rfl, rfl, SqL.of hp3, at_of (j := r3.toNat) (by omega) (List.getElem?_eq_getElem hi), s3, fun b hb => ?_⟩
        refine k b _ .non d' .non _ (((x1.trans x2).trans x3).trans (Ext.new x3.at_ hb)) (SqT.of upd_same) (hvd.same (Same.new hb)) .non (none_e ?_)
        have hm := List.mem_of_getElem? hd'
        simp only [List.mem_cons, List.not_mem_nil, or_false] at hm
        rcases hm with rfl | rfl | rfl | rfl | rfl | rfl | rfl
        · exact f1_no (fun n m e => by cases e) (fun i e => by cases e) (fun _ e => by cases e)
        · exact f1_no (fun n m e => by cases e) (fun i e => by cases e) (fun _ e => by cases e)
        · exact f1_tup hrr
        · exact f1_no (fun n m e => by cases e) (fun i e => by cases e) (fun _ e => by cases e)
        · exact f1_no (fun n m e => by cases e; exact ⟨lt44 (by decide), lt44 (by decide)⟩) (fun i e => by cases e) (fun _ e => by cases e)
        · exact gd_si (lt44 (by decide))
        · exact f1_no (fun n m e => by cases e) (fun i e => by cases e) (fun _ e => by cases e)
      · exact ⟨_, rfl, rfl, _, rfl, eqF (ne_n (b := 8) w8) (iteF ⟨rfl, hS.ext⟩)⟩
    rintro σ H1 ⟨rfl, x1⟩
    have hS1 := x1.at_
    have ha1 := sqT_ext hS x1 ha
    have hv1 := hv.ext hS x1
    have hx1 := hx.ext hS x1
    by_cases w8 : way = 8
    · subst w8
      obtain ⟨ds, rfl, hrr, hl3, hz3⟩ := h8 rfl
      cases hv1 with
      | @lst l xs _ n h r =>
        have hlen : xs.length = ds.length := r.length
        refine ⟨_, rfl, rfl, _, rfl, eqT rfl ⟨_, rfl, rIx_at (j := 1) (.inr ha1) rfl ⟨l, xs, rfl, .inl h, fun q hq => ?_⟩⟩⟩
        have nq := St.ne hS1 hq
        have x2 := Ext.new (o := .lst xs) hS1 hq
        refine ⟨_, rfl, .inl ⟨rfl, _, SqL.of upd_same⟩, _, rfl, _, rfl, q, _, rfl, .inl (SqL.of upd_same), _, _, rfl, rfl, st, _, rfl, x2.at_, lim124s (by omega), fun g H3 rg x3 => ?_⟩
        have g0 := rg.1
        have g1 : g < 302 := by have := rg.2; omega
        refine ⟨_, rfl, ⟨st, .inr ⟨true, rfl⟩, x3.at_, fun y dy H4 x4 vy bo od => ?_⟩, rfl⟩
        have hq4 : H4 q = some (.lst xs) := x4.old _ _ nq (x3.old _ _ nq upd_same)
        have x14 := (x2.trans x3).trans x4
        refine ⟨q, xs, g, y, rfl, rfl, hq4, by rw [sizeLine_eq]; omega, g0, Int.lt_of_lt_of_le g1 (by decide), _, rfl, s3, fun b hb => ?_⟩
        have r4 : ValAll K st H4 xs ds := r.ext hS1 x14
        have x5 : Ext st H1 (upd H4 q (.lst (xs.take g.toNat ++ [y] ++ xs.drop g.toNat))) := Ext.set hS1 x14 nq hq
        have rv : ValAll K st (upd H4 q (.lst (xs.take g.toNat ++ [y] ++ xs.drop g.toNat))) xs ds := ((r4.re (st' := q) hrr).mono (fun b o hb e => by rw [upd_ne hb]; exact e) fun b zs z => sqT_set hq4 z).re hrr
        have vy5 : Val K st (upd H4 q (.lst (xs.take g.toNat ++ [y] ++ xs.drop g.toNat))) y dy := od.set hq4 r4 hrr vy
        have nw : ValAll K st (upd H4 q (.lst (xs.take g.toNat ++ [y] ++ xs.drop g.toNat))) (xs.take g.toNat ++ [y] ++ xs.drop g.toNat) (ds.take g.toNat ++ [dy] ++ ds.drop g.toNat) := ((rv.take g.toNat).append (.cons vy5 .nil)).append (rv.drop g.toNat)
        refine k b (.ref q) .non _ .non _ ((x1.trans x5).trans (Ext.new x5.at_ hb)) (SqT.of upd_same) (.lst nq (SqL.of (Same.new hb _ _ upd_same)) (nw.same (Same.new hb))) .non (none_e (f1_list hrr hl3 hz3 (rat_bd hrr hz3) bo))
    · refine ⟨_, rfl, rfl, _, rfl, eqF (ne_n (b := 8) w8) ?_⟩
      refine ⟨fun σ H2 => ∃ p b0 b1 b2 d0 d1 d2, σ = [some (.ref st), some (.int (way : Int)), some (.ref a), none, some (.ref p), none] ∧ Ext st H H2 ∧ H2 p = some (.lst [b0, b1, b2]) ∧ p ≠ st ∧ Val K st H2 b0 d0 ∧ Val K st H2 b1 d1 ∧ Val K st H2 b2 d2 ∧ F1 d0 ∧ F1 d1 ∧ F1 d2, ?_, ?_⟩
      · have first : tAsg (tLst (tCons (tCall (fun vs H Q E => spOdd K false vs H Q E ∧ vs.length = 1) [] E0 (tCons (tVar 0) tNil)) (tCons (tCall (fun vs H Q E => spOdd K false vs H Q E ∧ vs.length = 1) [] E0 (tCons (tVar 0) tNil)) (tCons (tC (.int 0)) tNil)))) (gName 4)
          { nx := fun σ H2 => ∃ p b0 b1 b2 d0 d1 d2, σ = [some (.ref st), some (.int (way : Int)), some (.ref a), none, some (.ref p), none] ∧ Ext st H H2 ∧ H2 p = some (.lst [b0, b1, b2]) ∧ p ≠ st ∧ Val K st H2 b0 d0 ∧ Val K st H2 b1 d1 ∧ Val K st H2 b2 d2 ∧ F1 d0 ∧ F1 d1 ∧ F1 d2, rt := Q } [some (.ref st), some (.int (way : Int)), some (.ref a), none, none, none] H1 := by
          refine ⟨_, rfl, ⟨st, .inl rfl, hS1, fun y0 d0 H2 x2 v0 bo0 od0 => ⟨_, rfl, ⟨st, .inl rfl, x2.at_, fun y1 d1 H3 x3 v1 bo1 od1 => ⟨s3, fun p hp => ?_⟩⟩, rfl⟩⟩, rfl⟩
          have x13 := (x1.trans x2).trans x3
          exact ⟨p, y0, y1, .int 0, d0, d1, .int 0, rfl, x13.trans (Ext.new x13.at_ hp), upd_same, St.ne x13.at_ hp, (v0.ext x2.at_ x3).same (Same.new hp), v1.same (Same.new hp), .int _, od0.f1 bo0, od1.f1 bo1, gd_si (lt44 (by decide))⟩
        by_cases w0 : way = 0
        · subst w0
          exact ⟨_, rfl, rfl, _, rfl, eqT rfl (iteT first)⟩
        · by_cases w9 : way = 9
          · subst w9
            exact ⟨_, rfl, rfl, _, rfl, eqF (by decide) ⟨_, rfl, rfl, _, rfl, eqT rfl first⟩⟩
          · refine ⟨_, rfl, rfl, _, rfl, eqF (ne_n (b := 0) w0) ⟨_, rfl, rfl, _, rfl, eqF (ne_n (b := 9) w9) ?_⟩⟩
            refine ⟨_, rfl, ⟨st, .inr ⟨true, rfl⟩, hS1, fun y0 d0 H2 x2 v0 bo0 od0 => ⟨_, rfl, ⟨st, .inr ⟨true, rfl⟩, x2.at_, fun y1 d1 H3 x3 v1 bo1 od1 => ⟨by show 2 ≤ sizeLine; decide, fun c hc => ⟨s3, fun p hp => ?_⟩⟩⟩, rfl⟩⟩, rfl⟩
            have x13 := (x1.trans x2).trans x3
            have xc := x13.trans (Ext.new (o := .tup [.int 0, .int 1]) x13.at_ hc)
            exact ⟨p, y0, y1, .ref c, d0, d1, .tup [.int 0, .int 1], rfl, xc.trans (Ext.new xc.at_ hp), upd_same, St.ne xc.at_ hp, ((v0.ext x2.at_ x3).same (Same.new hc)).same (Same.new hp), (v1.same (Same.new hc)).same (Same.new hp),
              .tup (SqT.of (Same.new hp _ _ upd_same)) (.cons (.int _) (.cons (.int _) .nil)), od0.f1 bo0, od1.f1 bo1, f1_no (fun n m e => by cases e; exact ⟨lt44 (by decide), lt44 (by decide)⟩) (fun i e => by cases e) (fun _ e => by cases e)⟩
      · rintro σ H2 ⟨p, b0, b1, b2, d0, d1, d2, rfl, x2, hp, np, v0, v1, v2, g0, g1, g2⟩
        refine ⟨_, rfl, st, 5, rfl, x2.at_, lim124s (by decide), fun sp H3 rs x3 => ?_⟩
        have s0 := rs.1
        have s5 : sp < 5 := by have := rs.2; omega
        have hS3 := x3.at_
        have x13 := x2.trans x3
        have hp3 : H3 p = some (.lst [b0, b1, b2]) := x3.old _ _ np hp
        have ha3 := sqT_ext hS x13 ha
        have hv3 := hv.ext hS x13
        have hx3 := hx.ext hS x13
        have v0 := v0.ext x2.at_ x3
        have v1 := v1.ext x2.at_ x3
        have v2 := v2.ext x2.at_ x3
        have both : ∀ {a b : D}, F1 a → F1 b → Fine a b := fun h1 h2 => h1.fine h2.bd h2.id
        refine ⟨_, rfl, _, _, rfl, rfl, _, rfl, ite2 (fun l2 => ?_) (fun l2 => ?_)⟩
        · have l2' : sp < 2 := of_decide_eq_true l2
          have : sp = 0 ∨ sp = 1 := by omega
          rcases this with rfl | rfl
          · refine ⟨_, rfl, _, rfl, rIx_at (j := 0) (.inl (SqL.of hp3)) rfl ⟨_, rfl, rIx_at (j := 2) (.inr ha3) rfl ⟨_, rfl, rIx_at (j := 2) (.inl (SqL.of hp3)) rfl ⟨by show 2 ≤ sizeLine; decide, fun q hq => ⟨_, rfl, q, _, _, _, rfl, rfl, SqL.of upd_same, atI_nat (j := 0) rfl, s3, fun b hb => ?_⟩⟩⟩⟩⟩
            have xq := x13.trans (Ext.new (o := .lst [x, b2]) hS3 hq)
            exact k b _ _ d0 e _ (xq.trans (Ext.new xq.at_ hb)) (SqT.of upd_same) ((v0.same (Same.new hq)).same (Same.new hb)) ((hx3.same (Same.new hq)).same (Same.new hb)) (g0.fine hf.be hf.ie)
          · refine ⟨_, rfl, _, rfl, rIx_at (j := 0) (.inl (SqL.of hp3)) rfl ⟨_, rfl, rIx_at (j := 2) (.inr ha3) rfl ⟨_, rfl, rIx_at (j := 2) (.inl (SqL.of hp3)) rfl ⟨by show 2 ≤ sizeLine; decide, fun q hq => ⟨_, rfl, q, _, _, _, rfl, rfl, SqL.of upd_same, atI_nat (j := 1) rfl, s3, fun b hb => ?_⟩⟩⟩⟩⟩
            have xq := x13.trans (Ext.new (o := .lst [x, b2]) hS3 hq)
            exact k b _ _ d0 d2 _ (xq.trans (Ext.new xq.at_ hb)) (SqT.of upd_same) ((v0.same (Same.new hq)).same (Same.new hb)) ((v2.same (Same.new hq)).same (Same.new hb)) (both g0 g2)
        · have l2' : ¬ sp < 2 := fun z => l2 (decide_eq_true z)
          refine ⟨_, rfl, rfl, _, rfl, ite2 (fun e2 => ?_) (fun e2 => ?_)⟩
          · refine ⟨_, rfl, _, rfl, rIx_at (j := 0) (.inl (SqL.of hp3)) rfl ⟨_, rfl, rIx_at (j := 1) (.inl (SqL.of hp3)) rfl ⟨s3, fun b hb => ?_⟩⟩⟩
            exact k b _ _ d0 d1 _ (x13.trans (Ext.new hS3 hb)) (SqT.of upd_same) (v0.same (Same.new hb)) (v1.same (Same.new hb)) (both g0 g1)
          · have n2 : sp ≠ 2 := int_ne e2
            have : sp = 3 ∨ sp = 4 := by omega
            rcases this with rfl | rfl
            · refine ⟨_, rfl, _, rfl, rIx_at (j := 1) (.inr ha3) rfl ⟨_, rfl, _, rfl, .inl ⟨_, rfl, _, _, rfl, rfl, by decide, _, _, rfl, rfl, ?_⟩⟩⟩
              show rIx K (.ref p) (.int 1) _ _
              refine rIx_at (j := 1) (.inl (SqL.of hp3)) rfl ⟨s3, fun b hb => ?_⟩
              exact k b _ _ d d1 _ (x13.trans (Ext.new hS3 hb)) (SqT.of upd_same) (hv3.same (Same.new hb)) (v1.same (Same.new hb)) (both hf.f1 g1)
            · refine ⟨_, rfl, _, rfl, rIx_at (j := 1) (.inr ha3) rfl ⟨_, rfl, _, rfl, .inl ⟨_, rfl, _, _, rfl, rfl, by decide, _, _, rfl, rfl, ?_⟩⟩⟩
              show rIx K (.ref p) (.int 2) _ _
              refine rIx_at (j := 2) (.inl (SqL.of hp3)) rfl ⟨s3, fun b hb => ?_⟩
              exact k b _ _ d d2 _ (x13.trans (Ext.new hS3 hb)) (SqT.of upd_same) (hv3.same (Same.new hb)) (v2.same (Same.new hb)) (both hf.f1 g2)
end
end K00

set_option Elab.async false
set_option linter.all false
set_option maxRecDepth 100000
set_option maxHeartbeats 4000000
namespace K00
open PySem L2
theorem ratD_eq {p q n a : Int} (l : Lo n a) (hq : q ≠ 0) (h : p * a = q * n) : ratD (p, q) = .tup [.int n, .int a] := by
  have l2 := lo_low (u := p) (d := q) hq
  have c := low_cross (u := p) (d := q)
  have e : lowN p q * a = lowD p q * n := by
    refine Int.eq_of_mul_eq_mul_right hq ?_
    have e1 : lowN p q * a * q = (lowN p q * q) * a := by grind
    rw [e1, c, Int.mul_assoc, h]
    grind
  have u := low_uniq l2.pos l.pos l2.cop l.cop e
  show D.tup [.int (lowN p q), .int (lowD p q)] = _
  rw [u.1, u.2]
section
variable {n a m b : Int}
theorem undo_mul (l1 : Lo n a) (l2 : Lo m b) (m0 : m ≠ 0) : ansD 4 (ansD 3 (.tup [.int n, .int a]) (.tup [.int m, .int b])) (.tup [.int m, .int b]) = .tup [.int n, .int a] := by
  have ab := mz l1 l2
  have c := low_cross (u := n * m) (d := a * b)
  have lp := lowD_pos (u := n * m) ab
  refine ratD_eq (p := lowN (n * m) (a * b) * b) (q := lowD (n * m) (a * b) * m) l1 (Int.mul_ne_zero (by omega) m0) ?_
  grind
theorem undo_add (l1 : Lo n a) (l2 : Lo m b) : ansD 2 (ansD 1 (.tup [.int n, .int a]) (.tup [.int m, .int b])) (.tup [.int m, .int b]) = .tup [.int n, .int a] := by
  have ab := mz l1 l2
  have c := low_cross (u := n * b + m * a) (d := a * b)
  have lp := lowD_pos (u := n * b + m * a) ab
  have b0 : b ≠ 0 := by have := l2.pos; omega
  refine ratD_eq (p := lowN (n * b + m * a) (a * b) * b - m * lowD (n * b + m * a) (a * b)) (q := lowD (n * b + m * a) (a * b) * b) l1 (Int.mul_ne_zero (by omega) b0) ?_
  grind
theorem undo_neg (l1 : Lo n a) (e e' : D) : ansD 6 (ansD 6 (.tup [.int n, .int a]) e) e' = .tup [.int n, .int a] := by
  have a0 : a ≠ 0 := by have := l1.pos; omega
  have c := low_cross (u := -n) (d := a)
  have lp := lowD_pos (u := -n) a0
  refine ratD_eq (p := -lowN (-n) a) (q := lowD (-n) a) l1 (by omega) ?_
  grind
theorem rat_tup (l : Lo n a) : isRatioD (.tup [.int n, .int a]) = true := by
  show (decide (1 ≤ a) && decide (Nat.gcd n.natAbs a.natAbs = 1)) = true
  rw [decide_eq_true (by have := l.pos; omega), decide_eq_true l.cop]
  rfl
theorem bs_tup (h1 : n.natAbs < 2 ^ 4400) (h2 : a.natAbs < 2 ^ 4400) : Bs (.tup [.int n, .int a]) := fun x y e => by
  cases e
  exact ⟨h1, h2⟩
end
theorem fit_pair {i j : Int} {k : Nat} : Fit (k + 1) (.tup [.int i, .int j]) := ⟨by show 2 ≤ 100000; decide, fun q hq => by
  rcases List.mem_cons.mp hq with e | hq
  · rw [e]; cases k <;> trivial
  · rw [List.mem_singleton.mp hq]; cases k <;> trivial⟩
theorem p44_of {n : Int} {k : Nat} (h : n.natAbs < 2 ^ k) (hk : k ≤ 4400) : n.natAbs < 2 ^ 4400 := pow_up h hk
theorem d9 {n : Int} (h : n.natAbs < 10 ^ (9 : Int).toNat) : n.natAbs < 2 ^ 30 := Nat.lt_trans h (by decide)
def spUndone (K : PySem.W.Frag) : Sp := fun vs H Q _ => ∃ (st : Addr) (v x : V) (n a m b : Int), vs = [v, x] ∧ RatV K H v n a ∧ RatV K H x m b ∧ Dr 9 n a ∧ Dr 9 m b ∧ ∀ H', Same H H' → Q (.bl true) H'
section
variable {P : Program} {w : World} {K : PySem.W.Frag} {mg : Str → Option Value} {base : Heap} {CW CZ : Addr}
abbrev s_undone : Stmt := top 84
theorem sc_undone : FnScope ["_law_one", "_law_two"] ["_law_one", "_law_two"] (defScope s_undone) := ⟨rfl, rfl, rfl, by decide +kernel, rfl, by decide +kernel, by decide +kernel⟩
theorem ok_undone {f : Addr} {fd : FuncData} (F : Fun K "_law_undone" "_law_undone" s_undone f fd) (c_same : Callee P w K mg base CX0 5 "_law_same" ["_law_got", "_law_due"] (spSame K 4))
    (c_p_add : CalleeR P w K mg base 7 "add" ["one", "other"] [] (spApi K CW CZ 1 true fineR)) (c_p_subtract : CalleeR P w K mg base 7 "subtract" ["one", "other"] [] (spApi K CW CZ 2 true fineR))
    (c_p_multiply : CalleeR P w K mg base 7 "multiply" ["one", "other"] [] (spApi K CW CZ 3 true fineR)) (c_p_divide : CalleeR P w K mg base 7 "divide" ["one", "other"] [] (spApi K CW CZ 4 true fineR)) (c_p_negate : CalleeR P w K mg base 6 "negate" ["one"] [] (spApi K CW CZ 6 false fineR)) :
    FnOk P w K mg base CX0 8 f fd ["_law_one", "_law_two"] (spUndone K) := by
  refine F.ok sc_undone (fun vs H Q E h => ?_) (fun cdv A outer s H vs Q E hr h => ?_)
  · obtain ⟨_, _, _, _, _, _, _, rfl, _⟩ := h
    rfl
  · obtain ⟨st, v, x, n, a, m, b, rfl, hv, hx, d1, d2, k⟩ := h
    refine ⟨_, (C8.pss_cut (ps_if (PW.pt (pw_and (pt_cmpR op_ne (pe_ix ix_seq (pv 1) pe_int (fun _ _ => rfl)) pe_int (nomark _)) (pw_and1 (pt_not (pt_val (pe_fn c_same (hr.mono (by decide)) (by rfl) pass0 (pa_cons (pe_fnS c_p_divide (hr.mono (by decide)) (by rfl) tk0 (pa_cons (pe_fnS c_p_multiply (hr.mono (by decide)) (by rfl) tk0 (pa_cons (pv 0) (pa_cons (pv 1) pa_nil))) (pa_cons (pv 1) pa_nil))) (pa_cons (pv 0) pa_nil)))))))) (pss_one (ps_ret pe_bl)) pss_nil)
  (pss_one (ps_ret (pe_and (pe_fn c_same (hr.mono (by decide)) (by rfl) pass0 (pa_cons (pe_fnS c_p_subtract (hr.mono (by decide)) (by rfl) tk0 (pa_cons (pe_fnS c_p_add (hr.mono (by decide)) (by rfl) tk0 (pa_cons (pv 0) (pa_cons (pv 1) pa_nil))) (pa_cons (pv 1) pa_nil))) (pa_cons (pv 0) pa_nil))) (pe_one (pe_fn c_same (hr.mono (by decide)) (by rfl) pass0 (pa_cons (pe_fnS c_p_negate (hr.mono (by decide)) (by rfl) tk0 (pa_cons (pe_fnS c_p_negate (hr.mono (by decide)) (by rfl) tk0 (pa_cons (pv 0) pa_nil)) pa_nil)) (pa_cons (pv 0) pa_nil)))))))), ?_⟩
    have n9 := d9 d1.n
    have a9 := d9 d1.d
    have m9 := d9 d2.n
    have b9 := d9 d2.d
    have s9 : ∀ {z : Int}, z.natAbs < 2 ^ 30 → z.natAbs < 2 ^ 4400 := fun h => p44_of h (by decide)
    have B1 : Bs (.tup [.int n, .int a]) := bs_tup (s9 n9) (s9 a9)
    have B2 : Bs (.tup [.int m, .int b]) := bs_tup (s9 m9) (s9 b9)
    have R1 := rat_tup d1.lo
    have R2 := rat_tup d2.lo
    have ab := mz d1.lo d2.lo
    have ab60 : (a * b).natAbs < 2 ^ 60 := wide_lt a9 b9
    have none2 : rat2 (.tup [.int n, .int a]) (.tup [.int m, .int b]) = none := rat2_yes R1 R2
    refine ⟨fun σ H1 => σ = [some v, some x] ∧ Same H H1, ?_, ?_⟩
    · refine ⟨_, rfl, hx.i0 ⟨rfl, _, rfl, ?_⟩⟩
      by_cases m0 : m = 0
      · exact ite_nn m0 (iteF ⟨rfl, Same.refl H⟩)
      · refine ite_ne m0 ⟨_, rfl, _, rfl, st, v, x, _, _, rfl, hv.val, hx.val, ⟨B1, B2⟩, fun g hg => (by rw [show fltD 3 (.tup [.int n, .int a]) (.tup [.int m, .int b]) = none from none2] at hg; cases hg), fun _ y H1 s1 vy => ?_⟩
        have L3 : Lo (lowN (n * m) (a * b)) (lowD (n * m) (a * b)) := lo_low ab
        have t60 : (lowN (n * m) (a * b)).natAbs < 2 ^ 60 := Nat.lt_of_le_of_lt low_le_n (wide_lt n9 m9)
        have u60 : (lowD (n * m) (a * b)).natAbs < 2 ^ 60 := Nat.lt_of_le_of_lt (low_le_d ab) ab60
        have hn4 : fltD 4 (ansD 3 (.tup [.int n, .int a]) (.tup [.int m, .int b])) (.tup [.int m, .int b]) = none := by
          rw [fltD_eq (by decide) (by decide)]
          unfold fltR
          rw [if_pos (show isRatioD (ansD 3 (.tup [.int n, .int a]) (.tup [.int m, .int b])) = true from rat_tup L3), if_pos (by decide), if_pos R2, if_pos rfl]
          exact if_neg m0
        refine ⟨_, rfl, st, y, x, _, _, rfl, vy, (hx.same s1).val, ⟨bs_tup (p44_of t60 (by decide)) (p44_of u60 (by decide)), B2⟩, fun g hg => (by rw [hn4] at hg; cases hg), fun _ y2 H2 s2 vy2 => ?_⟩
        rw [undo_mul d1.lo d2.lo m0] at vy2
        exact ⟨_, rfl, st, y2, v, _, rfl, vy2, ((hv.same s1).same s2).val, fit_pair, fun H3 s3 => ⟨_, rfl, iteF ⟨rfl, (s1.trans s2).trans s3⟩⟩⟩
    · rintro σ H1 ⟨rfl, s1⟩
      have hv1 := hv.same s1
      have hx1 := hx.same s1
      refine ⟨_, rfl, _, rfl, st, v, x, _, _, rfl, hv1.val, hx1.val, ⟨B1, B2⟩, fun g hg => (by rw [show fltD 1 (.tup [.int n, .int a]) (.tup [.int m, .int b]) = none from none2] at hg; cases hg), fun _ y H2 s2 vy => ?_⟩
      have L1 : Lo (lowN (n * b + m * a) (a * b)) (lowD (n * b + m * a) (a * b)) := lo_low ab
      have q1 : (n * b).natAbs < 2 ^ 60 := wide_lt n9 b9
      have q2 : (m * a).natAbs < 2 ^ 60 := wide_lt m9 a9
      have q3 := Int.natAbs_add_le (n * b) (m * a)
      have t61 : (lowN (n * b + m * a) (a * b)).natAbs < 2 ^ 61 := Nat.lt_of_le_of_lt low_le_n (by omega)
      have u60 : (lowD (n * b + m * a) (a * b)).natAbs < 2 ^ 60 := Nat.lt_of_le_of_lt (low_le_d ab) ab60
      have hn2 : fltD 2 (ansD 1 (.tup [.int n, .int a]) (.tup [.int m, .int b])) (.tup [.int m, .int b]) = none := rat2_yes (rat_tup L1) R2
      refine ⟨_, rfl, st, y, x, _, _, rfl, vy, (hx1.same s2).val, ⟨bs_tup (p44_of t61 (by decide)) (p44_of u60 (by decide)), B2⟩, fun g hg => (by rw [hn2] at hg; cases hg), fun _ y2 H3 s3 vy2 => ?_⟩
      rw [undo_add d1.lo d2.lo] at vy2
      have hv3 := (hv1.same s2).same s3
      refine ⟨_, rfl, st, y2, v, _, rfl, vy2, hv3.val, fit_pair, fun H4 s4 => ⟨_, rfl, iteT ?_⟩⟩
      have hv4 := hv3.same s4
      have f6 : ∀ {i j : Int}, Lo i j → fltD 6 (.tup [.int i, .int j]) .non = none := fun l => if_pos (rat_tup l)
      have Ln : Lo (lowN (-n) a) (lowD (-n) a) := lo_low (by have := d1.lo.pos; omega)
      have a0 : a ≠ 0 := by have := d1.lo.pos; omega
      have tn : (lowN (-n) a).natAbs < 2 ^ 30 := Nat.lt_of_le_of_lt low_le_n (by rw [Int.natAbs_neg]; exact n9)
      have un : (lowD (-n) a).natAbs < 2 ^ 30 := Nat.lt_of_le_of_lt (low_le_d a0) a9
      have bn : Bs .non := fun n m e => by cases e
      refine ⟨_, rfl, st, v, .non, _, .non, rfl, hv4.val, .non, ⟨B1, bn⟩, fun g hg => (by rw [f6 d1.lo] at hg; cases hg), fun _ y3 H5 s5 vy3 => ?_⟩
      refine ⟨st, y3, .non, _, .non, rfl, vy3, .non, ⟨bs_tup (s9 tn) (s9 un), bn⟩, fun g hg => (by rw [show fltD 6 (ansD 6 (.tup [.int n, .int a]) .non) .non = none from f6 Ln] at hg; cases hg), fun _ y4 H6 s6 vy4 => ?_⟩
      rw [undo_neg d1.lo] at vy4
      exact ⟨_, rfl, st, y4, v, _, rfl, vy4, ((hv4.same s5).same s6).val, fit_pair, fun H7 s7 => k _ ((((((s1.trans s2).trans s3).trans s4).trans s5).trans s6).trans s7)⟩
end
end K00

set_option Elab.async false
set_option linter.all false
set_option maxRecDepth 100000
set_option maxHeartbeats 4000000
namespace K00
open PySem L2
def va (pa : Int) (v1 : V) (vp : Addr) : Nat → V
  | 0 => .int pa
  | 8 => .ref vp
  | 9 => .int pa
  | _ => v1
def xa (pb : Int) (v2 : V) : Nat → V
  | 0 => .int pb
  | 8 => .non
  | 9 => .non
  | _ => v2
def da (pa : Int) (d1 dv : D) : Nat → D
  | 0 => .int pa
  | 8 => dv
  | 9 => .int pa
  | _ => d1
def ea (pb : Int) (d2 : D) : Nat → D
  | 0 => .int pb
  | 8 => .non
  | 9 => .non
  | _ => d2
/-- what was drawn -/
structure Cst where
  st : Addr
  vp : Addr
  kp : Addr
  ap : Addr
  xs : List V
  ds : List D
  ts : List V
  v1 : V
  v2 : V
  n1 : Int
  a1 : Int
  n2 : Int
  a2 : Int
  pa : Int
  pb : Int
  f : Int
abbrev Cst.va (c : Cst) := K00.va c.pa c.v1 c.vp
abbrev Cst.xa (c : Cst) := K00.xa c.pb c.v2
abbrev Cst.da (c : Cst) := K00.da c.pa (.tup [.int c.n1, .int c.a1]) (.lst c.ds)
abbrev Cst.ea (c : Cst) := K00.ea c.pb (.tup [.int c.n2, .int c.a2])
structure Cst.Ok (c : Cst) : Prop where
  nv : c.vp ≠ c.st
  nk : c.kp ≠ c.st
  na : c.ap ≠ c.st
  rat : ∀ r ∈ c.ds, isRatioD r = true
  len : c.ds.length ≤ 300
  sz : szs c.ds ≤ 2 ^ 3100
  d1 : Dr c.f c.n1 c.a1
  d2 : Dr c.f c.n2 c.a2
  hf : c.f ≤ 1000
  pa : c.pa.natAbs < 2 ^ 4400
  pb : c.pb.natAbs < 2 ^ 4400
  lts : c.ts.length = 10
structure Sit (K : PySem.W.Frag) (c : Cst) (H : Hp) : Prop where
  hS : StAt H c.st
  hv : H c.vp = some (.lst c.xs)
  hk : H c.kp = some (.lst c.xs)
  ha : H c.ap = some (.lst c.ts)
  rv : ValAll K c.st H c.xs c.ds
  r1 : RatV K H c.v1 c.n1 c.a1
  r2 : RatV K H c.v2 c.n2 c.a2
  at_ : ∀ i : Nat, i < 10 → ∃ t, c.ts[i]? = some (.ref t) ∧ SqT K H t [.int (i : Int), c.va i, c.xa i]
section
variable {K : PySem.W.Frag} {c : Cst} {H H' : Hp}
theorem Sit.ext (o : c.Ok) (s : Sit K c H) (x : Ext c.st H H') : Sit K c H' :=
  ⟨x.at_, x.old _ _ o.nv s.hv, x.old _ _ o.nk s.hk, x.old _ _ o.na s.ha, s.rv.ext s.hS x, s.r1.ext s.hS x, s.r2.ext s.hS x, fun i hi => (s.at_ i hi).elim fun t h => ⟨t, h.1, sqT_ext s.hS x h.2⟩⟩
theorem Sit.lst (o : c.Ok) (s : Sit K c H) : Val K c.st H (.ref c.vp) (.lst c.ds) := .lst o.nv (SqL.of s.hv) s.rv
theorem Sit.val (o : c.Ok) (s : Sit K c H) (i : Nat) : Val K c.st H (c.va i) (c.da i) := by
  match i with
  | 0 => exact .int _
  | 8 => exact s.lst o
  | 9 => exact .int _
  | 1 | 2 | 3 | 4 | 5 | 6 | 7 => exact s.r1.val
  | n + 10 => exact s.r1.val
theorem Sit.val2 (s : Sit K c H) (i : Nat) : Val K c.st H (c.xa i) (c.ea i) := by
  match i with
  | 0 => exact .int _
  | 8 => exact .non
  | 9 => exact .non
  | 1 | 2 | 3 | 4 | 5 | 6 | 7 => exact s.r2.val
  | n + 10 => exact s.r2.val
theorem f1_rats {ds : List D} (hr : ∀ r ∈ ds, isRatioD r = true) (hl : ds.length ≤ 1000) (hz : szs ds < 2 ^ 8000) : F1 (.lst ds) :=
  ⟨fun n m e => (by cases e), fun j e => (by cases e), fun es e => (by cases e; exact hl), fun es e x hx => (by
    cases e
    intro n m e
    have a := szD_mem hr hx
    subst e
    have a' : n.natAbs + m.natAbs ≤ szs ds := a
    exact sz_lt a' hz), fun _ => hz⟩
theorem Cst.Ok.fine (o : c.Ok) (i : Nat) : Fine (c.da i) (c.ea i) := by
  have b1 : Bs (.tup [.int c.n1, .int c.a1]) := bs_tup (p10_44 o.d1.n o.hf) (p10_44 o.d1.d o.hf)
  have b2 : Bs (.tup [.int c.n2, .int c.a2]) := bs_tup (p10_44 o.d2.n o.hf) (p10_44 o.d2.d o.hf)
  have bn : Bs .non := fun n m e => by cases e
  have pr : Fine (.tup [.int c.n1, .int c.a1]) (.tup [.int c.n2, .int c.a2]) := (f1_no b1 (fun i e => by cases e) (fun _ e => by cases e)).fine b2 (fun i e => by cases e)
  match i with
  | 0 => exact (gd_si o.pa).fine (fun n m e => by cases e) (fun i e => by cases e; exact o.pb)
  | 8 => exact (f1_rats o.rat (by have := o.len; omega) (Nat.lt_of_le_of_lt o.sz (Nat.pow_lt_pow_right (by decide) (by decide)))).fine bn (fun i e => by cases e)
  | 9 => exact (gd_si o.pa).fine bn (fun i e => by cases e)
  | 1 | 2 | 3 | 4 | 5 | 6 | 7 => exact pr
  | n + 10 => exact pr
theorem Cst.Ok.h8 (o : c.Ok) (i : Nat) : i = 8 → ∃ ds, c.da i = .lst ds ∧ (∀ r ∈ ds, isRatioD r = true) ∧ ds.length ≤ 300 ∧ szs ds ≤ 2 ^ 3100 := fun e => by
  subst e
  exact ⟨c.ds, rfl, o.rat, o.len, o.sz⟩
end
theorem noL_told (way : Nat) (d e : D) : noL (toldD way d e) = true := by
  unfold toldD
  cases fltD way d e with
  | some g => cases g <;> rfl
  | none =>
    have h : noL (ansD way d e) = true := by
      unfold ansD
      split <;> rfl
    show (true && (noL (ansD way d e) && true)) = true
    rw [h]
    rfl
theorem fit_told (way : Nat) (d e : D) : Fit 3 (toldD way d e) := by
  unfold toldD
  cases fltD way d e with
  | some g =>
    cases g with
    | wk z => exact ⟨by show 2 ≤ 100000; decide, fun q hq => by
        rcases List.mem_cons.mp hq with e | hq
        · rw [e]; trivial
        · rw [List.mem_singleton.mp hq]; trivial⟩
    | zd => exact ⟨by show 2 ≤ 100000; decide, fun q hq => by
        rcases List.mem_cons.mp hq with e | hq
        · rw [e]; trivial
        · rw [List.mem_singleton.mp hq]; trivial⟩
  | none =>
    have h : Fit 2 (ansD way d e) := by
      unfold ansD
      split
      · trivial
      · trivial
      · exact fit_pair
    exact ⟨by show 2 ≤ 100000; decide, fun q hq => by
      rcases List.mem_cons.mp hq with e' | hq
      · rw [e']; trivial
      · rw [List.mem_singleton.mp hq]; exact h⟩
def spLaw (K : PySem.W.Frag) : Sp := fun vs H Q _ => ∃ (a : Addr) (ns : List Int), vs = [.ref a] ∧ SqL K H a (ns.map V.int) ∧ ns.length ≤ 63 ∧ ∀ H', Q (.bl true) H'
/-- what the first loop leaves: the answers -/
def Firsts (K : PySem.W.Frag) (c : Cst) (fp : Addr) (H10 : Hp) (i : Nat) (H' : Hp) : Prop := Ext c.st H10 H' ∧ ∃ fs : List V, H' fp = some (.lst fs) ∧ fs.length = i ∧ ∀ j, j < i → ∃ y, fs[j]? = some y ∧ Val K c.st H' y (toldD j (c.da j) (c.ea j))
theorem Firsts.ext {K : PySem.W.Frag} {c : Cst} {fp : Addr} {H10 H' H2 : Hp} {i : Nat} (hn : fp ≠ c.st) (h : Firsts K c fp H10 i H') (x : Ext c.st H' H2) : Firsts K c fp H10 i H2 := by
  obtain ⟨x1, fs, h1, h2, h3⟩ := h
  exact ⟨x1.trans x, fs, x.old _ _ hn h1, h2, fun j hj => (h3 j hj).elim fun y h => ⟨y, h.1, h.2.ext x1.at_ x⟩⟩
theorem Firsts.push {K : PySem.W.Frag} {c : Cst} {fp : Addr} {H10 H' : Hp} {i : Nat} {y : V} (hS : StAt H10 c.st) (hn : fp ≠ c.st) (hf : H10 fp = none) (h : Firsts K c fp H10 i H') (vy : Val K c.st H' y (toldD i (c.da i) (c.ea i))) :
    ∃ fs, H' fp = some (.lst fs) ∧ fs.length = i ∧ Firsts K c fp H10 (i + 1) (upd H' fp (.lst (fs ++ [y]))) := by
  obtain ⟨x1, fs, h1, h2, h3⟩ := h
  refine ⟨fs, h1, h2, Ext.set hS x1 hn hf, fs ++ [y], upd_same, by rw [List.length_append, h2]; rfl, fun j hj => ?_⟩
  by_cases e : j < i
  · obtain ⟨z, hz, vz⟩ := h3 j e
    exact ⟨z, by rw [List.getElem?_append_left (by omega)]; exact hz, vz.lset h1 (noL_told _ _ _)⟩
  · have : j = i := by omega
    subst this
    refine ⟨y, ?_, vy.lset h1 (noL_told _ _ _)⟩
    rw [List.getElem?_append_right (by omega), h2, Nat.sub_self]
    rfl
end K00

set_option Elab.async false
set_option linter.all false
set_option maxRecDepth 100000
set_option maxHeartbeats 8000000
namespace K00
open PySem L2
abbrev Sg (c : Cst) (a pp fp : Addr) (z11 z12 z13 z14 : Option V) : L2.St :=
  [some (.ref a), some (.ref c.st), some (.int c.f), some c.v1, some c.v2, some (.ref pp), some (.ref c.vp), some (.ref c.kp), some (.ref c.ap), none, some (.ref fp), z11, z12, z13, z14]
section
variable {P : Program} {w : World} {K : PySem.W.Frag} {mg : Str → Option Value} {base : Heap}
abbrev s_law : Stmt := top 85
theorem sc_law : FnScope ["_law_script", "_law_store_here", "_law_figures", "_law_one", "_law_two", "_law_pair", "_law_values_here", "_law_kept", "_law_asks", "_law_way", "_law_firsts", "_law_ask", "_law_told", "_law_bad", "_law_k"] ["_law_script"] (defScope s_law) := ⟨rfl, rfl, rfl, by decide +kernel, rfl, by decide +kernel, by decide +kernel⟩
theorem ok_law {f : Addr} {fd : FuncData} (F : Fun K "law" "law" s_law f fd) (T : TxtP K mg) (c_store : Callee P w K mg base CX0 1 "_law_store" ["_law_script"] (spStore K)) (c_take : Callee P w K mg base CX0 126 "_law_take" psT (spTake 125))
    (c_ratio : Callee P w K mg base CX0 130 "_law_ratio" ["_law_store_here", "_law_figures"] (spRatio K)) (c_second : Callee P w K mg base CX0 131 "_law_second" ["_law_store_here", "_law_one", "_law_figures"] (spSecond K)) (c_whole_pair : Callee P w K mg base CX0 130 "_law_whole_pair" ["_law_store_here", "_law_figures"] spWhole)
    (c_values : Callee P w K mg base CX0 132 "_law_values" ["_law_store_here", "_law_one", "_law_figures"] (spValues K)) (c_call : Callee P w K mg base CX0 8 "_law_call" ["_law_way", "_law_one", "_law_two"] (spCall K)) (c_as_due : Callee P w K mg base CX0 7 "_law_as_due" ["_law_ask", "_law_told"] (spAsDue K))
    (c_bad_ask : Callee P w K mg base CX0 130 "_law_bad_ask" ["_law_store_here", "_law_way", "_law_ask"] (spBad K)) (c_same : Callee P w K mg base CX0 5 "_law_same" ["_law_got", "_law_due"] (spSame K 4)) (c_undone : Callee P w K mg base CX0 8 "_law_undone" ["_law_one", "_law_two"] (spUndone K)) :
    FnOk P w K mg base CX0 133 f fd ["_law_script"] (spLaw K) := by
  refine F.ok sc_law (fun vs H Q E h => ?_) (fun cdv A outer s H vs Q E hr h => ?_)
  · obtain ⟨_, _, rfl, _⟩ := h
    rfl
  · obtain ⟨a, ns, rfl, hSq, hns, k⟩ := h
    refine ⟨_, (pss_cons (ps_set (i := 1) sc_law.nd rfl (Or.inl rfl) (pe_fn c_store (hr.mono (by decide)) (by rfl) pass0 (pa_cons (pv 0) pa_nil)))
  (pss_cons (ps_set (i := 2) sc_law.nd rfl (Or.inl rfl) (pe_ix ix_list (pe_lst (pa_cons pe_int (pa_cons pe_int (pa_cons pe_int (pa_cons pe_int (pa_cons pe_int (pa_cons pe_int pa_nil))))))) (pe_fn c_take (hr.mono (by decide)) (by rfl) pass0 (pa_cons (pv 1) (pa_cons pe_int pa_nil))) (fun _ _ => rfl)))
  (C8.pss_cut (ps_if (pt_cmpR op_eq (pe_fn c_take (hr.mono (by decide)) (by rfl) pass0 (pa_cons (pv 1) (pa_cons pe_int pa_nil))) pe_int (nomark _)) (pss_one (ps_set (i := 2) sc_law.nd rfl (Or.inl rfl) pe_int)) pss_nil)
  (pss_cons (ps_set (i := 3) sc_law.nd rfl (Or.inr rfl) (pe_fn c_ratio (hr.mono (by decide)) (by rfl) pass0 (pa_cons (pv 1) (pa_cons (pv 2) pa_nil))))
  (pss_cons (ps_set (i := 4) sc_law.nd rfl (Or.inr rfl) (pe_fn c_second (hr.mono (by decide)) (by rfl) pass0 (pa_cons (pv 1) (pa_cons (pv 3) (pa_cons (pv 2) pa_nil)))))
  (pss_cons (ps_set (i := 5) sc_law.nd rfl (Or.inl rfl) (pe_fn c_whole_pair (hr.mono (by decide)) (by rfl) pass0 (pa_cons (pv 1) (pa_cons (pv 2) pa_nil))))
  (pss_cons (ps_set (i := 6) sc_law.nd rfl (Or.inl rfl) (pe_fn c_values (hr.mono (by decide)) (by rfl) pass0 (pa_cons (pv 1) (pa_cons (pv 3) (pa_cons (pv 2) pa_nil)))))
  (pss_cons (ps_set (i := 7) sc_law.nd rfl (Or.inl rfl) (pe_callTy call_list_of (by rfl) T.list (by decide +kernel) (pa_cons (pv 6) pa_nil)))
  (pss_cons (ps_set (i := 8) sc_law.nd rfl (Or.inl rfl) (pe_op op_cat (pe_op op_cat (pe_lst (pa_cons (pe_tup (pa_cons pe_int (pa_cons (pe_ix ix_seq (pv 5) pe_int (fun _ _ => rfl)) (pa_cons (pe_ix ix_seq (pv 5) pe_int (fun _ _ => rfl)) pa_nil)))) pa_nil)) (pe_lc (own := [("_law_way", 9)]) (g := gName 9) rfl sc_law.nd (pi_range2 (by rfl) T.range (pa_cons pe_int (pa_cons pe_int pa_nil))) (blkOk_by (own := [("_law_way", 9)]) (N := ["_law_script", "_law_store_here", "_law_figures", "_law_one", "_law_two", "_law_pair", "_law_values_here", "_law_kept", "_law_asks", "_law_way", "_law_firsts", "_law_ask", "_law_told", "_law_bad", "_law_k"]) (sc := defScope s_law) (by decide +kernel)) (fun _ _ _ _ _ => pg_name (i := 9) sc_law.nd rfl (Or.inl rfl)) (fun _ _ _ _ _ => pts_nil) (fun _ _ _ _ _ => (pe_tup (pa_cons (pv 9) (pa_cons (pv 3) (pa_cons (pv 4) pa_nil))))))) (pe_lst (pa_cons (pe_tup (pa_cons pe_int (pa_cons (pv 6) (pa_cons pe_non pa_nil)))) (pa_cons (pe_tup (pa_cons pe_int (pa_cons (pe_ix ix_seq (pv 5) pe_int (fun _ _ => rfl)) (pa_cons pe_non pa_nil)))) pa_nil)))))
  (pss_cons (ps_set (i := 10) sc_law.nd rfl (Or.inl rfl) (pe_lst pa_nil))
  (pss_cons (ps_for PassesOwn.never rfl (pi_list (pv 8)) (pg_name (i := 11) sc_law.nd rfl (Or.inl rfl)) (pss_cons (ps_set (i := 12) sc_law.nd rfl (Or.inl rfl) (pe_fn c_call (hr.mono (by decide)) (by rfl) pass0 (pa_cons (pe_ix ix_seq (pv 11) pe_int (fun _ _ => rfl)) (pa_cons (pe_ix ix_seq (pv 11) pe_int (fun _ _ => rfl)) (pa_cons (pe_ix ix_seq (pv 11) pe_int (fun _ _ => rfl)) pa_nil)))))
  (pss_cons (ps_if (pt_not (pt_val (pe_fn c_as_due (hr.mono (by decide)) (by rfl) pass0 (pa_cons (pv 11) (pa_cons (pv 12) pa_nil))))) (pss_one (ps_ret pe_bl)) pss_nil)
  (pss_one (ps_expr (pe_bm PySem.F.plainAttrs_list PySem.F.slot_list_append PySem.F.type_list_append mt_append (pv 10) (pa_cons (pv 12) pa_nil)))))))
  (pss_cons (ps_for PassesOwn.never rfl (pi_list (pv 8)) (pg_name (i := 11) sc_law.nd rfl (Or.inl rfl)) (pss_cons (ps_set (i := 13) sc_law.nd rfl (Or.inl rfl) (pe_fn c_bad_ask (hr.mono (by decide)) (by rfl) pass0 (pa_cons (pv 1) (pa_cons (pe_ix ix_seq (pv 11) pe_int (fun _ _ => rfl)) (pa_cons (pv 11) pa_nil)))))
  (pss_one (ps_if (pt_not (pt_val (pe_fn c_as_due (hr.mono (by decide)) (by rfl) pass0 (pa_cons (pv 13) (pa_cons (pe_fn c_call (hr.mono (by decide)) (by rfl) pass0 (pa_cons (pe_ix ix_seq (pv 13) pe_int (fun _ _ => rfl)) (pa_cons (pe_ix ix_seq (pv 13) pe_int (fun _ _ => rfl)) (pa_cons (pe_ix ix_seq (pv 13) pe_int (fun _ _ => rfl)) pa_nil)))) pa_nil))))) (pss_one (ps_ret pe_bl)) pss_nil))))
  (pss_cons (ps_for PassesOwn.never rfl (pi_range1 rfl T.range (pa_cons (pe_callB call_len_seq (by rfl) T.len PySem.boot_len (pa_cons (pv 8) pa_nil)) pa_nil)) (pg_name (i := 14) sc_law.nd rfl (Or.inl rfl)) (pss_cons (ps_set (i := 11) sc_law.nd rfl (Or.inl rfl) (pe_ix ix_seq (pv 8) (pe_op op_sub (pe_op op_sub (pe_callB call_len_seq (by rfl) T.len PySem.boot_len (pa_cons (pv 8) pa_nil)) pe_int) (pv 14)) (fun _ _ => rfl)))
  (pss_one (ps_if (pt_not (pt_val (pe_fn c_same (hr.mono (by decide)) (by rfl) pass0 (pa_cons (pe_fn c_call (hr.mono (by decide)) (by rfl) pass0 (pa_cons (pe_ix ix_seq (pv 11) pe_int (fun _ _ => rfl)) (pa_cons (pe_ix ix_seq (pv 11) pe_int (fun _ _ => rfl)) (pa_cons (pe_ix ix_seq (pv 11) pe_int (fun _ _ => rfl)) pa_nil)))) (pa_cons (pe_ix ix_seq (pv 10) (pe_op op_sub (pe_op op_sub (pe_callB call_len_seq (by rfl) T.len PySem.boot_len (pa_cons (pv 8) pa_nil)) pe_int) (pv 14)) (fun _ _ => rfl)) pa_nil))))) (pss_one (ps_ret pe_bl)) pss_nil))))
  (pss_cons (ps_if (pt_not (pt_val (pe_fn c_same (hr.mono (by decide)) (by rfl) pass0 (pa_cons (pv 6) (pa_cons (pv 7) pa_nil))))) (pss_one (ps_ret pe_bl)) pss_nil)
  (pss_cons (ps_expr (pe_bm PySem.F.plainAttrs_list PySem.F.slot_list_append PySem.F.type_list_append mt_append (pv 6) (pa_cons (pv 4) pa_nil)))
  (pss_cons (ps_if (pt_not (pt_val (pe_fn c_as_due (hr.mono (by decide)) (by rfl) pass0 (pa_cons (pe_tup (pa_cons pe_int (pa_cons (pv 6) (pa_cons pe_non pa_nil)))) (pa_cons (pe_fn c_call (hr.mono (by decide)) (by rfl) pass0 (pa_cons pe_int (pa_cons (pv 6) (pa_cons pe_non pa_nil)))) pa_nil))))) (pss_one (ps_ret pe_bl)) pss_nil)
  (pss_one (ps_ret (pe_or (pe_cmpR op_gt (pv 2) pe_int (nomark _)) (pe_one (pe_fn c_undone (hr.mono (by decide)) (by rfl) pass0 (pa_cons (pv 3) (pa_cons (pv 4) pa_nil))))))))))))))))))))))), ?_⟩
    have s3 : ([V.non, V.non, V.non] : List V).length ≤ sizeLine := by show 3 ≤ sizeLine; decide
    have s2' : ([V.non, V.non] : List V).length ≤ sizeLine := by show 2 ≤ sizeLine; decide
    have s1' : ([V.non] : List V).length ≤ sizeLine := by show 1 ≤ sizeLine; decide
    refine ⟨_, rfl, a, ns, rfl, hSq, hns, fun st H1 hst sH1 hSt => ?_⟩
    refine ⟨by show 6 ≤ sizeLine; decide, fun p hp => ⟨_, rfl, st, 6, rfl, hSt.same (Same.new hp), lim124s (by decide), fun r H2 r2 x2 => ?_⟩⟩
    have hp2 : H2 p = some (.lst [.int 9, .int 9, .int 9, .int 60, .int 60, .int 300]) := x2.old _ _ (St.ne hSt hp) upd_same
    have r0 := r2.1
    have r6 : r < 6 := by have := r2.2; omega
    obtain ⟨fg, hfg, efg⟩ : ∃ fg : Int, (fg = 9 ∨ fg = 60 ∨ fg = 300) ∧ ([.int 9, .int 9, .int 9, .int 60, .int 60, .int 300] : List V)[r.toNat]? = some (.int fg) := by
      have : r = 0 ∨ r = 1 ∨ r = 2 ∨ r = 3 ∨ r = 4 ∨ r = 5 := by omega
      rcases this with rfl | rfl | rfl | rfl | rfl | rfl
      · exact ⟨9, by decide, rfl⟩
      · exact ⟨9, by decide, rfl⟩
      · exact ⟨9, by decide, rfl⟩
      · exact ⟨60, by decide, rfl⟩
      · exact ⟨60, by decide, rfl⟩
      · exact ⟨300, by decide, rfl⟩
    refine ⟨p, _, r, .int fg, rfl, rfl, SqL.of hp2, at_of (j := r.toNat) (by omega) efg, ?_⟩
    have xx2 := (Ext.new (o := .lst [.int 9, .int 9, .int 9, .int 60, .int 60, .int 300]) hSt hp).trans x2
    refine ⟨fun σ H3 => ∃ f : Int, (f = 9 ∨ f = 60 ∨ f = 300 ∨ f = 1000) ∧ σ = [some (.ref a), some (.ref st), some (.int f), none, none, none, none, none, none, none, none, none, none, none, none] ∧ Ext st H1 H3, ?_, ?_⟩
    · exact ⟨_, rfl, st, 40, rfl, x2.at_, lim124s (by decide), fun r3 H3 rr x3 => ⟨rfl, _, rfl, ite2 (fun _ => ⟨1000, by decide, rfl, xx2.trans x3⟩) (fun _ => ⟨fg, by omega, rfl, xx2.trans x3⟩)⟩⟩
    rintro σ H3 ⟨f, hf, rfl, x3⟩
    have f1 : 1 ≤ f := by omega
    have f2 : f ≤ 1000 := by omega
    refine ⟨_, rfl, _, rfl, st, f, rfl, x3.at_, f1, f2, fun v1 H4 n1 a1 x4 r1 lo1 bn1 ba1 => ?_⟩
    have d1 : Dr f n1 a1 := ⟨lo1, bn1, ba1⟩
    refine ⟨_, rfl, _, rfl, _, rfl, st, v1, n1, a1, f, rfl, x4.at_, f1, f2, r1, d1, fun v2 H5 n2 a2 x5 r2 d2 => ?_⟩
    refine ⟨_, rfl, _, rfl, st, f, rfl, x5.at_, by omega, f2, fun pp pa pb H6 x6 npp hpp ba bb => ?_⟩
    have r1' := (r1.ext x4.at_ x5).ext x5.at_ x6
    refine ⟨_, rfl, _, rfl, _, rfl, st, v1, n1, a1, f, rfl, x6.at_, hf, r1', d1, fun vp xs ds H7 x7 nvp fvp hvp rv rat len sz => ?_⟩
    have r17 := r1'.ext x6.at_ x7
    have r27 := (r2.ext x5.at_ x6).ext x6.at_ x7
    have hpp7 : H7 pp = some (.lst [.int pa, .int pb]) := x7.old _ _ npp hpp
    refine ⟨_, rfl, vp, xs, rfl, .inl (SqL.of hvp), fun kp hkp => ?_⟩
    have sk := Same.new (o := .lst xs) hkp
    -- the asks
    refine ⟨_, rfl, rIx_at (j := 0) (.inl (SqL.of (sk _ _ hpp7))) rfl ⟨_, rfl, rIx_at (j := 1) (.inl (SqL.of (sk _ _ hpp7))) rfl ⟨s3, fun t0 ht0 => ⟨s1', fun l0 hl0 => ?_⟩⟩⟩⟩
    have e0 : upd (upd (upd H7 kp (.lst xs)) t0 (.tup [.int 0, .int pa, .int pb])) l0 (.lst [.ref t0]) t0 = some (.tup [.int 0, .int pa, .int pb]) := Same.new hl0 _ _ upd_same
    have sB : Same (upd H7 kp (.lst xs)) (upd (upd (upd H7 kp (.lst xs)) t0 (.tup [.int 0, .int pa, .int pb])) l0 (.lst [.ref t0])) := (Same.new ht0).trans (Same.new hl0)
    have el0 : upd (upd (upd H7 kp (.lst xs)) t0 (.tup [.int 0, .int pa, .int pb])) l0 (.lst [.ref t0]) l0 = some (.lst [.ref t0]) := upd_same
    refine ⟨1, 8, rfl, ⟨by decide, by decide, by decide, by decide⟩, fun D0 hD0 => ?_⟩
    generalize hHB : upd (upd (upd H7 kp (.lst xs)) t0 (.tup [.int 0, .int pa, .int pb])) l0 (.lst [.ref t0]) = HB at e0 sB el0 hD0 ⊢
    refine lc_range (lo := 1) (n := 7) (fun i H' => Same HB H' ∧ ∃ ys : List V, H' D0 = some (.lst ys) ∧ ys.length = i ∧ ∀ j, j < i → ∃ t, ys[j]? = some (.ref t) ∧ H' t = some (.tup [.int (1 + (j : Int)), v1, v2]))
      ⟨Same.new hD0, [], upd_same, rfl, fun j hj => absurd hj (Nat.not_lt_zero j)⟩ (fun i H' hi hP => ?_) (fun H' hP => ?_)
    · obtain ⟨s4, ys, hy, ly, hal⟩ := hP
      refine ⟨rfl, lcYes ⟨_, rfl, _, rfl, _, rfl, s3, fun t ht => ⟨ys, Same.new ht _ _ hy, by rw [ly, sizeLine_eq]; omega, fun b o e => ?_, ys ++ [.ref t], upd_same, by rw [List.length_append, ly]; rfl, fun j hj => ?_⟩⟩⟩
      · rw [upd_ne (ne_of_none e hD0)]
        exact Same.new ht _ _ (s4 _ _ e)
      · have nt : t ≠ D0 := fun e => by rw [e, hy] at ht; cases ht
        by_cases e : j < i
        · obtain ⟨u, hu, hu2⟩ := hal j e
          refine ⟨u, by rw [List.getElem?_append_left (by omega)]; exact hu, ?_⟩
          rw [upd_ne (fun z => by rw [z, hy] at hu2; cases hu2)]
          exact Same.new ht _ _ hu2
        · have : j = i := by omega
          subst this
          refine ⟨t, ?_, ?_⟩
          · rw [List.getElem?_append_right (by omega), ly, Nat.sub_self]
            rfl
          · rw [upd_ne nt]
            exact upd_same
    obtain ⟨s4, ys, hy, ly, hal⟩ := hP
    refine ⟨l0, D0, [.ref t0], ys, rfl, rfl, s4 _ _ el0, hy, by rw [ly]; show 1 + 7 ≤ sizeLine; decide, fun l1 hl1 => ?_⟩
    have sk1 := (sB.trans s4).trans (Same.new (o := .lst ([V.ref t0] ++ ys)) hl1)
    have hpp1 := sk1 _ _ (sk _ _ hpp7)
    refine ⟨_, rfl, s3, fun t8 ht8 => ⟨_, rfl, rIx_at (j := 0) (.inl (SqL.of (Same.new ht8 _ _ hpp1))) rfl ⟨s3, fun t9 ht9 => ⟨s2', fun l2 hl2 => ⟨l1, l2, [V.ref t0] ++ ys, [V.ref t8, V.ref t9], rfl, rfl, Same.new hl2 _ _ (Same.new ht9 _ _ (Same.new ht8 _ _ upd_same)), upd_same, ?_, fun ap hap => ?_⟩⟩⟩⟩⟩
    · rw [List.length_append, ly]
      show 1 + 7 + 2 ≤ sizeLine
      decide
    have sC := (((Same.new (o := .tup [.int 8, .ref vp, .non]) ht8).trans (Same.new (o := .tup [.int 9, .int pa, .non]) ht9)).trans (Same.new (o := .lst [V.ref t8, V.ref t9]) hl2)).trans (Same.new (o := .lst ([V.ref t0] ++ ys ++ [V.ref t8, V.ref t9])) hap)
    have e8 : SqT K _ t8 [.int 8, .ref vp, .non] := SqT.of (((Same.new (o := .tup [.int 9, .int pa, .non]) ht9).trans (Same.new (o := .lst [V.ref t8, V.ref t9]) hl2)).trans (Same.new (o := .lst ([V.ref t0] ++ ys ++ [V.ref t8, V.ref t9])) hap) _ _ upd_same)
    have e9 : SqT K _ t9 [.int 9, .int pa, .non] := SqT.of ((Same.new (o := .lst [V.ref t8, V.ref t9]) hl2).trans (Same.new (o := .lst ([V.ref t0] ++ ys ++ [V.ref t8, V.ref t9])) hap) _ _ upd_same)
    have eap : upd (upd (upd (upd (upd H' l1 (.lst ([V.ref t0] ++ ys))) t8 (.tup [.int 8, .ref vp, .non])) t9 (.tup [.int 9, .int pa, .non])) l2 (.lst [V.ref t8, V.ref t9])) ap (.lst ([V.ref t0] ++ ys ++ [V.ref t8, V.ref t9])) ap = some (.lst ([V.ref t0] ++ ys ++ [V.ref t8, V.ref t9])) := upd_same
    have nap : ap ≠ st := St.ne (x7.at_.same ((sk.trans sk1).trans (((Same.new (o := .tup [.int 8, .ref vp, .non]) ht8).trans (Same.new (o := .tup [.int 9, .int pa, .non]) ht9)).trans (Same.new (o := .lst [V.ref t8, V.ref t9]) hl2)))) hap
    have eK := (sk1.trans sC) kp (.lst xs) upd_same
    have sD : Same H7 _ := (sk.trans sk1).trans sC
    have sE : Same H' _ := (Same.new (o := .lst ([V.ref t0] ++ ys)) hl1).trans sC
    generalize hH9 : upd (upd (upd (upd (upd H' l1 (.lst ([V.ref t0] ++ ys))) t8 (.tup [.int 8, .ref vp, .non])) t9 (.tup [.int 9, .int pa, .non])) l2 (.lst [V.ref t8, V.ref t9])) ap (.lst ([V.ref t0] ++ ys ++ [V.ref t8, V.ref t9])) = H9 at e8 e9 eap eK sD sE ⊢
    have x9 : Ext st H7 H9 := Ext.ofSame x7.at_ sD
    have nkp : kp ≠ st := St.ne x7.at_ hkp
    let c : Cst := ⟨st, vp, kp, ap, xs, ds, [V.ref t0] ++ ys ++ [V.ref t8, V.ref t9], v1, v2, n1, a1, n2, a2, pa, pb, f⟩
    have o : c.Ok := ⟨nvp, nkp, nap, rat, len, sz, d1, d2, f2, ba, bb, by show ([V.ref t0] ++ ys ++ [V.ref t8, V.ref t9]).length = 10; rw [List.length_append, List.length_append, ly]; rfl⟩
    have mid : ∀ i : Nat, i < 7 → ∃ t, c.ts[i + 1]? = some (.ref t) ∧ SqT K H9 t [.int (1 + (i : Int)), v1, v2] := fun i hi => by
      obtain ⟨t, h1, h2⟩ := hal i hi
      refine ⟨t, ?_, SqT.of (sE _ _ h2)⟩
      show ([V.ref t0] ++ ys ++ [V.ref t8, V.ref t9])[i + 1]? = _
      rw [List.getElem?_append_left (by rw [List.length_append, ly]; show i + 1 < 1 + 7; omega)]
      exact h1
    have sit : Sit K c H9 := by
      refine ⟨x9.at_, sD _ _ hvp, eK, eap, rv.same sD, r17.same sD, r27.same sD, fun i hi => ?_⟩
      match i, hi with
      | 0, _ => exact ⟨t0, rfl, SqT.of (sE _ _ (s4 _ _ e0))⟩
      | 1, _ => exact mid 0 (by decide)
      | 2, _ => exact mid 1 (by decide)
      | 3, _ => exact mid 2 (by decide)
      | 4, _ => exact mid 3 (by decide)
      | 5, _ => exact mid 4 (by decide)
      | 6, _ => exact mid 5 (by decide)
      | 7, _ => exact mid 6 (by decide)
      | 8, _ =>
        refine ⟨t8, ?_, e8⟩
        show ([V.ref t0] ++ ys ++ [V.ref t8, V.ref t9])[8]? = _
        rw [List.getElem?_append_right (by rw [List.length_append, ly]; show 1 + 7 ≤ 8; decide), List.length_append, ly]
        rfl
      | 9, _ =>
        refine ⟨t9, ?_, e9⟩
        show ([V.ref t0] ++ ys ++ [V.ref t8, V.ref t9])[9]? = _
        rw [List.getElem?_append_right (by rw [List.length_append, ly]; show 1 + 7 ≤ 9; decide), List.length_append, ly]
        rfl
      | n + 10, h => omega
    -- firsts
    refine ⟨by show 0 ≤ sizeLine; exact Nat.zero_le _, fun fp hfp => ?_⟩
    have nfp : fp ≠ st := St.ne x9.at_ hfp
    have hS9 := x9.at_
    refine ⟨_, rfl, ap, rfl, ⟨_, SqL.of (Same.new hfp _ _ eap)⟩, for_list (K := K) (a := ap) (xs := c.ts) (fun i σ H' => Firsts K c fp H9 i H' ∧ ∃ z11 z12, σ = Sg c a pp fp z11 z12 none none) ⟨⟨Ext.new hS9 hfp, [], upd_same, rfl, fun j hj => absurd hj (Nat.not_lt_zero j)⟩, none, none, rfl⟩
      (fun i σ H' _ hP => SqL.of (hP.1.1.old _ _ nap eap)) ?_ ?_⟩
    · rintro i t σ H' hi ⟨hF, z11, z12, rfl⟩
      have hi10 : i < 10 := by
        have := (List.getElem?_eq_some_iff.mp hi).1
        rw [o.lts] at this
        exact this
      have si := sit.ext o hF.1
      obtain ⟨ta, hta, hsq⟩ := si.at_ i hi10
      have et : t = .ref ta := by
        rw [hta] at hi
        exact (Option.some.inj hi).symm
      subst et
      refine ⟨_, rfl, rIx_at (j := 0) (.inr hsq) rfl ⟨_, rfl, rIx_at (j := 1) (.inr hsq) rfl ⟨_, rfl, rIx_at (j := 2) (.inr hsq) rfl ⟨st, i, _, _, _, _, rfl, by omega, si.hS, si.val o i, si.val2 i, (o.fine i).w i (by omega), fun y Ha sa vy => ?_⟩⟩⟩⟩
      have xa' := Ext.ofSame si.hS sa
      have sia := si.ext o xa'
      refine ⟨_, rfl, _, rfl, st, ta, i, _, _, y, _, _, rfl, sqT_same sa hsq, by omega, sia.val o i, sia.val2 i, o.fine i, vy, fun Hb sb => ⟨_, rfl, iteF ?_⟩⟩
      have xb := xa'.trans (Ext.ofSame sia.hS sb)
      have hFb := hF.ext nfp xb
      obtain ⟨fs, hfs, lfs, hFn⟩ := hFb.push hS9 nfp hfp (vy.same sb)
      exact ⟨_, rfl, .inl ⟨rfl, _, SqL.of hfs⟩, _, rfl, fp, fs, y, rfl, rfl, hfs, by rw [lfs, sizeLine_eq]; omega, hFn, _, _, rfl⟩
    rintro σ H11 ⟨hF11, z11, z12, rfl⟩
    rw [o.lts] at hF11
    -- the bad asks
    refine ⟨_, rfl, ap, rfl, ⟨_, SqL.of (hF11.1.old _ _ nap eap)⟩, for_list (K := K) (a := ap) (xs := c.ts) (fun i σ H' => Firsts K c fp H9 10 H' ∧ ∃ z11 z12 z13, σ = Sg c a pp fp z11 z12 z13 none) ⟨hF11, z11, z12, none, rfl⟩
      (fun i σ H' _ hP => SqL.of (hP.1.1.old _ _ nap eap)) ?_ ?_⟩
    · rintro i t σ H' hi ⟨hF, z11, z12, z13, rfl⟩
      have hi10 : i < 10 := by
        have := (List.getElem?_eq_some_iff.mp hi).1
        rw [o.lts] at this
        exact this
      have si := sit.ext o hF.1
      obtain ⟨ta, hta, hsq⟩ := si.at_ i hi10
      have et : t = .ref ta := by
        rw [hta] at hi
        exact (Option.some.inj hi).symm
      subst et
      refine ⟨_, rfl, _, rfl, rIx_at (j := 0) (.inr hsq) rfl ⟨_, rfl, st, ta, i, _, _, _, _, rfl, by omega, si.hS, hsq, si.val o i, si.val2 i, o.fine i, o.h8 i, fun b v' x' d' e' Ha xa' qb vv vx ff => ?_⟩⟩
      refine ⟨_, rfl, _, rfl, rIx_at (j := 0) (.inr qb) rfl ⟨_, rfl, rIx_at (j := 1) (.inr qb) rfl ⟨_, rfl, rIx_at (j := 2) (.inr qb) rfl ⟨st, i, v', x', d', e', rfl, by omega, xa'.at_, vv, vx, ff.w i (by omega), fun y Hb sb vy => ?_⟩⟩⟩⟩
      refine ⟨st, b, i, v', x', y, d', e', rfl, sqT_same sb qb, by omega, vv.same sb, vx.same sb, ff, vy, fun Hc sc => ⟨_, rfl, iteF ⟨?_, _, _, _, rfl⟩⟩⟩
      exact hF.ext nfp (xa'.trans (Ext.ofSame xa'.at_ (sb.trans sc)))
    rintro σ H12 ⟨hF12, z11, z12, z13, rfl⟩
    -- asked again
    refine ⟨_, rfl, ap, c.ts, rfl, .inl (SqL.of (hF12.1.old _ _ nap eap)), _, rfl, by rw [o.lts]; decide, by rw [o.lts]; decide, ?_⟩
    rw [o.lts]
    refine for_range (lo := 0) (n := 10) (fun i σ H' => Firsts K c fp H9 10 H' ∧ ∃ z11 z14, σ = Sg c a pp fp z11 z12 z13 z14) ⟨hF12, z11, none, rfl⟩ ?_ ?_
    · rintro i σ H' hi ⟨hF, z11, z14, rfl⟩
      have hi9 : 9 - i < 10 := by omega
      have si := sit.ext o hF.1
      obtain ⟨ta, hta, hsq⟩ := si.at_ (9 - i) hi9
      have hF0 := hF.1
      obtain ⟨_, fs, hfs, lfs, hfv⟩ := hF
      obtain ⟨y0, hy0, vy0⟩ := hfv (9 - i) hi9
      have hap' := si.ha
      have ix : ∀ {xs' : List V} {v : V}, xs'[9 - i]? = some v → atI xs' ((c.ts.length : Int) - 1 - (0 + (i : Int))) = some v := fun {xs' v} h => at_of (j := 9 - i) (by rw [o.lts]; omega) h
      refine ⟨_, rfl, _, rfl, ap, c.ts, rfl, .inl (SqL.of hap'), _, _, rfl, rfl, _, rfl, _, _, rfl, rfl, .inl ⟨ap, c.ts, _, _, rfl, rfl, SqL.of hap', ix hta, ?_⟩⟩
      refine ⟨_, rfl, rIx_at (j := 0) (.inr hsq) rfl ⟨_, rfl, rIx_at (j := 1) (.inr hsq) rfl ⟨_, rfl, rIx_at (j := 2) (.inr hsq) rfl ⟨st, 9 - i, _, _, _, _, rfl, by omega, si.hS, si.val o _, si.val2 _, (o.fine _).w _ (by omega), fun y Ha sa vy => ?_⟩⟩⟩⟩
      refine ⟨_, rfl, _, rfl, ap, c.ts, rfl, .inl (SqL.of (sa _ _ hap')), _, _, rfl, rfl, _, rfl, _, _, rfl, rfl, .inl ⟨fp, fs, _, _, rfl, rfl, SqL.of (sa _ _ hfs), ix hy0, ?_⟩⟩
      refine ⟨st, y, y0, _, rfl, vy, vy0.same sa, fit_told _ _ _, fun Hb sb => ⟨_, rfl, iteF ⟨?_, _, _, rfl⟩⟩⟩
      exact Firsts.ext nfp ⟨hF0, fs, hfs, lfs, hfv⟩ (Ext.ofSame si.hS (sa.trans sb))
    rintro σ H13 ⟨hF13, z11, z14, rfl⟩
    have s13 := sit.ext o hF13.1
    have fl : Fit 3 (.lst c.ds) := ⟨by have := o.len; omega, fun d hd => by
      obtain ⟨n, m, rfl, _⟩ := isRatioD_inv (o.rat d hd)
      exact fit_pair⟩
    refine ⟨_, rfl, _, rfl, st, _, _, _, rfl, s13.lst o, .lst o.nk (SqL.of s13.hk) s13.rv, fl, fun H14 s14 => ⟨_, rfl, iteF ?_⟩⟩
    have x14 := hF13.1.trans (Ext.ofSame s13.hS s14)
    have sit14 := sit.ext o x14
    have lxs : xs.length = ds.length := rv.length
    refine ⟨_, rfl, .inl ⟨rfl, _, SqL.of sit14.hv⟩, _, rfl, vp, xs, v2, rfl, rfl, sit14.hv, by rw [lxs, sizeLine_eq]; omega, ?_⟩
    have x614 : Ext st H6 H14 := (x7.trans x9).trans x14
    have x15 : Ext st H6 (upd H14 vp (.lst (xs ++ [v2]))) := Ext.set x6.at_ x614 nvp fvp
    have all : ∀ r ∈ ds ++ [D.tup [.int n2, .int a2]], isRatioD r = true := fun r hr' => by
      rcases List.mem_append.mp hr' with h | h
      · exact rat r h
      · rw [List.mem_singleton.mp h]; exact rat_tup d2.lo
    have vn : ValAll K st (upd H14 vp (.lst (xs ++ [v2]))) (xs ++ [v2]) (ds ++ [.tup [.int n2, .int a2]]) := by
      have q : ValAll K vp H14 (xs ++ [v2]) (ds ++ [.tup [.int n2, .int a2]]) := (sit14.rv.append (.cons sit14.r2.val .nil)).re all
      exact (q.mono (fun b o hb e => by rw [upd_ne hb]; exact e) fun b zs z => sqT_set sit14.hv z).re all
    have r1n : RatV K (upd H14 vp (.lst (xs ++ [v2]))) v1 n1 a1 := sit14.r1.elim fun q h => ⟨q, h.1, sqT_set sit14.hv h.2⟩
    have r2n : RatV K (upd H14 vp (.lst (xs ++ [v2]))) v2 n2 a2 := sit14.r2.elim fun q h => ⟨q, h.1, sqT_set sit14.hv h.2⟩
    have vl : Val K st (upd H14 vp (.lst (xs ++ [v2]))) (.ref vp) (.lst (ds ++ [.tup [.int n2, .int a2]])) := .lst nvp (SqL.of upd_same) vn
    have szn : szs (ds ++ [D.tup [.int n2, .int a2]]) < 2 ^ 8000 := by
      rw [szs_append]
      have e2 : szs [D.tup [.int n2, .int a2]] = n2.natAbs + a2.natAbs := by
        show (n2.natAbs + a2.natAbs) * 1 = _
        omega
      have b1 := p10_44 d2.n f2
      have b2 := p10_44 d2.d f2
      rw [e2]
      have b3 : n2.natAbs + a2.natAbs ≤ 2 ^ 4401 := by
        rw [Nat.pow_succ]
        generalize (2 : Nat) ^ 4400 = z at b1 b2 ⊢
        omega
      refine Nat.lt_of_le_of_lt (Nat.mul_le_mul sz b3) ?_
      rw [← Nat.pow_add]
      exact Nat.pow_lt_pow_right (by decide) (by decide)
    have fin8 : Fine (.lst (ds ++ [.tup [.int n2, .int a2]])) .non := (f1_rats all (by rw [List.length_append]; show ds.length + 1 ≤ 1000; omega) szn).fine (fun n m e => by cases e) (fun i e => by cases e)
    refine ⟨_, rfl, s3, fun t ht => ⟨_, rfl, st, 8, _, _, _, .non, rfl, by decide, (x15.at_).same (Same.new ht), vl.same (Same.new ht), .non, fin8.w 8 (by decide), fun y H16 s16 vy => ?_⟩⟩
    refine ⟨st, t, 8, _, _, y, _, .non, rfl, sqT_same s16 (SqT.of upd_same), by decide, (vl.same (Same.new ht)).same s16, .non, fin8, vy, fun H17 s17 => ⟨_, rfl, iteF ?_⟩⟩
    refine ⟨_, rfl, _, _, rfl, rfl, _, rfl, ite2 (fun _ => k _) (fun h9 => ?_)⟩
    have f9 : f = 9 := by
      have : ¬ (9 : Int) < f := fun z => h9 (decide_eq_true z)
      omega
    have sf : Same (upd H14 vp (.lst (xs ++ [v2]))) H17 := ((Same.new ht).trans s16).trans s17
    subst f9
    exact ⟨_, rfl, _, rfl, st, v1, v2, n1, a1, n2, a2, rfl, r1n.same sf, r2n.same sf, d1, d2, fun H' _ => k H'⟩
end
end K00

set_option Elab.async false
set_option linter.all false
set_option maxRecDepth 100000
set_option maxHeartbeats 8000000
namespace K00
open PySem L2 L2H HotX
section
open PySem.W PySem.Calls PyProof.Rows
theorem exm_of {K : PySem.W.Frag} {C D : Addr} (h1 : PySem.W.subIn K (.ref D) (.type "BaseException") = some true) (h2 : PySem.W.hasDictIn K D = true) (h3 : PySem.W.typeIn K (.ref D) = some (.type "type")) (h4 : PySem.W.subIn K (.ref C) (.ref D) = some true) :
    PySem.W.exmOne K (.ref C) (.ref D) = some true := PySem.W.exm_ref h1 h2 h3 h4
theorem binds_un {K : PySem.W.Frag} {kV doc pm ct tc : Value} {an td : Option Addr} {cda cc T : Addr} {tn : Nat} {ts : Array (Option Value)} (lT : K.lookup T = some ⟨tc, td, .seq #[.none] tn, ts⟩) :
    Binds K (ksFn "__init__" "UnfitError.__init__" (defArgs s_p_un_init) (defBody s_p_un_init) (defScope s_p_un_init) (.ref T) kV doc pm an (.ref cda) ct cc) ["self", "subject"] [.none] := fun s us X hlen => by
  have hl : us.length = 1 := by
    rw [List.length_append] at hlen
    exact Nat.succ.inj hlen
  match us, hl with
  | [u], _ =>
    obtain ⟨k, e1, e2⟩ : ∃ k, bindArgs (ksFn "__init__" "UnfitError.__init__" (defArgs s_p_un_init) (defBody s_p_un_init) (defScope s_p_un_init) (.ref T) kV doc pm an (.ref cda) ct cc) ⟨[u], []⟩ = seqItems? (.ref T) >>= k ∧ k (some #[.none]) = pure ((["self", "subject"] : List Str).zip ([u] ++ [Value.none])) := ⟨_, rfl, rfl⟩
    exact BindsTo.of_looks fun M => by
      rw [e1]
      exact looks_items X lT rfl (.of_pure e2)
end
theorem callee_of {P : Program} {w : World} {K : PySem.W.Frag} {mg : Str → Option Value} {base : Heap} {CX : CXT} {k : Nat} {x : Str} {st : Stmt} {f : Addr} {fd : FuncData} {ps : List Str} {sp : Sp} (F : Fun K x x st f fd) (hm : mg x = some (.ref f)) (b : Binds K fd ps []) (ok : FnOk P w K mg base CX k f fd ps sp) : Callee P w K mg base CX k x ps sp := ⟨f, fd, ok, hm, F.kp, b⟩
theorem calleeR_of {P : Program} {w : World} {K : PySem.W.Frag} {mg : Str → Option Value} {base : Heap} {k : Nat} {x : Str} {st : Stmt} {f : Addr} {fd : FuncData} {ps : List Str} {sp : Sp} (F : Fun K x x st f fd) (hm : mg x = some (.ref f)) (b : Binds K fd ps []) (ok : FnOk P w K mg base (L2N.CX P w) k f fd ps sp) : CalleeR P w K mg base k x ps [] sp := ⟨f, fd, [], ok, hm, F.kp, .nil, b⟩
theorem calleeP_of {P : Program} {w : World} {K : PySem.W.Frag} {mg : Str → Option Value} {base : Heap} {k : Nat} {x : Str} {st : Stmt} {f : Addr} {fd : FuncData} {ps : List Str} {sp : Addr × Obj → Sp} (F : Fun K x x st f fd) (hm : mg x = some (.ref f)) (b : Binds K fd ps []) (ok : FnP P w K mg base k f fd ps sp) : CalleeP P w K mg base k x ps sp := ⟨f, fd, ok, hm, F.kp, b⟩
section
open PySem.W PySem.Calls PyProof.Rows
structure NnAt (K : PySem.W.Frag) : Prop where
  z_len : PySem.W.nsIn K mainGlobals "len" = some none
  z_int : PySem.W.nsIn K mainGlobals "int" = some none
  z_max : PySem.W.nsIn K mainGlobals "max" = some none
  z_min : PySem.W.nsIn K mainGlobals "min" = some none
  z_list : PySem.W.nsIn K mainGlobals "list" = some none
  z_tuple : PySem.W.nsIn K mainGlobals "tuple" = some none
  z_isinstance : PySem.W.nsIn K mainGlobals "isinstance" = some none
  z_range : PySem.W.nsIn K mainGlobals "range" = some none
  z_zip : PySem.W.nsIn K mainGlobals "zip" = some none
  z_bool : PySem.W.nsIn K mainGlobals "bool" = some none
  z_str : PySem.W.nsIn K mainGlobals "str" = some none
  z_dict : PySem.W.nsIn K mainGlobals "dict" = some none
  z_all : PySem.W.nsIn K mainGlobals "all" = some none
  z_super : PySem.W.nsIn K mainGlobals "super" = some none
  z_ValueError : PySem.W.nsIn K mainGlobals "ValueError" = some none
def RtAt (K : PySem.W.Frag) : Prop := ∃ (f : Addr) (od an : Option Addr) (sl : Array (Option Value)) (oc kV dc pm cd ct : Value) (T : Addr) (tc : Value) (td : Option Addr) (tk : Tok) (tn : Nat) (ts : Array (Option Value)), PySem.W.nsIn K mainGlobals "ratio" = some (some (.ref f)) ∧
  K.lookup f = some ⟨oc, od, .func (PySem.W.fnOf "ratio" "ratio" (defArgs s_p_ratio) (defBody s_p_ratio) (defScope s_p_ratio) (.ref T) kV dc pm an cd ct), sl⟩ ∧ K.lookup T = some ⟨tc, td, .seq #[.int 1 tk] tn, ts⟩ ∧ PySem.W.codeIn K cd "ratio" = true ∧ PySem.W.keepIn K (.ref f) = true
def NoAt (K : PySem.W.Frag) : Prop := ∃ (nA : Addr) (nd : Option Addr) (n0 n1 : Tok) (nn : Nat) (nsl : Array (Option Value)), PySem.W.nsIn K mainGlobals "NOUGHT" = some (some (.ref nA)) ∧ K.lookup nA = some ⟨.type "tuple", nd, .seq #[.int 0 n0, .int 1 n1] nn, nsl⟩
def KdK (K : PySem.W.Frag) (C : Addr) (x : Str) (b : Bool) : Prop := ∃ D : Addr, PySem.W.nsIn K mainGlobals x = some (some (.ref D)) ∧ PySem.W.kitOne K (.ref C) (.ref D) = some b
theorem KdK.kd {K : PySem.W.Frag} {h : Heap} {mg : Str → Option Value} {C : Addr} {x : Str} {b : Bool} (X : K.In h) (G : h.Ns mainGlobals mg) (q : KdK K C x b) : Kd K mg C x b := q.elim fun D h => ⟨D, PySem.W.mg_of X G h.1, h.2⟩
structure AskRK (K : PySem.W.Frag) (C : Addr) (w u : Bool) : Prop where
  WrongKind : KdK K C "WrongKind" w
  OutOfBounds : KdK K C "OutOfBounds" false
  RepeatedName : KdK K C "RepeatedName" false
  UnknownName : KdK K C "UnknownName" false
  Unsafe : KdK K C "Unsafe" false
  BadText : KdK K C "BadText" false
  UnfitError : KdK K C "UnfitError" u
  FrameError : KdK K C "FrameError" true
  VE : PySem.W.kitOne K (.ref C) (.type "ValueError") = some true
structure AskUK (K : PySem.W.Frag) (C : Addr) : Prop where
  ZeroDivisor : KdK K C "ZeroDivisor" true
  NegativeRoot : KdK K C "NegativeRoot" false
  ZeroBar : KdK K C "ZeroBar" false
  FlatMap : KdK K C "FlatMap" false
  BadSteps : KdK K C "BadSteps" false
  NotOneWay : KdK K C "NotOneWay" false
  NotHeld : KdK K C "NotHeld" false
  NotFlat : KdK K C "NotFlat" false
  NotCover : KdK K C "NotCover" false
  NotOwnStress : KdK K C "NotOwnStress" false
  NotPicture : KdK K C "NotPicture" false
  NotLift : KdK K C "NotLift" false
  NoReciprocal : KdK K C "NoReciprocal" false
  NotMotion : KdK K C "NotMotion" false
  NotAlike : KdK K C "NotAlike" false
  NotCrank : KdK K C "NotCrank" false
  NothingToUndo : KdK K C "NothingToUndo" false
  NothingToRedo : KdK K C "NothingToRedo" false
structure ClsAt (K : PySem.W.Frag) (C D F fi : Addr) (fld : Str) : Prop where
  cls : ∃ nm q N bs bm sn sub ab col dd k0 k1 k2 k3 k5, K.lookup C = some (excClassObj nm q C N bs bm true sn sub ab col dd k0 k1 k2 k3 k5 "ValueError.__new__") ∧ PySem.HandSPX.refsVE bm = true
  sa : PySem.W.findIn K (.ref C) "__setattr__" = some (some (.builtin "object.__setattr__"))
  ga : PySem.W.findIn K (.ref C) "__getattribute__" = some (some (.builtin "BaseException.__getattribute__"))
  gg : PySem.W.findIn K (.ref C) "__getattr__" = some none
  no : PySem.W.findIn K (.ref C) fld = some none
  kc : PySem.W.keepIn K (.ref C) = true
  ex : PySem.W.subIn K (.ref C) (.type "BaseException") = some true
  ty : PySem.W.typeIn K (.ref C) = some (.type "type")
  hd : PySem.W.hasDictIn K C = true
  ca : PySem.W.findIn K (.ref C) "__class__" = some (some (.builtin "object.__class__"))
  mo : PySem.W.mroIn K C (.type "object") = some true
  md : PySem.W.mroIn K C (.ref D) = some true
  ve : PySem.W.subIn K (.ref C) (.type "ValueError") = some true
  su : PySem.W.ks_superIn K C D "__init__" = some (some (.builtin "ValueError.__init__"))
  sf : PySem.W.subIn K (.ref C) (.ref F) = some true
  ini : PySem.W.findIn K (.ref C) "__init__" = some (some (.ref fi))
  ti : PySem.W.typeIn K (.ref fi) = some (.type "function")
def IniW (l : PySem.W.OpenLaw) (K : PySem.W.Frag) (D f : Addr) (st : Stmt) (qual : Str) : Prop := ∃ (oc : Value) (od an : Option Addr) (sl : Array (Option Value)) (kV dc pm ct : Value) (cda cc : Addr) (ccl : Value) (cdd : Option Addr) (vs : Array Value) (ccs : Array (Option Value)) (file : Str) (tf : Tok) (cl : Value) (cld : Option Addr) (csl : Array (Option Value)) (cdD : ClassData) ,
  K.lookup f = some ⟨oc, od, .func (PySem.W.ksFn "__init__" qual (defArgs st) (defBody st) (defScope st) .none kV dc pm an (.ref cda) ct cc), sl⟩ ∧ PySem.W.codeIn K (.ref cda) qual = true ∧ K.lookup cda = some ⟨ccl, cdd, .fields vs, ccs⟩ ∧ vs[2]? = some (.str file tf) ∧ ((l.prog.main.file : Str) == file) = true ∧
  K.lookup cc = some ⟨cl, cld, .cell (some (.ref D)), csl⟩ ∧ PySem.W.clsIn K D = some cdD
def IniU (l : PySem.W.OpenLaw) (K : PySem.W.Frag) (D f : Addr) (st : Stmt) (qual : Str) : Prop := ∃ (oc : Value) (od an : Option Addr) (sl : Array (Option Value)) (kV dc pm ct : Value) (cda cc : Addr) (ccl : Value) (cdd : Option Addr) (vs : Array Value) (ccs : Array (Option Value)) (file : Str) (tf : Tok) (cl : Value) (cld : Option Addr) (csl : Array (Option Value)) (cdD : ClassData) (T : Addr) (tc : Value) (td : Option Addr) (tn : Nat) (ts : Array (Option Value)),
  K.lookup f = some ⟨oc, od, .func (PySem.W.ksFn "__init__" qual (defArgs st) (defBody st) (defScope st) (.ref T) kV dc pm an (.ref cda) ct cc), sl⟩ ∧ K.lookup T = some ⟨tc, td, .seq #[.none] tn, ts⟩ ∧ PySem.W.codeIn K (.ref cda) qual = true ∧ K.lookup cda = some ⟨ccl, cdd, .fields vs, ccs⟩ ∧ vs[2]? = some (.str file tf) ∧ ((l.prog.main.file : Str) == file) = true ∧
  K.lookup cc = some ⟨cl, cld, .cell (some (.ref D)), csl⟩ ∧ PySem.W.clsIn K D = some cdD
def DefAt (K : PySem.W.Frag) (x : Str) (st : Stmt) : Prop := ∃ (f : Addr) (od an : Option Addr) (sl : Array (Option Value)) (oc kV dc pm cd ct : Value), PySem.W.nsIn K mainGlobals x = some (some (.ref f)) ∧ K.lookup f = some ⟨oc, od, .func (PySem.W.fnOf x x (defArgs st) (defBody st) (defScope st) .none kV dc pm an cd ct), sl⟩ ∧ PySem.W.codeIn K cd x = true ∧ PySem.W.keepIn K (.ref f) = true
theorem DefAt.get {K : PySem.W.Frag} {h : Heap} {mg : Str → Option Value} {x : Str} {st : Stmt} (X : K.In h) (G : h.Ns mainGlobals mg) (q : DefAt K x st) (ps : List Str)
    (hb : ∀ (kV doc pm : Value) (an : Option Addr) (cdv ct : Value) (us : List Value), us.length = ps.length → bindArgs (PySem.W.fnOf x x (defArgs st) (defBody st) (defScope st) .none kV doc pm an cdv ct) ⟨us, []⟩ = pure (ps.zip us)) :
    ∃ (f : Addr) (fd : FuncData), Fun K x x st f fd ∧ mg x = some (.ref f) ∧ Binds K fd ps [] ∧ ∀ (s : Shared) (us : List Value), us.length = ps.length → BindsTo s fd ⟨us, []⟩ (ps.zip us) := by
  obtain ⟨f, od, an, sl, oc, kV, dc, pm, cd, ct, a, b, c, d⟩ := q
  have F := fun_mk (st := st) b c d
  exact ⟨f, _, F, PySem.W.mg_of X G a, F.binds hb, fun s us hl => .of_eq (hb _ _ _ _ _ _ us hl)⟩

theorem DefAt.mk {K : PySem.W.Frag} {x : Str} {st : Stmt} {f : Addr} {od an : Option Addr} {sl : Array (Option Value)} {oc kV dc pm cd ct : Value} (a : PySem.W.nsIn K mainGlobals x = some (some (.ref f))) (l : K.lookup f = some ⟨oc, od, .func (PySem.W.fnOf x x (defArgs st) (defBody st) (defScope st) .none kV dc pm an cd ct), sl⟩) (c : PySem.W.codeIn K cd x = true) (k : PySem.W.keepIn K (.ref f) = true) : DefAt K x st := ⟨f, od, an, sl, oc, kV, dc, pm, cd, ct, a, l, c, k⟩
theorem RtAt.mk {K : PySem.W.Frag} {f : Addr} {od an : Option Addr} {sl : Array (Option Value)} {oc kV dc pm cd ct : Value} {T : Addr} {tc : Value} {td : Option Addr} {tk : Tok} {tn : Nat} {ts : Array (Option Value)} (a : PySem.W.nsIn K mainGlobals "ratio" = some (some (.ref f)))
  (l : K.lookup f = some ⟨oc, od, .func (PySem.W.fnOf "ratio" "ratio" (defArgs s_p_ratio) (defBody s_p_ratio) (defScope s_p_ratio) (.ref T) kV dc pm an cd ct), sl⟩) (t : K.lookup T = some ⟨tc, td, .seq #[.int 1 tk] tn, ts⟩) (c : PySem.W.codeIn K cd "ratio" = true) (k : PySem.W.keepIn K (.ref f) = true) : RtAt K := ⟨f, od, an, sl, oc, kV, dc, pm, cd, ct, T, tc, td, tk, tn, ts, a, l, t, c, k⟩
theorem NoAt.mk {K : PySem.W.Frag} {nA : Addr} {nd : Option Addr} {n0 n1 : Tok} {nn : Nat} {nsl : Array (Option Value)} (a : PySem.W.nsIn K mainGlobals "NOUGHT" = some (some (.ref nA))) (l : K.lookup nA = some ⟨.type "tuple", nd, .seq #[.int 0 n0, .int 1 n1] nn, nsl⟩) : NoAt K := ⟨nA, nd, n0, n1, nn, nsl, a, l⟩
theorem KdK.mk {K : PySem.W.Frag} {C D : Addr} {x : Str} {b : Bool} (a : PySem.W.nsIn K mainGlobals x = some (some (.ref D))) (e : PySem.W.kitOne K (.ref C) (.ref D) = some b) : KdK K C x b := ⟨D, a, e⟩
theorem cls_mk {K : PySem.W.Frag} {C : Addr} {nm q : Str} {N : Addr} {bs bm : List Value} {sn : List Str} {sub : List Value} {ab : Bool} {col : Option Bool} {dd : Option Addr} {k0 k1 k2 k3 k5 : Option Value} (x : K.lookup C = some (excClassObj nm q C N bs bm true sn sub ab col dd k0 k1 k2 k3 k5 "ValueError.__new__")) (y : PySem.HandSPX.refsVE bm = true) :
  ∃ nm q N bs bm sn sub ab col dd k0 k1 k2 k3 k5, K.lookup C = some (excClassObj nm q C N bs bm true sn sub ab col dd k0 k1 k2 k3 k5 "ValueError.__new__") ∧ PySem.HandSPX.refsVE bm = true := ⟨_, _, _, _, _, _, _, _, _, _, _, _, _, _, _, x, y⟩
theorem IniW.mk {l : PySem.W.OpenLaw} {K : PySem.W.Frag} {D f : Addr} {st : Stmt} {qual : Str} {oc : Value} {od an : Option Addr} {sl : Array (Option Value)} {kV dc pm ct : Value} {cda cc : Addr} {ccl : Value} {cdd : Option Addr} {vs : Array Value} {ccs : Array (Option Value)} {file : Str} {tf : Tok} {cl : Value} {cld : Option Addr} {csl : Array (Option Value)} {cdD : ClassData}
  (a : K.lookup f = some ⟨oc, od, .func (PySem.W.ksFn "__init__" qual (defArgs st) (defBody st) (defScope st) .none kV dc pm an (.ref cda) ct cc), sl⟩) (c : PySem.W.codeIn K (.ref cda) qual = true) (d : K.lookup cda = some ⟨ccl, cdd, .fields vs, ccs⟩) (v : vs[2]? = some (.str file tf)) (g : ((l.prog.main.file : Str) == file) = true)
  (e : K.lookup cc = some ⟨cl, cld, .cell (some (.ref D)), csl⟩) (h : PySem.W.clsIn K D = some cdD) : IniW l K D f st qual := ⟨oc, od, an, sl, kV, dc, pm, ct, cda, cc, ccl, cdd, vs, ccs, file, tf, cl, cld, csl, cdD, a, c, d, v, g, e, h⟩
theorem IniU.mk {l : PySem.W.OpenLaw} {K : PySem.W.Frag} {D f : Addr} {st : Stmt} {qual : Str} {oc : Value} {od an : Option Addr} {sl : Array (Option Value)} {kV dc pm ct : Value} {cda cc : Addr} {ccl : Value} {cdd : Option Addr} {vs : Array Value} {ccs : Array (Option Value)} {file : Str} {tf : Tok} {cl : Value} {cld : Option Addr} {csl : Array (Option Value)} {cdD : ClassData}
  {T : Addr} {tc : Value} {td : Option Addr} {tn : Nat} {ts : Array (Option Value)}
  (a : K.lookup f = some ⟨oc, od, .func (PySem.W.ksFn "__init__" qual (defArgs st) (defBody st) (defScope st) (.ref T) kV dc pm an (.ref cda) ct cc), sl⟩) (t : K.lookup T = some ⟨tc, td, .seq #[.none] tn, ts⟩) (c : PySem.W.codeIn K (.ref cda) qual = true) (d : K.lookup cda = some ⟨ccl, cdd, .fields vs, ccs⟩) (v : vs[2]? = some (.str file tf)) (g : ((l.prog.main.file : Str) == file) = true)
  (e : K.lookup cc = some ⟨cl, cld, .cell (some (.ref D)), csl⟩) (h : PySem.W.clsIn K D = some cdD) : IniU l K D f st qual := ⟨oc, od, an, sl, kV, dc, pm, ct, cda, cc, ccl, cdd, vs, ccs, file, tf, cl, cld, csl, cdD, T, tc, td, tn, ts, a, t, c, d, v, g, e, h⟩
end
open PySem.W in
theorem all_mk {l : PySem.W.OpenLaw} {w : World} {K : PySem.W.Frag} {h : Heap} {mg : Str → Option Value} {fa : Addr} (X : K.In h) (G : h.Ns mainGlobals mg) (hfa : mg "law" = some (.ref fa))
    {CW CU CZ CF : Addr}
    {fW fZ : Addr}
    (h_told : DefAt K "_told" s_p_told)
    (h_lowest : DefAt K "lowest" s_p_lowest)
    (h_plus : DefAt K "plus" s_p_plus)
    (h_minus : DefAt K "minus" s_p_minus)
    (h_times : DefAt K "times" s_p_times)
    (h_over : DefAt K "over" s_p_over)
    (h_opposite : DefAt K "opposite" s_p_opposite)
    (h_numbersign : DefAt K "number_sign" s_p_number_sign)
    (h_signof : DefAt K "sign_of" s_p_sign_of)
    (h_sumof : DefAt K "sum_of" s_p_sum_of)
    (h_isinteger : DefAt K "is_integer" s_p_is_integer)
    (h_isratio : DefAt K "is_ratio" s_p_is_ratio)
    (h_isratiolist : DefAt K "is_ratio_list" s_p_is_ratio_list)
    (h_needratio : DefAt K "need_ratio" s_p_need_ratio)
    (h_needratiolist : DefAt K "need_ratio_list" s_p_need_ratio_list)
    (h_needtwo : DefAt K "_need_two" s_p_need_two)
    (h_add : DefAt K "add" s_p_add)
    (h_subtract : DefAt K "subtract" s_p_subtract)
    (h_multiply : DefAt K "multiply" s_p_multiply)
    (h_divide : DefAt K "divide" s_p_divide)
    (h_negate : DefAt K "negate" s_p_negate)
    (h_sign : DefAt K "sign" s_p_sign)
    (h_compare : DefAt K "compare" s_p_compare)
    (h_total : DefAt K "total" s_p_total)
    (h_lstore : DefAt K "_law_store" s_store)
    (h_ltake : DefAt K "_law_take" s_take)
    (h_ledge : DefAt K "_law_edge" s_edge)
    (h_lbetween : DefAt K "_law_between" s_between)
    (h_ltens : DefAt K "_law_tens" s_tens)
    (h_linteger : DefAt K "_law_integer" s_integer)
    (h_llow : DefAt K "_law_low" s_low)
    (h_lsgn : DefAt K "_law_sgn" s_sgn)
    (h_lsmall : DefAt K "_law_small" s_small)
    (h_lratio : DefAt K "_law_ratio" s_ratio)
    (h_lnotratio : DefAt K "_law_not_ratio" s_not_ratio)
    (h_lnotinteger : DefAt K "_law_not_integer" s_not_integer)
    (h_lsame : DefAt K "_law_same" s_same)
    (h_lisint : DefAt K "_law_is_int" s_is_int)
    (h_lisratio : DefAt K "_law_is_ratio" s_is_ratio)
    (h_lisratios : DefAt K "_law_is_ratios" s_is_ratios)
    (h_lrefused : DefAt K "_law_refused" s_refused)
    (h_lunfit : DefAt K "_law_unfit" s_unfit)
    (h_lcall : DefAt K "_law_call" s_call)
    (h_lfault : DefAt K "_law_fault" s_fault)
    (h_lfraction : DefAt K "_law_fraction" s_fraction)
    (h_lright : DefAt K "_law_right" s_right)
    (h_lasdue : DefAt K "_law_as_due" s_as_due)
    (h_lsecond : DefAt K "_law_second" s_second)
    (h_lwholepair : DefAt K "_law_whole_pair" s_whole_pair)
    (h_lvalues : DefAt K "_law_values" s_values)
    (h_lbadask : DefAt K "_law_bad_ask" s_bad_ask)
    (h_lundone : DefAt K "_law_undone" s_undone)
    (h_law : DefAt K "law" s_law)
    (h_nn : NnAt K)
    (z_gcd : PySem.W.nsIn K mainGlobals "gcd" = some (some (.builtin "math.gcd")))
    (z_dig : PySem.W.nsIn K cStatics "sys.int_max_str_digits" = some none)
    (z_tp : PySem.W.nsIn K cStatics "thirdparty.any" = some none)
    (z_top : (l.prog.main.scope.names.lookup ("super" : Str)).isSome = false)
    (h_rt : RtAt K)
    (h_no : NoAt K)
    (g_WrongKind : PySem.W.nsIn K mainGlobals "WrongKind" = some (some (.ref CW)))
    (g_UnfitError : PySem.W.nsIn K mainGlobals "UnfitError" = some (some (.ref CU)))
    (g_ZeroDivisor : PySem.W.nsIn K mainGlobals "ZeroDivisor" = some (some (.ref CZ)))
    (g_FrameError : PySem.W.nsIn K mainGlobals "FrameError" = some (some (.ref CF)))
    (aw : AskRK K CW true false)
    (az : AskRK K CZ false true)
    (au : AskUK K CZ)
    (kw : ClsAt K CW CW CF fW "argument")
    (kz : ClsAt K CZ CU CF fZ "subject")
    (sn : PySem.W.specialIn K (.builtin "object.__class__") "__get__" = some (some (.builtin "getset_descriptor.__get__")))
    (tk : PySem.W.takesIn K (.builtin "object.__class__") = some true)
    (fr1 : PySem.W.subIn K (.ref CF) (.type "BaseException") = some true)
    (fr2 : PySem.W.typeIn K (.ref CF) = some (.type "type"))
    (fr3 : PySem.W.hasDictIn K CF = true)
    (iw : IniW l K CW fW s_p_wk_init "WrongKind.__init__")
    (iz : IniU l K CU fZ s_p_un_init "UnfitError.__init__")
    : ∃ fd : FuncData, (∀ (s : Shared) (v : Value), BindsTo s fd ⟨[v], []⟩ [("_law_script", v)]) ∧ ∀ base : Heap, K.In base → base.Ns mainGlobals mg → FnOk l.prog w K mg base CX0 133 fa fd ["_law_script"] (spLaw K) := by
  obtain ⟨f_law, fd_law, F_law, m_law, b_law, bt_law⟩ := h_law.get X G ["_law_script"] fun _ _ _ _ _ _ us hl => match us, hl with | [_], _ => rfl
  have e := hfa.symm.trans m_law
  cases e
  have T : TxtP K mg := ⟨⟨⟨PySem.W.mg_none_of X G h_nn.z_len, PySem.W.mg_none_of X G h_nn.z_int, PySem.W.mg_none_of X G h_nn.z_max, PySem.W.mg_none_of X G h_nn.z_min, PySem.W.mg_none_of X G h_nn.z_list, PySem.W.mg_none_of X G h_nn.z_tuple, PySem.W.mg_none_of X G h_nn.z_isinstance, PySem.W.mg_none_of X G h_nn.z_range, PySem.W.mg_none_of X G h_nn.z_zip, PySem.W.mg_none_of X G h_nn.z_bool, PySem.W.mg_none_of X G h_nn.z_str, PySem.W.mg_none_of X G h_nn.z_dict, PySem.W.mg_of X G z_gcd⟩, z_dig⟩, PySem.W.mg_none_of X G h_nn.z_all⟩
  have NT : Nought K mg := by
    obtain ⟨nA, nd, n0, n1, nn, nsl, a, b⟩ := h_no
    exact ⟨nA, PySem.W.mg_of X G a, fun H => .inr ⟨_, _, _, b, rfl, rfl, by show 2 ≤ sizeLine; decide, .cons ⟨_, rfl⟩ (.cons ⟨_, rfl⟩ .nil)⟩⟩
  obtain ⟨f_told, fd_told, F_told, m_told, b_told, _⟩ := h_told.get X G ["value"] fun _ _ _ _ _ _ us hl => match us, hl with | [_], _ => rfl
  clear h_told
  obtain ⟨f_lowest, fd_lowest, F_lowest, m_lowest, b_lowest, _⟩ := h_lowest.get X G ["numerator", "denominator"] fun _ _ _ _ _ _ us hl => match us, hl with | [_, _], _ => rfl
  clear h_lowest
  obtain ⟨f_plus, fd_plus, F_plus, m_plus, b_plus, _⟩ := h_plus.get X G ["one", "other"] fun _ _ _ _ _ _ us hl => match us, hl with | [_, _], _ => rfl
  clear h_plus
  obtain ⟨f_minus, fd_minus, F_minus, m_minus, b_minus, _⟩ := h_minus.get X G ["one", "other"] fun _ _ _ _ _ _ us hl => match us, hl with | [_, _], _ => rfl
  clear h_minus
  obtain ⟨f_times, fd_times, F_times, m_times, b_times, _⟩ := h_times.get X G ["one", "other"] fun _ _ _ _ _ _ us hl => match us, hl with | [_, _], _ => rfl
  clear h_times
  obtain ⟨f_over, fd_over, F_over, m_over, b_over, _⟩ := h_over.get X G ["one", "other"] fun _ _ _ _ _ _ us hl => match us, hl with | [_, _], _ => rfl
  clear h_over
  obtain ⟨f_opposite, fd_opposite, F_opposite, m_opposite, b_opposite, _⟩ := h_opposite.get X G ["one"] fun _ _ _ _ _ _ us hl => match us, hl with | [_], _ => rfl
  clear h_opposite
  obtain ⟨f_numbersign, fd_numbersign, F_numbersign, m_numbersign, b_numbersign, _⟩ := h_numbersign.get X G ["number"] fun _ _ _ _ _ _ us hl => match us, hl with | [_], _ => rfl
  clear h_numbersign
  obtain ⟨f_signof, fd_signof, F_signof, m_signof, b_signof, _⟩ := h_signof.get X G ["one"] fun _ _ _ _ _ _ us hl => match us, hl with | [_], _ => rfl
  clear h_signof
  obtain ⟨f_sumof, fd_sumof, F_sumof, m_sumof, b_sumof, _⟩ := h_sumof.get X G ["values"] fun _ _ _ _ _ _ us hl => match us, hl with | [_], _ => rfl
  clear h_sumof
  obtain ⟨f_isinteger, fd_isinteger, F_isinteger, m_isinteger, b_isinteger, _⟩ := h_isinteger.get X G ["value"] fun _ _ _ _ _ _ us hl => match us, hl with | [_], _ => rfl
  clear h_isinteger
  obtain ⟨f_isratio, fd_isratio, F_isratio, m_isratio, b_isratio, _⟩ := h_isratio.get X G ["value"] fun _ _ _ _ _ _ us hl => match us, hl with | [_], _ => rfl
  clear h_isratio
  obtain ⟨f_isratiolist, fd_isratiolist, F_isratiolist, m_isratiolist, b_isratiolist, _⟩ := h_isratiolist.get X G ["value"] fun _ _ _ _ _ _ us hl => match us, hl with | [_], _ => rfl
  clear h_isratiolist
  obtain ⟨f_needratio, fd_needratio, F_needratio, m_needratio, b_needratio, _⟩ := h_needratio.get X G ["value", "argument"] fun _ _ _ _ _ _ us hl => match us, hl with | [_, _], _ => rfl
  clear h_needratio
  obtain ⟨f_needratiolist, fd_needratiolist, F_needratiolist, m_needratiolist, b_needratiolist, _⟩ := h_needratiolist.get X G ["value", "argument"] fun _ _ _ _ _ _ us hl => match us, hl with | [_, _], _ => rfl
  clear h_needratiolist
  obtain ⟨f_needtwo, fd_needtwo, F_needtwo, m_needtwo, b_needtwo, _⟩ := h_needtwo.get X G ["one", "other"] fun _ _ _ _ _ _ us hl => match us, hl with | [_, _], _ => rfl
  clear h_needtwo
  obtain ⟨f_add, fd_add, F_add, m_add, b_add, _⟩ := h_add.get X G ["one", "other"] fun _ _ _ _ _ _ us hl => match us, hl with | [_, _], _ => rfl
  clear h_add
  obtain ⟨f_subtract, fd_subtract, F_subtract, m_subtract, b_subtract, _⟩ := h_subtract.get X G ["one", "other"] fun _ _ _ _ _ _ us hl => match us, hl with | [_, _], _ => rfl
  clear h_subtract
  obtain ⟨f_multiply, fd_multiply, F_multiply, m_multiply, b_multiply, _⟩ := h_multiply.get X G ["one", "other"] fun _ _ _ _ _ _ us hl => match us, hl with | [_, _], _ => rfl
  clear h_multiply
  obtain ⟨f_divide, fd_divide, F_divide, m_divide, b_divide, _⟩ := h_divide.get X G ["one", "other"] fun _ _ _ _ _ _ us hl => match us, hl with | [_, _], _ => rfl
  clear h_divide
  obtain ⟨f_negate, fd_negate, F_negate, m_negate, b_negate, _⟩ := h_negate.get X G ["one"] fun _ _ _ _ _ _ us hl => match us, hl with | [_], _ => rfl
  clear h_negate
  obtain ⟨f_sign, fd_sign, F_sign, m_sign, b_sign, _⟩ := h_sign.get X G ["one"] fun _ _ _ _ _ _ us hl => match us, hl with | [_], _ => rfl
  clear h_sign
  obtain ⟨f_compare, fd_compare, F_compare, m_compare, b_compare, _⟩ := h_compare.get X G ["one", "other"] fun _ _ _ _ _ _ us hl => match us, hl with | [_, _], _ => rfl
  clear h_compare
  obtain ⟨f_total, fd_total, F_total, m_total, b_total, _⟩ := h_total.get X G ["values"] fun _ _ _ _ _ _ us hl => match us, hl with | [_], _ => rfl
  clear h_total
  obtain ⟨f_lstore, fd_lstore, F_lstore, m_lstore, b_lstore, _⟩ := h_lstore.get X G ["_law_script"] fun _ _ _ _ _ _ us hl => match us, hl with | [_], _ => rfl
  clear h_lstore
  obtain ⟨f_ltake, fd_ltake, F_ltake, m_ltake, b_ltake, _⟩ := h_ltake.get X G ["_law_store_here", "_law_many"] fun _ _ _ _ _ _ us hl => match us, hl with | [_, _], _ => rfl
  clear h_ltake
  obtain ⟨f_ledge, fd_ledge, F_ledge, m_ledge, b_ledge, _⟩ := h_ledge.get X G ["_law_store_here", "_law_many"] fun _ _ _ _ _ _ us hl => match us, hl with | [_, _], _ => rfl
  clear h_ledge
  obtain ⟨f_lbetween, fd_lbetween, F_lbetween, m_lbetween, b_lbetween, _⟩ := h_lbetween.get X G ["_law_store_here", "_law_low_here", "_law_high"] fun _ _ _ _ _ _ us hl => match us, hl with | [_, _, _], _ => rfl
  clear h_lbetween
  obtain ⟨f_ltens, fd_ltens, F_ltens, m_ltens, b_ltens, _⟩ := h_ltens.get X G ["_law_figures"] fun _ _ _ _ _ _ us hl => match us, hl with | [_], _ => rfl
  clear h_ltens
  obtain ⟨f_linteger, fd_linteger, F_linteger, m_linteger, b_linteger, _⟩ := h_linteger.get X G ["_law_store_here", "_law_figures"] fun _ _ _ _ _ _ us hl => match us, hl with | [_, _], _ => rfl
  clear h_linteger
  obtain ⟨f_llow, fd_llow, F_llow, m_llow, b_llow, _⟩ := h_llow.get X G ["_law_up", "_law_down"] fun _ _ _ _ _ _ us hl => match us, hl with | [_, _], _ => rfl
  clear h_llow
  obtain ⟨f_lsgn, fd_lsgn, F_lsgn, m_lsgn, b_lsgn, _⟩ := h_lsgn.get X G ["_law_one"] fun _ _ _ _ _ _ us hl => match us, hl with | [_], _ => rfl
  clear h_lsgn
  obtain ⟨f_lsmall, fd_lsmall, F_lsmall, m_lsmall, b_lsmall, _⟩ := h_lsmall.get X G ["_law_store_here"] fun _ _ _ _ _ _ us hl => match us, hl with | [_], _ => rfl
  clear h_lsmall
  obtain ⟨f_lratio, fd_lratio, F_lratio, m_lratio, b_lratio, _⟩ := h_lratio.get X G ["_law_store_here", "_law_figures"] fun _ _ _ _ _ _ us hl => match us, hl with | [_, _], _ => rfl
  clear h_lratio
  obtain ⟨f_lnotratio, fd_lnotratio, F_lnotratio, m_lnotratio, b_lnotratio, _⟩ := h_lnotratio.get X G ["_law_store_here", "_law_none_too"] fun _ _ _ _ _ _ us hl => match us, hl with | [_, _], _ => rfl
  clear h_lnotratio
  obtain ⟨f_lnotinteger, fd_lnotinteger, F_lnotinteger, m_lnotinteger, b_lnotinteger, _⟩ := h_lnotinteger.get X G ["_law_store_here"] fun _ _ _ _ _ _ us hl => match us, hl with | [_], _ => rfl
  clear h_lnotinteger
  obtain ⟨f_lsame, fd_lsame, F_lsame, m_lsame, b_lsame, _⟩ := h_lsame.get X G ["_law_got", "_law_due"] fun _ _ _ _ _ _ us hl => match us, hl with | [_, _], _ => rfl
  clear h_lsame
  obtain ⟨f_lisint, fd_lisint, F_lisint, m_lisint, b_lisint, _⟩ := h_lisint.get X G ["_law_thing"] fun _ _ _ _ _ _ us hl => match us, hl with | [_], _ => rfl
  clear h_lisint
  obtain ⟨f_lisratio, fd_lisratio, F_lisratio, m_lisratio, b_lisratio, _⟩ := h_lisratio.get X G ["_law_thing"] fun _ _ _ _ _ _ us hl => match us, hl with | [_], _ => rfl
  clear h_lisratio
  obtain ⟨f_lisratios, fd_lisratios, F_lisratios, m_lisratios, b_lisratios, _⟩ := h_lisratios.get X G ["_law_thing", "_law_many"] fun _ _ _ _ _ _ us hl => match us, hl with | [_, _], _ => rfl
  clear h_lisratios
  obtain ⟨f_lrefused, fd_lrefused, F_lrefused, m_lrefused, b_lrefused, _⟩ := h_lrefused.get X G ["_law_e"] fun _ _ _ _ _ _ us hl => match us, hl with | [_], _ => rfl
  clear h_lrefused
  obtain ⟨f_lunfit, fd_lunfit, F_lunfit, m_lunfit, b_lunfit, _⟩ := h_lunfit.get X G ["_law_e"] fun _ _ _ _ _ _ us hl => match us, hl with | [_], _ => rfl
  clear h_lunfit
  obtain ⟨f_lcall, fd_lcall, F_lcall, m_lcall, b_lcall, _⟩ := h_lcall.get X G ["_law_way", "_law_one", "_law_two"] fun _ _ _ _ _ _ us hl => match us, hl with | [_, _, _], _ => rfl
  clear h_lcall
  obtain ⟨f_lfault, fd_lfault, F_lfault, m_lfault, b_lfault, _⟩ := h_lfault.get X G ["_law_way", "_law_one", "_law_two"] fun _ _ _ _ _ _ us hl => match us, hl with | [_, _, _], _ => rfl
  clear h_lfault
  obtain ⟨f_lfraction, fd_lfraction, F_lfraction, m_lfraction, b_lfraction, _⟩ := h_lfraction.get X G ["_law_way", "_law_one", "_law_two"] fun _ _ _ _ _ _ us hl => match us, hl with | [_, _, _], _ => rfl
  clear h_lfraction
  obtain ⟨f_lright, fd_lright, F_lright, m_lright, b_lright, _⟩ := h_lright.get X G ["_law_way", "_law_one", "_law_two", "_law_told"] fun _ _ _ _ _ _ us hl => match us, hl with | [_, _, _, _], _ => rfl
  clear h_lright
  obtain ⟨f_lasdue, fd_lasdue, F_lasdue, m_lasdue, b_lasdue, _⟩ := h_lasdue.get X G ["_law_ask", "_law_told"] fun _ _ _ _ _ _ us hl => match us, hl with | [_, _], _ => rfl
  clear h_lasdue
  obtain ⟨f_lsecond, fd_lsecond, F_lsecond, m_lsecond, b_lsecond, _⟩ := h_lsecond.get X G ["_law_store_here", "_law_one", "_law_figures"] fun _ _ _ _ _ _ us hl => match us, hl with | [_, _, _], _ => rfl
  clear h_lsecond
  obtain ⟨f_lwholepair, fd_lwholepair, F_lwholepair, m_lwholepair, b_lwholepair, _⟩ := h_lwholepair.get X G ["_law_store_here", "_law_figures"] fun _ _ _ _ _ _ us hl => match us, hl with | [_, _], _ => rfl
  clear h_lwholepair
  obtain ⟨f_lvalues, fd_lvalues, F_lvalues, m_lvalues, b_lvalues, _⟩ := h_lvalues.get X G ["_law_store_here", "_law_one", "_law_figures"] fun _ _ _ _ _ _ us hl => match us, hl with | [_, _, _], _ => rfl
  clear h_lvalues
  obtain ⟨f_lbadask, fd_lbadask, F_lbadask, m_lbadask, b_lbadask, _⟩ := h_lbadask.get X G ["_law_store_here", "_law_way", "_law_ask"] fun _ _ _ _ _ _ us hl => match us, hl with | [_, _, _], _ => rfl
  clear h_lbadask
  obtain ⟨f_lundone, fd_lundone, F_lundone, m_lundone, b_lundone, _⟩ := h_lundone.get X G ["_law_one", "_law_two"] fun _ _ _ _ _ _ us hl => match us, hl with | [_, _], _ => rfl
  clear h_lundone
  obtain ⟨f_rt, od_rt, an_rt, sl_rt, oc_rt, kV_rt, dc_rt, pm_rt, cd_rt, ct_rt, T_rt, tc_rt, td_rt, tk_rt, tn_rt, ts_rt, a_rt, l_rt, t_rt, c_rt, k_rt⟩ := h_rt
  have F_rt : FunD K "ratio" "ratio" (defArgs s_p_ratio) (defBody s_p_ratio) (defScope s_p_ratio) [.int 1] [] f_rt _ := ⟨⟨_, _, _, _, _, _, _, _, _, _, rfl, l_rt, c_rt, .inr ⟨by simp, T_rt, _, [.int 1 tk_rt], _, rfl, t_rt, rfl, .cons ⟨_, rfl⟩ .nil⟩, .inl rfl⟩, k_rt⟩
  have m_rt := PySem.W.mg_of X G a_rt
  have brt2 := F_rt.binds1 (ps := ["numerator", "denominator"]) 2 1 (by simp) rfl (fun T kV doc pm an cdv ct us its hu hi => match us, its, hu, hi with | [_, _], [_], _, _ => ⟨_, rfl, rfl⟩)
  have brt1 := F_rt.binds1 (ps := ["numerator", "denominator"]) 1 0 (by simp) rfl (fun T kV doc pm an cdv ct us its hu hi => match us, its, hu, hi with | [_], [_], _, _ => ⟨_, rfl, rfl⟩)
  have gm_WrongKind := PySem.W.mg_of X G g_WrongKind
  have gm_UnfitError := PySem.W.mg_of X G g_UnfitError
  have gm_ZeroDivisor := PySem.W.mg_of X G g_ZeroDivisor
  have gm_FrameError := PySem.W.mg_of X G g_FrameError
  have O_w : OexC K CW := ⟨kw.cls, kw.sa, kw.ex, kw.ty, kw.kc⟩
  have E_w : L2.ExcC K CW := ⟨kw.ga, kw.gg, kw.ex, kw.hd, kw.ca, sn, tk, kw.mo⟩
  have X_w : XfC K CW := ⟨kw.ga, kw.gg, kw.ex, kw.hd⟩
  have EOw : ExcOf K CW CW := ⟨O_w, kw.md, kw.su, kw.ve⟩
  have O_z : OexC K CZ := ⟨kz.cls, kz.sa, kz.ex, kz.ty, kz.kc⟩
  have E_z : L2.ExcC K CZ := ⟨kz.ga, kz.gg, kz.ex, kz.hd, kz.ca, sn, tk, kz.mo⟩
  have X_z : XfC K CZ := ⟨kz.ga, kz.gg, kz.ex, kz.hd⟩
  have EOz : ExcOf K CU CZ := ⟨O_z, kz.md, kz.su, kz.ve⟩
  obtain ⟨oc1, od1, an1, sl1, kV1, dc1, pm1, ct1, cda1, cc1, ccl1, cdd1, vs1, ccs1, file1, tf1, cl1, cld1, csl1, cdD1, l1, c1, d1, v1, fl1, e1, g1⟩ := iw
  obtain ⟨oc2, od2, an2, sl2, kV2, dc2, pm2, ct2, cda2, cc2, ccl2, cdd2, vs2, ccs2, file2, tf2, cl2, cld2, csl2, cdD2, T2, tc2, td2, tn2, ts2, l2, t2, c2, d2, v2, fl2, e2, g2⟩ := iz
  have I_w : InitF l.prog K mg s_p_wk_init "WrongKind.__init__" CW fW _ := ⟨⟨_, _, _, _, _, _, _, _, _, _, _, _, _, _, _, _, _, _, _, _, _, rfl, l1, c1, d1, v1, fl1, e1, g1⟩, PySem.W.mg_none_of X G h_nn.z_super, z_tp, z_top⟩
  have I_z : InitF l.prog K mg s_p_un_init "UnfitError.__init__" CU fZ _ := ⟨⟨_, _, _, _, _, _, _, _, _, _, _, _, _, _, _, _, _, _, _, _, _, rfl, l2, c2, d2, v2, fl2, e2, g2⟩, PySem.W.mg_none_of X G h_nn.z_super, z_tp, z_top⟩
  have AW : AskR K mg CW true false := ⟨aw.WrongKind.kd X G, aw.OutOfBounds.kd X G, aw.RepeatedName.kd X G, aw.UnknownName.kd X G, aw.Unsafe.kd X G, aw.BadText.kd X G, aw.UnfitError.kd X G, aw.FrameError.kd X G, aw.VE, PySem.W.mg_none_of X G h_nn.z_ValueError⟩
  have AZ : AskR K mg CZ false true := ⟨az.WrongKind.kd X G, az.OutOfBounds.kd X G, az.RepeatedName.kd X G, az.UnknownName.kd X G, az.Unsafe.kd X G, az.BadText.kd X G, az.UnfitError.kd X G, az.FrameError.kd X G, az.VE, PySem.W.mg_none_of X G h_nn.z_ValueError⟩
  have AU : AskU K mg CZ := ⟨au.ZeroDivisor.kd X G, au.NegativeRoot.kd X G, au.ZeroBar.kd X G, au.FlatMap.kd X G, au.BadSteps.kd X G, au.NotOneWay.kd X G, au.NotHeld.kd X G, au.NotFlat.kd X G, au.NotCover.kd X G, au.NotOwnStress.kd X G, au.NotPicture.kd X G, au.NotLift.kd X G, au.NoReciprocal.kd X G, au.NotMotion.kd X G, au.NotAlike.kd X G, au.NotCrank.kd X G, au.NothingToUndo.kd X G, au.NothingToRedo.kd X G⟩
  refine ⟨fd_law, fun s v => bt_law s [v] rfl, fun base _ _ => ?_⟩
  · have D := T.toTxtD
    have C0 := T.toTxt
    have t_told := callee_of (P := l.prog) (w := w) (base := base) F_told m_told b_told (ok_told F_told D)
    have e_w : Err l.prog w K mg base "WrongKind" CW "argument" true := ⟨O_w, gm_WrongKind, CW, fW, _, _, EOw, kw.ini, kw.ti, kw.no, ok_p_wk_init I_w t_told, Binds.all fun us hl => match us, hl with | [_, _], _ => rfl⟩
    have e_z : Err l.prog w K mg base "ZeroDivisor" CZ "subject" false := ⟨O_z, gm_ZeroDivisor, CU, fZ, _, _, EOz, kz.ini, kz.ti, kz.no, ok_p_un_init I_z t_told, binds_un t2⟩
    have t_lowest := callee_of (P := l.prog) (w := w) (base := base) F_lowest m_lowest b_lowest (ok_p_lowest F_lowest D)
    have t_plus := callee_of (P := l.prog) (w := w) (base := base) F_plus m_plus b_plus (ok_p_plus F_plus t_lowest)
    have t_minus := callee_of (P := l.prog) (w := w) (base := base) F_minus m_minus b_minus (ok_p_minus F_minus t_lowest)
    have t_times := callee_of (P := l.prog) (w := w) (base := base) F_times m_times b_times (ok_p_times F_times t_lowest)
    have t_over := callee_of (P := l.prog) (w := w) (base := base) F_over m_over b_over (ok_p_over F_over t_lowest)
    have t_opposite := callee_of (P := l.prog) (w := w) (base := base) F_opposite m_opposite b_opposite (ok_p_opposite F_opposite)
    have t_numbersign := callee_of (P := l.prog) (w := w) (base := base) F_numbersign m_numbersign b_numbersign (ok_p_number_sign F_numbersign)
    have t_signof := callee_of (P := l.prog) (w := w) (base := base) F_signof m_signof b_signof (ok_p_sign_of F_signof t_numbersign)
    have t_isinteger := callee_of (P := l.prog) (w := w) (base := base) F_isinteger m_isinteger b_isinteger (ok_p_is_integer F_isinteger T)
    have t_isratio := callee_of (P := l.prog) (w := w) (base := base) F_isratio m_isratio b_isratio (ok_p_is_ratio F_isratio T t_isinteger)
    have t_isratiolist := callee_of (P := l.prog) (w := w) (base := base) F_isratiolist m_isratiolist b_isratiolist (ok_p_is_ratio_list F_isratiolist T t_isratio)
    have t_sumof := callee_of (P := l.prog) (w := w) (base := base) F_sumof m_sumof b_sumof (ok_p_sum_of F_sumof T NT t_plus)
    have t_needratio := callee_of (P := l.prog) (w := w) (base := base) F_needratio m_needratio b_needratio (ok_p_need_ratio F_needratio e_w t_isratio)
    have t_needratiolist := callee_of (P := l.prog) (w := w) (base := base) F_needratiolist m_needratiolist b_needratiolist (ok_p_need_ratio_list F_needratiolist e_w t_isratiolist)
    have t_needtwo := callee_of (P := l.prog) (w := w) (base := base) F_needtwo m_needtwo b_needtwo (ok_p_need_two F_needtwo t_needratio)
    have t_add := calleeR_of (P := l.prog) (w := w) (base := base) F_add m_add b_add (ok_p_add F_add (CZ := CZ) t_needtwo t_plus)
    have t_subtract := calleeR_of (P := l.prog) (w := w) (base := base) F_subtract m_subtract b_subtract (ok_p_subtract F_subtract (CZ := CZ) t_needtwo t_minus)
    have t_multiply := calleeR_of (P := l.prog) (w := w) (base := base) F_multiply m_multiply b_multiply (ok_p_multiply F_multiply (CZ := CZ) t_needtwo t_times)
    have t_divide := calleeR_of (P := l.prog) (w := w) (base := base) F_divide m_divide b_divide (ok_p_divide F_divide e_z t_needtwo t_over)
    have t_compare := calleeR_of (P := l.prog) (w := w) (base := base) F_compare m_compare b_compare (ok_p_compare F_compare (CZ := CZ) t_needtwo t_minus t_signof)
    have t_negate := calleeR_of (P := l.prog) (w := w) (base := base) F_negate m_negate b_negate (ok_p_negate F_negate (CZ := CZ) t_needratio t_opposite)
    have t_sign := calleeR_of (P := l.prog) (w := w) (base := base) F_sign m_sign b_sign (ok_p_sign F_sign (CZ := CZ) t_needratio t_signof)
    have t_total := calleeR_of (P := l.prog) (w := w) (base := base) F_total m_total b_total (ok_p_total F_total (CZ := CZ) t_needratiolist t_sumof)
    have okrt := ok_p_ratio (P := l.prog) (w := w) (base := base) F_rt e_w e_z t_isinteger t_lowest
    have t_rt2 : CalleeR l.prog w K mg base 5 "ratio" ["numerator", "denominator"] [] (spApi K CW CZ 0 true fineI) := brt2.elim fun ds q => ⟨f_rt, _, ds, okrt, m_rt, k_rt, q.1, q.2⟩
    have t_rt1 : CalleeR l.prog w K mg base 5 "ratio" ["numerator", "denominator"] [.int 1] (spApi K CW CZ 0 true fineI) := brt1.elim fun ds q => ⟨f_rt, _, ds, okrt, m_rt, k_rt, q.1, q.2⟩
    have t_lstore := callee_of (P := l.prog) (w := w) (base := base) F_lstore m_lstore b_lstore (ok_store F_lstore C0)
    have t_ltake := callee_of (P := l.prog) (w := w) (base := base) F_ltake m_ltake b_ltake (ok_take F_ltake C0 m_ltake b_ltake 125 (by decide))
    have t_ledge := callee_of (P := l.prog) (w := w) (base := base) F_ledge m_ledge b_ledge (ok_edge F_ledge D t_ltake)
    have t_lbetween := callee_of (P := l.prog) (w := w) (base := base) F_lbetween m_lbetween b_lbetween (ok_between F_lbetween D t_ledge)
    have t_ltens := callee_of (P := l.prog) (w := w) (base := base) F_ltens m_ltens b_ltens (ok_tens F_ltens D)
    have t_linteger := callee_of (P := l.prog) (w := w) (base := base) F_linteger m_linteger b_linteger (ok_integer F_linteger D t_ltake t_ledge t_lbetween t_ltens)
    have t_llow := callee_of (P := l.prog) (w := w) (base := base) F_llow m_llow b_llow (ok_low F_llow D)
    have t_lsgn := callee_of (P := l.prog) (w := w) (base := base) F_lsgn m_lsgn b_lsgn (ok_sgn F_lsgn D)
    have t_lsmall := callee_of (P := l.prog) (w := w) (base := base) F_lsmall m_lsmall b_lsmall (ok_small F_lsmall D t_ltake t_lbetween t_llow)
    have t_lratio := callee_of (P := l.prog) (w := w) (base := base) F_lratio m_lratio b_lratio (ok_ratio F_lratio D t_ltake t_linteger t_llow t_lsmall)
    have t_lnotratio := callee_of (P := l.prog) (w := w) (base := base) F_lnotratio m_lnotratio b_lnotratio (ok_not_ratio F_lnotratio D t_ltake t_ledge t_lbetween)
    have t_lnotinteger := callee_of (P := l.prog) (w := w) (base := base) F_lnotinteger m_lnotinteger b_lnotinteger (ok_not_integer F_lnotinteger D t_ledge)
    have t_lsame := callee_of (P := l.prog) (w := w) (base := base) F_lsame m_lsame b_lsame (ok_same F_lsame D m_lsame b_lsame 4)
    have t_lisint := callee_of (P := l.prog) (w := w) (base := base) F_lisint m_lisint b_lisint (ok_is_int F_lisint D)
    have t_lisratio := callee_of (P := l.prog) (w := w) (base := base) F_lisratio m_lisratio b_lisratio (ok_is_ratio F_lisratio D t_lisint t_llow)
    have t_lisratios := callee_of (P := l.prog) (w := w) (base := base) F_lisratios m_lisratios b_lisratios (ok_is_ratios F_lisratios D t_lisratio)
    have t_lunfit := calleeP_of (P := l.prog) (w := w) (base := base) F_lunfit m_lunfit b_lunfit (ok_unfit F_lunfit T AU E_z X_z kz.no)
    have t_lrefused := calleeP_of (P := l.prog) (w := w) (base := base) F_lrefused m_lrefused b_lrefused (ok_refused F_lrefused T AW AZ E_w E_z X_w kw.no t_lunfit)
    have t_lcall := callee_of (P := l.prog) (w := w) (base := base) F_lcall m_lcall b_lcall (ok_call F_lcall gm_FrameError (exm_of fr1 fr3 fr2 kw.sf) (exm_of fr1 fr3 fr2 kz.sf) t_lrefused t_rt2 t_rt1 t_add t_subtract t_multiply t_divide t_compare t_negate t_sign t_total)
    have t_lfault := callee_of (P := l.prog) (w := w) (base := base) F_lfault m_lfault b_lfault (ok_fault F_lfault T t_lisint t_lisratio t_lisratios)
    have t_lfraction := callee_of (P := l.prog) (w := w) (base := base) F_lfraction m_lfraction b_lfraction (ok_fraction F_lfraction)
    have t_lright := callee_of (P := l.prog) (w := w) (base := base) F_lright m_lright b_lright (ok_right F_lright t_lsame t_lsgn t_lfraction t_lisratio)
    have t_lasdue := callee_of (P := l.prog) (w := w) (base := base) F_lasdue m_lasdue b_lasdue (ok_as_due F_lasdue t_lsame t_lfault t_lright)
    have t_lsecond := callee_of (P := l.prog) (w := w) (base := base) F_lsecond m_lsecond b_lsecond (ok_second F_lsecond t_ltake t_llow t_lsgn t_lratio)
    have t_lwholepair := callee_of (P := l.prog) (w := w) (base := base) F_lwholepair m_lwholepair b_lwholepair (ok_whole_pair F_lwholepair t_ltake t_linteger)
    have t_lvalues := callee_of (P := l.prog) (w := w) (base := base) F_lvalues m_lvalues b_lvalues (ok_values F_lvalues T t_ltake t_ledge t_lsmall t_lsecond)
    have t_lbadask := callee_of (P := l.prog) (w := w) (base := base) F_lbadask m_lbadask b_lbadask (ok_bad_ask F_lbadask T t_ltake t_ledge t_lnotinteger t_lnotratio)
    have t_lundone := callee_of (P := l.prog) (w := w) (base := base) F_lundone m_lundone b_lundone (ok_undone F_lundone t_lsame t_add t_subtract t_multiply t_divide t_negate)
    exact ok_law F_law T t_lstore t_ltake t_lratio t_lsecond t_lwholepair t_lvalues t_lcall t_lasdue t_lbadask t_lsame t_lundone
theorem walk {l : PySem.W.OpenLaw} {q : Program} {loose : List Str} {XP : (Str → Option Value) → Heap → Prop} {YP : World → Heap → Prop} {d : DefRec} {K : Params → PySem.W.Frag} (hn : l.most = some 63) (hdf : d.params.defaults = [])
    (hY : ∀ (w : World) (h : Heap), YP w h → (K w.params).In h)
    (F : ∀ (w : World) (mg : Str → Option Value) (fa : Addr) (h : Heap), (K w.params).In h → h.Ns mainGlobals mg → mg d.name = some (.ref fa) →
      ∃ fd : FuncData, (∀ (s : Shared) (u : Value), BindsTo s fd ⟨[u], []⟩ [("_law_script", u)]) ∧ ∀ base : Heap, (K w.params).In base → base.Ns mainGlobals mg → FnOk l.prog w (K w.params) mg base CX0 133 fa fd ["_law_script"] (spLaw (K w.params))) :
    PySem.W.WalkO q loose XP YP l.row.toRowW d [] (fun f vs => PySem.call f vs) :=
  L2.walk_of (n := 63) (k := 133) (x := "_law_script") (CX := fun _ => CX0) (sp := fun w => spLaw (K w.params)) hn (by decide) hdf ⟨rfl, by decide, by decide⟩ hY F (fun _ _ a ns hl _ hS => ⟨a, ns, rfl, hS, hl, fun _ => rfl⟩) fun _ _ _ _ _ z => z
end K00

set_option Elab.async false
set_option linter.all false
set_option maxRecDepth 100000
set_option maxHeartbeats 4000000
namespace K00
open PySem L2
/-! ### the head: facts by names, one run -/
section
open PySem.W
variable {K : Frag}
/-- an __init__ of a class of the program -/
structure IniD where
  cls : Str
  qual : Str
  params : Arguments
  body : List Stmt
  scope : Scope
  dfl : List V := []
abbrev FnI : Type := Option (Str × Str × Arguments × FuncBody × Scope × Addr × Addr)
def IniD.at_ (K : Frag) (d : IniD) : Addr := He.ma K (He.ga K d.cls) "__init__"
def IniD.obs (K : Frag) (d : IniD) : FnI := match K.lookup (d.at_ K) with
  | some ⟨_, _, .func fd, _⟩ => some (fd.name, fd.qualname, fd.params, fd.body, fd.scope, fd.globals, fd.builtins)
  | _ => none
def IniD.val (d : IniD) : FnI := some (("__init__" : Str), d.qual, d.params, .stmts d.body, d.scope, mainGlobals, builtinsNs)
def fileB (K : Frag) (cda : Addr) (file : Str) : Bool := match K.lookup cda with
  | some ⟨_, _, .fields vs, _⟩ => (match (vs[2]? : Option Value) with
    | some (.str fl _) => file == fl
    | _ => false)
  | _ => false
def cellB (K : Frag) (cc C : Addr) : Bool := match K.lookup cc with
  | some ⟨_, _, .cell (some (.ref D)), _⟩ => D == C
  | _ => false
def cloB (K : Frag) (C : Addr) (file qual : Str) (cl : List (Str × Addr)) (cd : Value) : Bool := match cl, cd with
  | [(x, cc)], .ref cda => x == "__class__" && codeIn K (.ref cda) qual && fileB K cda file && cellB K cc C && (clsIn K C).isSome
  | _, _ => false
def IniD.ok (K : Frag) (file : Str) (d : IniD) : Bool := match K.lookup (d.at_ K) with
  | some ⟨_, _, .func fd, _⟩ => cloB K (He.ga K d.cls) file d.qual fd.closure fd.code && He.dflB K fd.defaults d.dfl
  | _ => false
theorem fileB_ok {cda : Addr} {file : Str} (h : fileB K cda file = true) : ∃ ccl cdd vs ccs fl tf, K.lookup cda = some ⟨ccl, cdd, .fields vs, ccs⟩ ∧ vs[2]? = some (.str fl tf) ∧ (file == fl) = true := by
  unfold fileB at h
  split at h
  · rename_i ho
    split at h
    · rename_i hv
      exact ⟨_, _, _, _, _, _, ho, hv, h⟩
    · cases h
  · cases h
theorem cellB_ok {cc C : Addr} (h : cellB K cc C = true) : ∃ cl cld csl, K.lookup cc = some ⟨cl, cld, .cell (some (.ref C)), csl⟩ := by
  unfold cellB at h
  split at h
  · rename_i ho
    rw [beq_iff_eq.mp h] at ho
    exact ⟨_, _, _, ho⟩
  · cases h
theorem IniD.raw {d : IniD} {file : Str} {st : Stmt} (e : d.obs K = d.val) (c : d.ok K file = true) (ep : d.params = defArgs st) (eb : d.body = defBody st) (es : d.scope = defScope st) :
    ∃ (oc : Value) (od : Option Addr) (dV kV doc pm : Value) (an : Option Addr) (cda : Addr) (ct : Value) (cc : Addr) (osl : Array (Option Value)) (ccl : Value) (cdd : Option Addr) (vs : Array Value) (ccs : Array (Option Value)) (fl : Str) (tf : Tok) (cl : Value) (cld : Option Addr) (csl : Array (Option Value)) (cdD : ClassData),
      K.lookup (d.at_ K) = some ⟨oc, od, .func (ksFn "__init__" d.qual (defArgs st) (defBody st) (defScope st) dV kV doc pm an (.ref cda) ct cc), osl⟩ ∧ codeIn K (.ref cda) d.qual = true ∧ K.lookup cda = some ⟨ccl, cdd, .fields vs, ccs⟩ ∧ vs[2]? = some (.str fl tf) ∧ (file == fl) = true ∧
      K.lookup cc = some ⟨cl, cld, .cell (some (.ref (He.ga K d.cls))), csl⟩ ∧ clsIn K (He.ga K d.cls) = some cdD ∧ DflV K dV d.dfl := by
  unfold IniD.obs at e
  unfold IniD.ok at c
  cases q : K.lookup (d.at_ K) with
  | none => rw [q] at c; cases c
  | some o =>
    obtain ⟨oc, od, dt, osl⟩ := o
    rw [q] at c e
    cases dt with
    | func fd =>
      obtain ⟨n1, n2, n3, n4, n5, n6, n7, n8, n9, n10, n11, n12, n13, n14, n15⟩ := fd
      have e2 : (some (n1, n2, n3, n4, n5, n6, n15) : FnI) = some (("__init__" : Str), d.qual, d.params, .stmts d.body, d.scope, mainGlobals, builtinsNs) := e
      simp only [Option.some.injEq, Prod.mk.injEq] at e2
      obtain ⟨h1, h2, h3, h4, h5, h6, h8⟩ := e2
      subst h1 h2 h3 h4 h5 h6 h8
      have c3 : (cloB K (He.ga K d.cls) file d.qual n7 n13 && He.dflB K n8 d.dfl) = true := c
      obtain ⟨k1, k2⟩ := He.ba c3
      unfold cloB at k1
      split at k1
      · rename_i x cc cda
        simp only [Bool.and_eq_true, beq_iff_eq] at k1
        obtain ⟨⟨⟨⟨k3, k4⟩, k5⟩, k6⟩, k7⟩ := k1
        subst k3
        obtain ⟨ccl, cdd, vs, ccs, fl, tf, l1, l2, l3⟩ := fileB_ok k5
        obtain ⟨cl, cld, csl, l4⟩ := cellB_ok k6
        obtain ⟨cdD, l5⟩ := Option.isSome_iff_exists.mp k7
        rw [ep, eb, es]
        exact ⟨oc, od, n8, n9, n10, n11, n12, cda, n14, cc, osl, ccl, cdd, vs, ccs, fl, tf, cl, cld, csl, cdD, rfl, k4, l1, l2, l3, l4, l5, He.dflB_ok k2⟩
      · cases k1
    | _ => cases c
theorem IniD.initF {P : Program} {d : IniD} {mg : Str → Option Value} {st : Stmt} (e : d.obs K = d.val) (c : d.ok K P.main.file = true) (ep : d.params = defArgs st) (eb : d.body = defBody st) (es : d.scope = defScope st)
    (su : mg "super" = none) (tp : nsIn K cStatics "thirdparty.any" = some none) (top : (P.main.scope.names.lookup ("super" : Str)).isSome = false) : ∃ fd dV, InitF P K mg st d.qual (He.ga K d.cls) (d.at_ K) fd ∧ DflV K dV d.dfl ∧
      ∃ (kV doc pm ct : Value) (an : Option Addr) (cda cc : Addr), fd = ksFn "__init__" d.qual (defArgs st) (defBody st) (defScope st) dV kV doc pm an (.ref cda) ct cc := by
  obtain ⟨oc, od, n8, n9, n10, n11, n12, cda, n14, cc, osl, ccl, cdd, vs, ccs, fl, tf, cl, cld, csl, cdD, q, k4, l1, l2, l3, l4, l5, k2⟩ := d.raw e c ep eb es
  exact ⟨_, n8, ⟨⟨oc, od, n8, n9, n10, n11, n12, cda, n14, cc, osl, ccl, cdd, vs, ccs, fl, tf, cl, cld, csl, cdD, rfl, q, k4, l1, l2, l3, l4, l5⟩, su, tp, top⟩, k2, n9, n10, n11, n14, n12, cda, cc, rfl⟩
/-! a class of errors -/
def clsB (K : Frag) (C : Addr) : Bool := match K.lookup C with
  | some ⟨.type "type", _, .cls cd, sl⟩ => (match cd.mro, sl.toList with
    | .ref C' :: bm, [_, _, _, _, some (.builtin n), _] => C' == C && n == "ValueError.__new__" && !cd.hasDel && cd.hasDict && PySem.HandSPX.refsVE bm
    | _, _ => false)
  | _ => false
theorem clsB_ok {C : Addr} (q : clsB K C = true) : ∃ nm q N bs bm sn sub ab col dd k0 k1 k2 k3 k5, K.lookup C = some (excClassObj nm q C N bs bm true sn sub ab col dd k0 k1 k2 k3 k5 "ValueError.__new__") ∧ PySem.HandSPX.refsVE bm = true := by
  unfold clsB at q
  split at q
  · rename_i dd cd sl ho
    split at q
    · rename_i C' bm k0 k1 k2 k3 n k5 hm hs
      simp only [Bool.and_eq_true, beq_iff_eq, Bool.not_eq_true'] at q
      obtain ⟨⟨⟨⟨rfl, rfl⟩, hdel⟩, hd⟩, ht⟩ := q
      obtain ⟨nm, bs, mro, ns, qn, hdd, sn, sub, ab, col, del⟩ := cd
      dsimp only at hm hdel hd
      subst hm hdel hd
      have hsl : sl = #[k0, k1, k2, k3, some (.builtin "ValueError.__new__"), k5] := by
        obtain ⟨l⟩ := sl
        simp only at hs
        rw [hs]
      subst hsl
      exact ⟨nm, qn, ns, bs, bm, sn, sub, ab, col, dd, k0, k1, k2, k3, k5, ho, ht⟩
    · cases q
  · cases q
/-- what is asked of a class whose errors are made; D its class with the __init__ -/
def errB (K : Frag) (C D : Addr) (flds : List Str) : Bool := clsB K C && (
  decide (findIn K (.ref C) "__setattr__" = some (some (.builtin "object.__setattr__"))) && (decide (findIn K (.ref C) "__getattribute__" = some (some (.builtin "BaseException.__getattribute__"))) && (decide (findIn K (.ref C) "__getattr__" = some none) && (
  (flds.all fun f => decide (findIn K (.ref C) f = some none)) && (keepIn K (.ref C) && (decide (subIn K (.ref C) (.type "BaseException") = some true) && (decide (typeIn K (.ref C) = some (.type "type")) && (hasDictIn K C && (
  decide (findIn K (.ref C) "__class__" = some (some (.builtin "object.__class__"))) && (decide (mroIn K C (.type "object") = some true) && (decide (mroIn K C (.ref D) = some true) && (decide (subIn K (.ref C) (.type "ValueError") = some true) && (
  decide (ks_superIn K C D "__init__" = some (some (.builtin "ValueError.__init__"))) && (decide (findIn K (.ref C) "__init__" = some (some (.ref (He.ma K D "__init__")))) && (decide (typeIn K (.ref (He.ma K D "__init__")) = some (.type "function")) && (
  decide (specialIn K (.builtin "object.__class__") "__get__" = some (some (.builtin "getset_descriptor.__get__"))) && decide (takesIn K (.builtin "object.__class__") = some true)))))))))))))))))
structure ErrK (K : Frag) (C D : Addr) (flds : List Str) : Prop where
  oex : OexC K C
  exc : L2.ExcC K C
  xf : XfC K C
  of_ : ExcOf K D C
  no : ∀ f ∈ flds, findIn K (.ref C) f = some none
  ini : findIn K (.ref C) "__init__" = some (some (.ref (He.ma K D "__init__")))
  ti : typeIn K (.ref (He.ma K D "__init__")) = some (.type "function")
theorem errB_ok {C D : Addr} {flds : List Str} (h : errB K C D flds = true) : ErrK K C D flds := by
  unfold errB at h
  simp only [Bool.and_eq_true, decide_eq_true_eq, List.all_eq_true] at h
  obtain ⟨a1, a2, a3, a4, a5, a6, a7, a8, a9, a10, a11, a12, a13, a14, a15, a16, a17, a18⟩ := h
  have O : OexC K C := ⟨clsB_ok a1, a2, a7, a8, a6⟩
  exact ⟨O, ⟨a3, a4, a7, a9, a10, a17, a18, a11⟩, ⟨a3, a4, a7, a9⟩, ⟨O, a12, a14, a13⟩, a5, a15, a16⟩
/-! the Hook -/
abbrev AlX : Type := Bool × List He.FnW × List FnI
def obsX (file : Str) (chk : List (Frag → Bool)) (fn : List He.DefD) (ini : List IniD) (K : Frag) : AlX := ((chk.all fun f => f K) && ((fn.all fun d => d.ok K) && ini.all fun d => d.ok K file), fn.map fun d => He.fnW K d.at_, ini.map fun d => d.obs K)
def valX (fn : List He.DefD) (ini : List IniD) : AlX := (true, fn.map He.DefD.val, ini.map IniD.val)
def SaysX (file : Str) (chk : List (Frag → Bool)) (fn : List He.DefD) (ini : List IniD) (K : Frag) : Prop := obsX file chk fn ini K = valX fn ini
def asX (g : Addr → Option Obj) (n : Nat) : List Addr := He.asD g n ++ [cStatics]
def obsXG (n : Nat) (file : Str) (chk : List (Frag → Bool)) (fn : List He.DefD) (ini : List IniD) (g : Addr → Option Obj) : AlX := obsX file chk fn ini (He.frG g (asX g n))
def hookX (n : Nat) (file : Str) (chk : List (Frag → Bool)) (fn : List He.DefD) (ini : List IniD) : Hook where
  α := AlX
  obs := fun s => obsXG n file chk fn ini s.heap.get?
  val := fun _ => valX fn ini
  says := fun _ h => ∃ K : Frag, K.In h ∧ SaysX file chk fn ini K
  of := fun _ _ e => ⟨_, He.frG_in, e⟩
  keeps := fun _ _ _ ⟨K, hK, c⟩ k => ⟨K, Frag.In.keeps hK k, c⟩
theorem obsXG_eq {n : Nat} {file : Str} {chk : List (Frag → Bool)} {fn : List He.DefD} {ini : List IniD} {g : Addr → Option Obj} {s : Shared} (h : ∀ a, g a = s.heap.get? a) : obsXG n file chk fn ini g = (hookX n file chk fn ini).obs s := by
  have e : g = s.heap.get? := funext h
  rw [e] <;> rfl
variable {file : Str} {chk : List (Frag → Bool)} {fn : List He.DefD} {ini : List IniD}
theorem SaysX.all (c : SaysX file chk fn ini K) : (chk.all fun f => f K) = true ∧ (fn.all fun d => d.ok K) = true ∧ (ini.all fun d => d.ok K file) = true := by
  have c1 := He.ba (show ((chk.all fun f => f K) && ((fn.all fun d => d.ok K) && ini.all fun d => d.ok K file)) = true from congrArg (fun z : AlX => z.1) c)
  exact ⟨c1.1, (He.ba c1.2).1, (He.ba c1.2).2⟩
theorem SaysX.fact (c : SaysX file chk fn ini K) (i : Nat) {f : Frag → Bool} (h : chk[i]? = some f := by rfl) : f K = true := List.all_eq_true.mp c.all.1 f (List.mem_of_getElem? h)
theorem SaysX.def_ (c : SaysX file chk fn ini K) (i : Nat) {d : He.DefD} (h : fn[i]? = some d := by rfl) : ∃ fd, FunD K d.name d.qual d.params d.body d.scope (d.dvs K) (d.kws K) (He.fAd K d.at_) fd := by
  have e : fn.map (fun d => He.fnW K d.at_) = fn.map He.DefD.val := congrArg (fun z : AlX => z.2.1) c
  have e2 : (fn.map fun d => He.fnW K d.at_)[i]? = (fn.map He.DefD.val)[i]? := by rw [e]
  rw [List.getElem?_map, List.getElem?_map, h] at e2
  exact He.DefD.funD (Option.some.inj e2) (List.all_eq_true.mp c.all.2.1 d (List.mem_of_getElem? h))
theorem SaysX.ini_ (c : SaysX file chk fn ini K) (i : Nat) {d : IniD} (h : ini[i]? = some d := by rfl) : d.obs K = d.val ∧ d.ok K file = true := by
  have e : ini.map (fun d => d.obs K) = ini.map IniD.val := congrArg (fun z : AlX => z.2.2) c
  have e2 : (ini.map fun d => d.obs K)[i]? = (ini.map IniD.val)[i]? := by rw [e]
  rw [List.getElem?_map, List.getElem?_map, h] at e2
  exact ⟨Option.some.inj e2, List.all_eq_true.mp c.all.2.2 d (List.mem_of_getElem? h)⟩
theorem SaysX.fun_ (c : SaysX file chk fn ini K) (i : Nat) {x : Str} {st : Stmt} (h : fn[i]? = some ⟨(x, none), x, x, defArgs st, defBody st, defScope st, [], []⟩ := by rfl) : ∃ fd, Fun K x x st (He.ga K x) fd := by
  obtain ⟨fd, F⟩ := c.def_ i h
  obtain ⟨oc, od, dV, kV, doc, pm, an, cdv, ct, osl, e, l, c, dd, _⟩ := F.ex
  have dn : dV = .none := by
    rcases dd with ⟨_, d⟩ | ⟨d, _⟩
    · exact d
    · exact absurd rfl d
  subst dn
  exact ⟨fd, ⟨⟨oc, od, kV, doc, pm, an, cdv, ct, osl, e, l, c⟩, F.kp⟩⟩
end
/-- the names that stand for what they are -/
def gloB (x : Str) (K : PySem.W.Frag) : Bool := decide (PySem.W.nsIn K mainGlobals x = some (some (.ref (He.ga K x))))
def freB (x : Str) (K : PySem.W.Frag) : Bool := decide (PySem.W.nsIn K mainGlobals x = some none)
def staB (x : Str) (K : PySem.W.Frag) : Bool := decide (PySem.W.nsIn K cStatics x = some none)
/-- isinstance, asked of an error of the class C -/
def kitB' (C x : Str) (b : Bool) (K : PySem.W.Frag) : Bool := decide (PySem.W.kitOne K (.ref (He.ga K C)) (.ref (He.ga K x)) = some b)
def kitT (C : Str) (T : String) (b : Bool) (K : PySem.W.Frag) : Bool := decide (PySem.W.kitOne K (.ref (He.ga K C)) (.type T) = some b)
def exmB (C x : Str) (K : PySem.W.Frag) : Bool := decide (PySem.W.exmOne K (.ref (He.ga K C)) (.ref (He.ga K x)) = some true)
end K00

set_option Elab.async false
set_option linter.all false
set_option maxRecDepth 100000
set_option maxHeartbeats 8000000
namespace K00
open PySem L2 L2H HotX
section
open PySem.W PySem.Calls PyProof.Rows
def gcdB (K : Frag) : Bool := decide (nsIn K mainGlobals "gcd" = some (some (.builtin "math.gcd")))
def noB (K : Frag) : Bool := gloB "NOUGHT" K && (match K.lookup (He.ga K "NOUGHT") with
  | some ⟨.type "tuple", _, .seq its _, _⟩ => (match its.toList with
    | [.int a _, .int b _] => a == 0 && b == 1
    | _ => false)
  | _ => false)
theorem noB_ok {K : Frag} (h : noB K = true) : NoAt K := by
  obtain ⟨h1, h2⟩ := He.ba h
  split at h2
  · rename_i nd its nn nsl ho
    split at h2
    · rename_i a n0 b n1 hi
      obtain ⟨e1, e2⟩ := He.ba h2
      have ei : its = #[.int 0 n0, .int 1 n1] := by
        obtain ⟨l⟩ := its
        simp only at hi
        rw [hi, beq_iff_eq.mp e1, beq_iff_eq.mp e2]
      rw [ei] at ho
      exact ⟨_, _, _, _, _, _, of_decide_eq_true h1, ho⟩
    · cases h2
  · cases h2
def subB (C x : Str) (K : Frag) : Bool := decide (subIn K (.ref (He.ga K C)) (.ref (He.ga K x)) = some true)
def frB (x : Str) (K : Frag) : Bool := decide (subIn K (.ref (He.ga K x)) (.type "BaseException") = some true) && (decide (typeIn K (.ref (He.ga K x)) = some (.type "type")) && hasDictIn K (He.ga K x))
theorem DefAt.of {K : Frag} {x : Str} {st : Stmt} (g : gloB x K = true) (F : ∃ fd, Fun K x x st (He.ga K x) fd) : DefAt K x st := by
  obtain ⟨fd, ⟨oc, od, kV, doc, pm, an, cdv, ct, osl, rfl, l, c⟩, kp⟩ := F
  exact ⟨_, od, an, osl, oc, kV, doc, pm, cdv, ct, of_decide_eq_true g, l, c, kp⟩
theorem RtAt.of {K : Frag} (g : gloB "ratio" K = true) {fd : FuncData} (F : FunD K "ratio" "ratio" (defArgs s_p_ratio) (defBody s_p_ratio) (defScope s_p_ratio) [.int 1] [] (He.ga K "ratio") fd) : RtAt K := by
  obtain ⟨⟨oc, od, dV, kV, doc, pm, an, cdv, ct, osl, rfl, l, c, dd, _⟩, kp⟩ := F
  rcases dd with ⟨e, _⟩ | ⟨_, T, ⟨tc, td, dt, ts⟩, its, n, rfl, lT, e, r⟩
  · cases e
  · simp only at e
    subst e
    cases r with
    | cons r1 r2 =>
      cases r2
      obtain ⟨tk, rfl⟩ := r1
      exact ⟨_, od, an, osl, oc, kV, doc, pm, cdv, ct, T, tc, td, tk, n, ts, of_decide_eq_true g, l, lT, c, kp⟩
theorem KdK.of {K : Frag} {C x : Str} {b : Bool} (g : gloB x K = true) (k : kitB' C x b K = true) : KdK K (He.ga K C) x b := ⟨_, of_decide_eq_true g, of_decide_eq_true k⟩
theorem ClsAt.of {K : Frag} {C D F : Addr} {fld : Str} (e : ErrK K C D [fld]) (s : subIn K (.ref C) (.ref F) = some true) : ClsAt K C D F (He.ma K D "__init__") fld :=
  ⟨e.oex.cls, e.oex.sa, e.exc.hg, e.exc.hk, e.no _ (List.mem_singleton.mpr rfl), e.oex.kC, e.oex.exC, e.oex.tyC, e.exc.hd, e.exc.ha, e.exc.hm, e.of_.sub, e.of_.ve, e.of_.sup, s, e.ini, e.ti⟩
end
open PySem.W
def mainFile : Str := "/claim/cut.py"
def refY (g : Addr → Option Obj) (a : Addr) : List Addr := match g a with
  | some o => (match o.data with
    | .func fd => He.refV fd.code ++ (He.refV fd.defaults ++ fd.closure.map (·.2))
    | .cls cd => [cd.ns]
    | _ => [])
  | none => []
def valY (g : Addr → Option Obj) (a : Addr) : List Addr := match g a with
  | some o => (match o.data with
    | .dict es _ => es.toList.flatMap fun e => He.refV e.val
    | _ => [])
  | none => []
/-- the module's names, their codes and spaces, the functions of the spaces and what is theirs -/
def asY (g : Addr → Option Obj) : List Addr := mainGlobals :: cStatics :: ((valY g mainGlobals) ++ ((valY g mainGlobals).flatMap (fun a => refY g a ++ (refY g a).flatMap fun b => valY g b ++ (valY g b).flatMap (refY g))))
def obsYG (file : Str) (chk : List (Frag → Bool)) (fn : List He.DefD) (ini : List IniD) (g : Addr → Option Obj) : AlX := obsX file chk fn ini (He.frG g (asY g))
def hookY (file : Str) (chk : List (Frag → Bool)) (fn : List He.DefD) (ini : List IniD) : Hook where
  α := AlX
  obs := fun s => obsYG file chk fn ini s.heap.get?
  val := fun _ => valX fn ini
  says := fun _ h => ∃ K : Frag, K.In h ∧ SaysX file chk fn ini K
  of := fun _ _ e => ⟨_, He.frG_in, e⟩
  keeps := fun _ _ _ ⟨K, hK, c⟩ k => ⟨K, Frag.In.keeps hK k, c⟩
def chkL0 : List (Frag → Bool) := [
  gloB "_told",
  gloB "lowest",
  gloB "plus",
  gloB "minus",
  gloB "times",
  gloB "over",
  gloB "opposite",
  gloB "number_sign",
  gloB "sign_of",
  gloB "sum_of",
  gloB "is_integer",
  gloB "is_ratio",
  gloB "is_ratio_list",
  gloB "need_ratio",
  gloB "need_ratio_list",
  gloB "_need_two",
  gloB "add",
  gloB "subtract",
  gloB "multiply",
  gloB "divide",
  gloB "negate",
  gloB "sign",
  gloB "compare",
  gloB "total",
  gloB "_law_store",
  gloB "_law_take",
  gloB "_law_edge",
  gloB "_law_between",
  gloB "_law_tens",
  gloB "_law_integer",
  gloB "_law_low",
  gloB "_law_sgn",
  gloB "_law_small",
  gloB "_law_ratio",
  gloB "_law_not_ratio"]
def fnL0 : List He.DefD := [
  ⟨("_told", none), "_told", "_told", defArgs s_p_told, defBody s_p_told, defScope s_p_told, [], []⟩,
  ⟨("lowest", none), "lowest", "lowest", defArgs s_p_lowest, defBody s_p_lowest, defScope s_p_lowest, [], []⟩,
  ⟨("plus", none), "plus", "plus", defArgs s_p_plus, defBody s_p_plus, defScope s_p_plus, [], []⟩,
  ⟨("minus", none), "minus", "minus", defArgs s_p_minus, defBody s_p_minus, defScope s_p_minus, [], []⟩,
  ⟨("times", none), "times", "times", defArgs s_p_times, defBody s_p_times, defScope s_p_times, [], []⟩,
  ⟨("over", none), "over", "over", defArgs s_p_over, defBody s_p_over, defScope s_p_over, [], []⟩,
  ⟨("opposite", none), "opposite", "opposite", defArgs s_p_opposite, defBody s_p_opposite, defScope s_p_opposite, [], []⟩,
  ⟨("number_sign", none), "number_sign", "number_sign", defArgs s_p_number_sign, defBody s_p_number_sign, defScope s_p_number_sign, [], []⟩,
  ⟨("sign_of", none), "sign_of", "sign_of", defArgs s_p_sign_of, defBody s_p_sign_of, defScope s_p_sign_of, [], []⟩,
  ⟨("sum_of", none), "sum_of", "sum_of", defArgs s_p_sum_of, defBody s_p_sum_of, defScope s_p_sum_of, [], []⟩,
  ⟨("is_integer", none), "is_integer", "is_integer", defArgs s_p_is_integer, defBody s_p_is_integer, defScope s_p_is_integer, [], []⟩,
  ⟨("is_ratio", none), "is_ratio", "is_ratio", defArgs s_p_is_ratio, defBody s_p_is_ratio, defScope s_p_is_ratio, [], []⟩,
  ⟨("is_ratio_list", none), "is_ratio_list", "is_ratio_list", defArgs s_p_is_ratio_list, defBody s_p_is_ratio_list, defScope s_p_is_ratio_list, [], []⟩,
  ⟨("need_ratio", none), "need_ratio", "need_ratio", defArgs s_p_need_ratio, defBody s_p_need_ratio, defScope s_p_need_ratio, [], []⟩]
def iniL0 : List IniD := []
def chkL1 : List (Frag → Bool) := [
  gloB "_law_not_integer",
  gloB "_law_same",
  gloB "_law_is_int",
  gloB "_law_is_ratio",
  gloB "_law_is_ratios",
  gloB "_law_refused",
  gloB "_law_unfit",
  gloB "_law_call",
  gloB "_law_fault",
  gloB "_law_fraction",
  gloB "_law_right",
  gloB "_law_as_due",
  gloB "_law_second",
  gloB "_law_whole_pair",
  gloB "_law_values",
  gloB "_law_bad_ask",
  gloB "_law_undone",
  gloB "law",
  gloB "ratio",
  gloB "WrongKind",
  gloB "UnfitError",
  gloB "ZeroDivisor",
  gloB "FrameError",
  gloB "OutOfBounds",
  gloB "RepeatedName",
  gloB "UnknownName",
  gloB "Unsafe",
  gloB "BadText",
  gloB "NegativeRoot",
  gloB "ZeroBar",
  gloB "FlatMap",
  gloB "BadSteps",
  gloB "NotOneWay",
  gloB "NotHeld",
  gloB "NotFlat"]
def fnL1 : List He.DefD := [
  ⟨("need_ratio_list", none), "need_ratio_list", "need_ratio_list", defArgs s_p_need_ratio_list, defBody s_p_need_ratio_list, defScope s_p_need_ratio_list, [], []⟩,
  ⟨("_need_two", none), "_need_two", "_need_two", defArgs s_p_need_two, defBody s_p_need_two, defScope s_p_need_two, [], []⟩,
  ⟨("add", none), "add", "add", defArgs s_p_add, defBody s_p_add, defScope s_p_add, [], []⟩,
  ⟨("subtract", none), "subtract", "subtract", defArgs s_p_subtract, defBody s_p_subtract, defScope s_p_subtract, [], []⟩,
  ⟨("multiply", none), "multiply", "multiply", defArgs s_p_multiply, defBody s_p_multiply, defScope s_p_multiply, [], []⟩,
  ⟨("divide", none), "divide", "divide", defArgs s_p_divide, defBody s_p_divide, defScope s_p_divide, [], []⟩,
  ⟨("negate", none), "negate", "negate", defArgs s_p_negate, defBody s_p_negate, defScope s_p_negate, [], []⟩,
  ⟨("sign", none), "sign", "sign", defArgs s_p_sign, defBody s_p_sign, defScope s_p_sign, [], []⟩,
  ⟨("compare", none), "compare", "compare", defArgs s_p_compare, defBody s_p_compare, defScope s_p_compare, [], []⟩,
  ⟨("total", none), "total", "total", defArgs s_p_total, defBody s_p_total, defScope s_p_total, [], []⟩,
  ⟨("_law_store", none), "_law_store", "_law_store", defArgs s_store, defBody s_store, defScope s_store, [], []⟩,
  ⟨("_law_take", none), "_law_take", "_law_take", defArgs s_take, defBody s_take, defScope s_take, [], []⟩,
  ⟨("_law_edge", none), "_law_edge", "_law_edge", defArgs s_edge, defBody s_edge, defScope s_edge, [], []⟩]
def iniL1 : List IniD := []
def chkL2 : List (Frag → Bool) := [
  gloB "NotCover",
  gloB "NotOwnStress",
  gloB "NotPicture",
  gloB "NotLift",
  gloB "NoReciprocal",
  gloB "NotMotion",
  gloB "NotAlike",
  gloB "NotCrank",
  gloB "NothingToUndo",
  gloB "NothingToRedo",
  freB "len",
  freB "int",
  freB "max",
  freB "min",
  freB "list",
  freB "tuple",
  freB "isinstance",
  freB "range",
  freB "zip",
  freB "bool",
  freB "str",
  freB "dict",
  freB "all",
  freB "super",
  freB "ValueError",
  gcdB,
  staB "sys.int_max_str_digits",
  staB "thirdparty.any",
  noB,
  kitB' "WrongKind" "WrongKind" true,
  kitB' "WrongKind" "OutOfBounds" false,
  kitB' "WrongKind" "RepeatedName" false,
  kitB' "WrongKind" "UnknownName" false,
  kitB' "WrongKind" "Unsafe" false,
  kitB' "WrongKind" "BadText" false]
def fnL2 : List He.DefD := [
  ⟨("_law_between", none), "_law_between", "_law_between", defArgs s_between, defBody s_between, defScope s_between, [], []⟩,
  ⟨("_law_tens", none), "_law_tens", "_law_tens", defArgs s_tens, defBody s_tens, defScope s_tens, [], []⟩,
  ⟨("_law_integer", none), "_law_integer", "_law_integer", defArgs s_integer, defBody s_integer, defScope s_integer, [], []⟩,
  ⟨("_law_low", none), "_law_low", "_law_low", defArgs s_low, defBody s_low, defScope s_low, [], []⟩,
  ⟨("_law_sgn", none), "_law_sgn", "_law_sgn", defArgs s_sgn, defBody s_sgn, defScope s_sgn, [], []⟩,
  ⟨("_law_small", none), "_law_small", "_law_small", defArgs s_small, defBody s_small, defScope s_small, [], []⟩,
  ⟨("_law_ratio", none), "_law_ratio", "_law_ratio", defArgs s_ratio, defBody s_ratio, defScope s_ratio, [], []⟩,
  ⟨("_law_not_ratio", none), "_law_not_ratio", "_law_not_ratio", defArgs s_not_ratio, defBody s_not_ratio, defScope s_not_ratio, [], []⟩,
  ⟨("_law_not_integer", none), "_law_not_integer", "_law_not_integer", defArgs s_not_integer, defBody s_not_integer, defScope s_not_integer, [], []⟩,
  ⟨("_law_same", none), "_law_same", "_law_same", defArgs s_same, defBody s_same, defScope s_same, [], []⟩,
  ⟨("_law_is_int", none), "_law_is_int", "_law_is_int", defArgs s_is_int, defBody s_is_int, defScope s_is_int, [], []⟩,
  ⟨("_law_is_ratio", none), "_law_is_ratio", "_law_is_ratio", defArgs s_is_ratio, defBody s_is_ratio, defScope s_is_ratio, [], []⟩,
  ⟨("_law_is_ratios", none), "_law_is_ratios", "_law_is_ratios", defArgs s_is_ratios, defBody s_is_ratios, defScope s_is_ratios, [], []⟩,
  ⟨("_law_refused", none), "_law_refused", "_law_refused", defArgs s_refused, defBody s_refused, defScope s_refused, [], []⟩]
def iniL2 : List IniD := []
def chkL3 : List (Frag → Bool) := [
  kitB' "WrongKind" "UnfitError" false,
  kitB' "WrongKind" "FrameError" true,
  kitT "WrongKind" "ValueError" true,
  kitB' "ZeroDivisor" "WrongKind" false,
  kitB' "ZeroDivisor" "OutOfBounds" false,
  kitB' "ZeroDivisor" "RepeatedName" false,
  kitB' "ZeroDivisor" "UnknownName" false,
  kitB' "ZeroDivisor" "Unsafe" false,
  kitB' "ZeroDivisor" "BadText" false,
  kitB' "ZeroDivisor" "UnfitError" true,
  kitB' "ZeroDivisor" "FrameError" true,
  kitT "ZeroDivisor" "ValueError" true,
  kitB' "ZeroDivisor" "ZeroDivisor" true,
  kitB' "ZeroDivisor" "NegativeRoot" false,
  kitB' "ZeroDivisor" "ZeroBar" false,
  kitB' "ZeroDivisor" "FlatMap" false,
  kitB' "ZeroDivisor" "BadSteps" false,
  kitB' "ZeroDivisor" "NotOneWay" false,
  kitB' "ZeroDivisor" "NotHeld" false,
  kitB' "ZeroDivisor" "NotFlat" false,
  kitB' "ZeroDivisor" "NotCover" false,
  kitB' "ZeroDivisor" "NotOwnStress" false,
  kitB' "ZeroDivisor" "NotPicture" false,
  kitB' "ZeroDivisor" "NotLift" false,
  kitB' "ZeroDivisor" "NoReciprocal" false,
  kitB' "ZeroDivisor" "NotMotion" false,
  kitB' "ZeroDivisor" "NotAlike" false,
  kitB' "ZeroDivisor" "NotCrank" false,
  kitB' "ZeroDivisor" "NothingToUndo" false,
  kitB' "ZeroDivisor" "NothingToRedo" false,
  fun K => errB K (He.ga K "WrongKind") (He.ga K "WrongKind") ["argument"],
  fun K => errB K (He.ga K "ZeroDivisor") (He.ga K "UnfitError") ["subject"],
  subB "WrongKind" "FrameError",
  subB "ZeroDivisor" "FrameError",
  frB "FrameError"]
def fnL3 : List He.DefD := [
  ⟨("_law_unfit", none), "_law_unfit", "_law_unfit", defArgs s_unfit, defBody s_unfit, defScope s_unfit, [], []⟩,
  ⟨("_law_call", none), "_law_call", "_law_call", defArgs s_call, defBody s_call, defScope s_call, [], []⟩,
  ⟨("_law_fault", none), "_law_fault", "_law_fault", defArgs s_fault, defBody s_fault, defScope s_fault, [], []⟩,
  ⟨("_law_fraction", none), "_law_fraction", "_law_fraction", defArgs s_fraction, defBody s_fraction, defScope s_fraction, [], []⟩,
  ⟨("_law_right", none), "_law_right", "_law_right", defArgs s_right, defBody s_right, defScope s_right, [], []⟩,
  ⟨("_law_as_due", none), "_law_as_due", "_law_as_due", defArgs s_as_due, defBody s_as_due, defScope s_as_due, [], []⟩,
  ⟨("_law_second", none), "_law_second", "_law_second", defArgs s_second, defBody s_second, defScope s_second, [], []⟩,
  ⟨("_law_whole_pair", none), "_law_whole_pair", "_law_whole_pair", defArgs s_whole_pair, defBody s_whole_pair, defScope s_whole_pair, [], []⟩,
  ⟨("_law_values", none), "_law_values", "_law_values", defArgs s_values, defBody s_values, defScope s_values, [], []⟩,
  ⟨("_law_bad_ask", none), "_law_bad_ask", "_law_bad_ask", defArgs s_bad_ask, defBody s_bad_ask, defScope s_bad_ask, [], []⟩,
  ⟨("_law_undone", none), "_law_undone", "_law_undone", defArgs s_undone, defBody s_undone, defScope s_undone, [], []⟩,
  ⟨("law", none), "law", "law", defArgs s_law, defBody s_law, defScope s_law, [], []⟩,
  ⟨("ratio", none), "ratio", "ratio", defArgs s_p_ratio, defBody s_p_ratio, defScope s_p_ratio, [.int 1], []⟩]
def iniL3 : List IniD := [⟨"WrongKind", "WrongKind.__init__", defArgs s_p_wk_init, defBody s_p_wk_init, defScope s_p_wk_init, []⟩,
  ⟨"UnfitError", "UnfitError.__init__", defArgs s_p_un_init, defBody s_p_un_init, defScope s_p_un_init, [.non]⟩]
/-- four groups of facts, each seen in a run of its own -/
abbrev Al4 : Type := AlX × AlX × AlX × AlX
def hook4 : Hook where
  α := Al4
  obs := fun s => (obsYG mainFile chkL0 fnL0 iniL0 s.heap.get?, obsYG mainFile chkL1 fnL1 iniL1 s.heap.get?, obsYG mainFile chkL2 fnL2 iniL2 s.heap.get?, obsYG mainFile chkL3 fnL3 iniL3 s.heap.get?)
  val := fun _ => (valX fnL0 iniL0, valX fnL1 iniL1, valX fnL2 iniL2, valX fnL3 iniL3)
  says := fun _ h => ∃ K : Frag, K.In h ∧ SaysX mainFile chkL0 fnL0 iniL0 K ∧ SaysX mainFile chkL1 fnL1 iniL1 K ∧ SaysX mainFile chkL2 fnL2 iniL2 K ∧ SaysX mainFile chkL3 fnL3 iniL3 K
  of := fun _ _ e => ⟨_, He.frG_in, congrArg (fun z : Al4 => z.1) e, congrArg (fun z : Al4 => z.2.1) e, congrArg (fun z : Al4 => z.2.2.1) e, congrArg (fun z : Al4 => z.2.2.2) e⟩
  keeps := fun _ _ _ ⟨K, hK, c⟩ k => ⟨K, Frag.In.keeps hK k, c⟩
def loose0 : List Str := ["_told", "FrameError", "WrongKind", "OutOfBounds", "RepeatedName", "UnknownName", "UnfitError", "ZeroDivisor", "NegativeRoot", "ZeroBar", "FlatMap", "BadSteps", "NotOneWay", "NotHeld", "NotFlat", "NotCover", "NotOwnStress", "NotPicture", "NotLift", "NoReciprocal", "NotMotion", "NotAlike", "NotCrank", "NothingToUndo", "NothingToRedo", "Unsafe", "BadText", "NOUGHT", "lowest", "plus"]
def loose1 : List Str := ["minus", "times", "over", "opposite", "number_sign", "sign_of", "sum_of", "is_integer", "is_ratio", "is_ratio_list", "need_ratio", "need_ratio_list", "_need_two", "ratio", "add", "subtract", "multiply", "divide", "negate", "sign", "compare", "total", "_law_store", "_law_take", "_law_edge", "_law_between", "_law_tens", "_law_integer", "_law_low", "_law_sgn"]
def loose2 : List Str := ["_law_small", "_law_ratio", "_law_not_ratio", "_law_not_integer", "_law_same", "_law_is_int", "_law_is_ratio", "_law_is_ratios", "_law_refused", "_law_unfit", "_law_call", "_law_fault", "_law_fraction", "_law_right", "_law_as_due", "_law_second", "_law_whole_pair", "_law_values", "_law_bad_ask", "_law_undone"]
def looseL : List Str := loose0 ++ loose1 ++ loose2
theorem factsL {w : World} {K : Frag} {h : Heap} {mg : Str → Option Value} {fa : Addr} (X : K.In h) (G : h.Ns mainGlobals mg) (hfa : mg "law" = some (.ref fa)) (c0 : SaysX mainFile chkL0 fnL0 iniL0 K) (c1 : SaysX mainFile chkL1 fnL1 iniL1 K) (c2 : SaysX mainFile chkL2 fnL2 iniL2 K) (c3 : SaysX mainFile chkL3 fnL3 iniL3 K) :
    ∃ fd : FuncData, (∀ (s : Shared) (v : Value), BindsTo s fd ⟨[v], []⟩ [("_law_script", v)]) ∧ ∀ base : Heap, K.In base → base.Ns mainGlobals mg → FnOk (PySem.Challenge.rw_standframes_k00_sums_in_lowest_terms).prog w K mg base CX0 133 fa fd ["_law_script"] (spLaw K) := by
  have h_told : DefAt K "_told" s_p_told := DefAt.of (c0.fact 0) (c0.fun_ 0)
  have h_lowest : DefAt K "lowest" s_p_lowest := DefAt.of (c0.fact 1) (c0.fun_ 1)
  have h_plus : DefAt K "plus" s_p_plus := DefAt.of (c0.fact 2) (c0.fun_ 2)
  have h_minus : DefAt K "minus" s_p_minus := DefAt.of (c0.fact 3) (c0.fun_ 3)
  have h_times : DefAt K "times" s_p_times := DefAt.of (c0.fact 4) (c0.fun_ 4)
  have h_over : DefAt K "over" s_p_over := DefAt.of (c0.fact 5) (c0.fun_ 5)
  have h_opposite : DefAt K "opposite" s_p_opposite := DefAt.of (c0.fact 6) (c0.fun_ 6)
  have h_numbersign : DefAt K "number_sign" s_p_number_sign := DefAt.of (c0.fact 7) (c0.fun_ 7)
  have h_signof : DefAt K "sign_of" s_p_sign_of := DefAt.of (c0.fact 8) (c0.fun_ 8)
  have h_sumof : DefAt K "sum_of" s_p_sum_of := DefAt.of (c0.fact 9) (c0.fun_ 9)
  have h_isinteger : DefAt K "is_integer" s_p_is_integer := DefAt.of (c0.fact 10) (c0.fun_ 10)
  have h_isratio : DefAt K "is_ratio" s_p_is_ratio := DefAt.of (c0.fact 11) (c0.fun_ 11)
  have h_isratiolist : DefAt K "is_ratio_list" s_p_is_ratio_list := DefAt.of (c0.fact 12) (c0.fun_ 12)
  have h_needratio : DefAt K "need_ratio" s_p_need_ratio := DefAt.of (c0.fact 13) (c0.fun_ 13)
  have h_needratiolist : DefAt K "need_ratio_list" s_p_need_ratio_list := DefAt.of (c0.fact 14) (c1.fun_ 0)
  have h_needtwo : DefAt K "_need_two" s_p_need_two := DefAt.of (c0.fact 15) (c1.fun_ 1)
  have h_add : DefAt K "add" s_p_add := DefAt.of (c0.fact 16) (c1.fun_ 2)
  have h_subtract : DefAt K "subtract" s_p_subtract := DefAt.of (c0.fact 17) (c1.fun_ 3)
  have h_multiply : DefAt K "multiply" s_p_multiply := DefAt.of (c0.fact 18) (c1.fun_ 4)
  have h_divide : DefAt K "divide" s_p_divide := DefAt.of (c0.fact 19) (c1.fun_ 5)
  have h_negate : DefAt K "negate" s_p_negate := DefAt.of (c0.fact 20) (c1.fun_ 6)
  have h_sign : DefAt K "sign" s_p_sign := DefAt.of (c0.fact 21) (c1.fun_ 7)
  have h_compare : DefAt K "compare" s_p_compare := DefAt.of (c0.fact 22) (c1.fun_ 8)
  have h_total : DefAt K "total" s_p_total := DefAt.of (c0.fact 23) (c1.fun_ 9)
  have h_lstore : DefAt K "_law_store" s_store := DefAt.of (c0.fact 24) (c1.fun_ 10)
  have h_ltake : DefAt K "_law_take" s_take := DefAt.of (c0.fact 25) (c1.fun_ 11)
  have h_ledge : DefAt K "_law_edge" s_edge := DefAt.of (c0.fact 26) (c1.fun_ 12)
  have h_lbetween : DefAt K "_law_between" s_between := DefAt.of (c0.fact 27) (c2.fun_ 0)
  have h_ltens : DefAt K "_law_tens" s_tens := DefAt.of (c0.fact 28) (c2.fun_ 1)
  have h_linteger : DefAt K "_law_integer" s_integer := DefAt.of (c0.fact 29) (c2.fun_ 2)
  have h_llow : DefAt K "_law_low" s_low := DefAt.of (c0.fact 30) (c2.fun_ 3)
  have h_lsgn : DefAt K "_law_sgn" s_sgn := DefAt.of (c0.fact 31) (c2.fun_ 4)
  have h_lsmall : DefAt K "_law_small" s_small := DefAt.of (c0.fact 32) (c2.fun_ 5)
  have h_lratio : DefAt K "_law_ratio" s_ratio := DefAt.of (c0.fact 33) (c2.fun_ 6)
  have h_lnotratio : DefAt K "_law_not_ratio" s_not_ratio := DefAt.of (c0.fact 34) (c2.fun_ 7)
  have h_lnotinteger : DefAt K "_law_not_integer" s_not_integer := DefAt.of (c1.fact 0) (c2.fun_ 8)
  have h_lsame : DefAt K "_law_same" s_same := DefAt.of (c1.fact 1) (c2.fun_ 9)
  have h_lisint : DefAt K "_law_is_int" s_is_int := DefAt.of (c1.fact 2) (c2.fun_ 10)
  have h_lisratio : DefAt K "_law_is_ratio" s_is_ratio := DefAt.of (c1.fact 3) (c2.fun_ 11)
  have h_lisratios : DefAt K "_law_is_ratios" s_is_ratios := DefAt.of (c1.fact 4) (c2.fun_ 12)
  have h_lrefused : DefAt K "_law_refused" s_refused := DefAt.of (c1.fact 5) (c2.fun_ 13)
  have h_lunfit : DefAt K "_law_unfit" s_unfit := DefAt.of (c1.fact 6) (c3.fun_ 0)
  have h_lcall : DefAt K "_law_call" s_call := DefAt.of (c1.fact 7) (c3.fun_ 1)
  have h_lfault : DefAt K "_law_fault" s_fault := DefAt.of (c1.fact 8) (c3.fun_ 2)
  have h_lfraction : DefAt K "_law_fraction" s_fraction := DefAt.of (c1.fact 9) (c3.fun_ 3)
  have h_lright : DefAt K "_law_right" s_right := DefAt.of (c1.fact 10) (c3.fun_ 4)
  have h_lasdue : DefAt K "_law_as_due" s_as_due := DefAt.of (c1.fact 11) (c3.fun_ 5)
  have h_lsecond : DefAt K "_law_second" s_second := DefAt.of (c1.fact 12) (c3.fun_ 6)
  have h_lwholepair : DefAt K "_law_whole_pair" s_whole_pair := DefAt.of (c1.fact 13) (c3.fun_ 7)
  have h_lvalues : DefAt K "_law_values" s_values := DefAt.of (c1.fact 14) (c3.fun_ 8)
  have h_lbadask : DefAt K "_law_bad_ask" s_bad_ask := DefAt.of (c1.fact 15) (c3.fun_ 9)
  have h_lundone : DefAt K "_law_undone" s_undone := DefAt.of (c1.fact 16) (c3.fun_ 10)
  have h_law : DefAt K "law" s_law := DefAt.of (c1.fact 17) (c3.fun_ 11)
  have h_nn : NnAt K := ⟨of_decide_eq_true (c2.fact 10), of_decide_eq_true (c2.fact 11), of_decide_eq_true (c2.fact 12), of_decide_eq_true (c2.fact 13), of_decide_eq_true (c2.fact 14), of_decide_eq_true (c2.fact 15), of_decide_eq_true (c2.fact 16), of_decide_eq_true (c2.fact 17), of_decide_eq_true (c2.fact 18), of_decide_eq_true (c2.fact 19), of_decide_eq_true (c2.fact 20), of_decide_eq_true (c2.fact 21), of_decide_eq_true (c2.fact 22), of_decide_eq_true (c2.fact 23), of_decide_eq_true (c2.fact 24)⟩
  obtain ⟨fd_rt, F_rt⟩ := c3.def_ 12
  have h_rt : RtAt K := RtAt.of (c1.fact 18) F_rt
  have h_no : NoAt K := noB_ok (c2.fact 28)
  have aw : AskRK K (He.ga K "WrongKind") true false := ⟨KdK.of (c1.fact 19) (c2.fact 29), KdK.of (c1.fact 23) (c2.fact 30), KdK.of (c1.fact 24) (c2.fact 31), KdK.of (c1.fact 25) (c2.fact 32), KdK.of (c1.fact 26) (c2.fact 33), KdK.of (c1.fact 27) (c2.fact 34), KdK.of (c1.fact 20) (c3.fact 0), KdK.of (c1.fact 22) (c3.fact 1), of_decide_eq_true (c3.fact 2)⟩
  have az : AskRK K (He.ga K "ZeroDivisor") false true := ⟨KdK.of (c1.fact 19) (c3.fact 3), KdK.of (c1.fact 23) (c3.fact 4), KdK.of (c1.fact 24) (c3.fact 5), KdK.of (c1.fact 25) (c3.fact 6), KdK.of (c1.fact 26) (c3.fact 7), KdK.of (c1.fact 27) (c3.fact 8), KdK.of (c1.fact 20) (c3.fact 9), KdK.of (c1.fact 22) (c3.fact 10), of_decide_eq_true (c3.fact 11)⟩
  have au : AskUK K (He.ga K "ZeroDivisor") := ⟨KdK.of (c1.fact 21) (c3.fact 12), KdK.of (c1.fact 28) (c3.fact 13), KdK.of (c1.fact 29) (c3.fact 14), KdK.of (c1.fact 30) (c3.fact 15), KdK.of (c1.fact 31) (c3.fact 16), KdK.of (c1.fact 32) (c3.fact 17), KdK.of (c1.fact 33) (c3.fact 18), KdK.of (c1.fact 34) (c3.fact 19), KdK.of (c2.fact 0) (c3.fact 20), KdK.of (c2.fact 1) (c3.fact 21), KdK.of (c2.fact 2) (c3.fact 22), KdK.of (c2.fact 3) (c3.fact 23), KdK.of (c2.fact 4) (c3.fact 24), KdK.of (c2.fact 5) (c3.fact 25), KdK.of (c2.fact 6) (c3.fact 26), KdK.of (c2.fact 7) (c3.fact 27), KdK.of (c2.fact 8) (c3.fact 28), KdK.of (c2.fact 9) (c3.fact 29)⟩
  have ew := errB_ok (c3.fact 30)
  have ez := errB_ok (c3.fact 31)
  have kw := ClsAt.of ew (of_decide_eq_true (c3.fact 32))
  have kz := ClsAt.of ez (of_decide_eq_true (c3.fact 33))
  obtain ⟨f1, f23⟩ := He.ba (c3.fact 34)
  obtain ⟨f2, f3⟩ := He.ba f23
  obtain ⟨i1, i2⟩ := c3.ini_ 0
  obtain ⟨oc, od, dV, kV, doc, pm, an, cda, ct, cc, osl, ccl, cdd, vs, ccs, fl, tf, cl, cld, csl, cdD, q1, q2, q3, q4, q5, q6, q7, q8⟩ := IniD.raw (st := s_p_wk_init) i1 i2 rfl rfl rfl
  have dn : dV = .none := by
    rcases q8 with ⟨_, d⟩ | ⟨d, _⟩
    · exact d
    · exact absurd rfl d
  subst dn
  have iw : IniW PySem.Challenge.rw_standframes_k00_sums_in_lowest_terms K (He.ga K "WrongKind") (He.ma K (He.ga K "WrongKind") "__init__") s_p_wk_init "WrongKind.__init__" := ⟨oc, od, an, osl, kV, doc, pm, ct, cda, cc, ccl, cdd, vs, ccs, fl, tf, cl, cld, csl, cdD, q1, q2, q3, q4, q5, q6, q7⟩
  clear q1 q2 q3 q4 q5 q6 q7 q8 i1 i2
  obtain ⟨i1, i2⟩ := c3.ini_ 1
  obtain ⟨oc, od, dV, kV, doc, pm, an, cda, ct, cc, osl, ccl, cdd, vs, ccs, fl, tf, cl, cld, csl, cdD, q1, q2, q3, q4, q5, q6, q7, q8⟩ := IniD.raw (st := s_p_un_init) i1 i2 rfl rfl rfl
  obtain ⟨T, tc, td, tn, ts, rfl, lT⟩ : ∃ (T : Addr) (tc : Value) (td : Option Addr) (tn : Nat) (ts : Array (Option Value)), dV = .ref T ∧ K.lookup T = some ⟨tc, td, .seq #[.none] tn, ts⟩ := by
    rcases q8 with ⟨d, _⟩ | ⟨_, T, ⟨tc, td, dt, ts⟩, its, n, rfl, lT, e, r⟩
    · cases d
    · simp only at e
      subst e
      cases r with
      | cons r1 r2 =>
        cases r2
        cases (show _ = Value.none from r1)
        exact ⟨T, tc, td, n, ts, rfl, lT⟩
  have iz : IniU PySem.Challenge.rw_standframes_k00_sums_in_lowest_terms K (He.ga K "UnfitError") (He.ma K (He.ga K "UnfitError") "__init__") s_p_un_init "UnfitError.__init__" := ⟨oc, od, an, osl, kV, doc, pm, ct, cda, cc, ccl, cdd, vs, ccs, fl, tf, cl, cld, csl, cdD, T, tc, td, tn, ts, q1, lT, q2, q3, q4, q5, q6, q7⟩
  exact all_mk (l := PySem.Challenge.rw_standframes_k00_sums_in_lowest_terms) X G hfa h_told h_lowest h_plus h_minus h_times h_over h_opposite h_numbersign h_signof h_sumof h_isinteger h_isratio h_isratiolist h_needratio h_needratiolist h_needtwo h_add h_subtract h_multiply h_divide h_negate h_sign h_compare h_total h_lstore h_ltake h_ledge h_lbetween h_ltens h_linteger h_llow h_lsgn h_lsmall h_lratio h_lnotratio h_lnotinteger h_lsame h_lisint h_lisratio h_lisratios h_lrefused h_lunfit h_lcall h_lfault h_lfraction h_lright h_lasdue h_lsecond h_lwholepair h_lvalues h_lbadask h_lundone h_law h_nn (of_decide_eq_true (c2.fact 25)) (of_decide_eq_true (c2.fact 26)) (of_decide_eq_true (c2.fact 27)) (by first | rfl | decide +kernel) h_rt h_no (of_decide_eq_true (c1.fact 19)) (of_decide_eq_true (c1.fact 20)) (of_decide_eq_true (c1.fact 21)) (of_decide_eq_true (c1.fact 22)) aw az au kw kz ew.exc.hn ew.exc.ht (of_decide_eq_true f1) (of_decide_eq_true f2) f3 iw iz
end K00

set_option Elab.async false
set_option linter.all false
set_option maxRecDepth 100000
set_option maxHeartbeats 0
namespace K00
open PySem L2 L2H HotX PySem.W
abbrev Rw : OpenRow := OpenLaw.row PySem.Challenge.rw_standframes_k00_sums_in_lowest_terms
def obL0 (s : SharedT) : AlX := obsYG mainFile chkL0 fnL0 iniL0 (HandSHeadRun.getT s)
def obL1 (s : SharedT) : AlX := obsYG mainFile chkL1 fnL1 iniL1 (HandSHeadRun.getT s)
def obL2 (s : SharedT) : AlX := obsYG mainFile chkL2 fnL2 iniL2 (HandSHeadRun.getT s)
def obL3 (s : SharedT) : AlX := obsYG mainFile chkL3 fnL3 iniL3 (HandSHeadRun.getT s)
def obL (s : SharedT) : Al4 := (obL0 s, obL1 s, obL2 s, obL3 s)
theorem obL_eq (s : SharedT) : obL s = hook4.obs s.abs := by
  have e : HandSHeadRun.getT s = s.abs.heap.get? := funext (HandSHeadRun.getT_eq s)
  unfold obL obL0 obL1 obL2 obL3
  rw [e] <;> rfl
theorem runL (w : World) : HandSHeadRun.RunEqI Rw (view Rw.prog [0, 85]) hook4 obL 20000 looseL w := by
  unfold HandSHeadRun.RunEqI
  kernel_rfl
end K00
open PySem PySem.W PySem.Calls PyProof.Rows
set_option maxHeartbeats 0 in
theorem PySem.Challenge.cw_standframes_k00_sums_in_lowest_terms_holds : PySem.Challenge.rw_standframes_k00_sums_in_lowest_terms.Holds := by
  w_on; o_law
  refine HandSHeadRun.head_imp (r := OpenLaw.row PySem.Challenge.rw_standframes_k00_sums_in_lowest_terms) (q := view (OpenLaw.row PySem.Challenge.rw_standframes_k00_sums_in_lowest_terms).prog [0, 85]) (H := K00.hook4) (ob := K00.obL) (M := 20000) (loose := K00.looseL)
    (d := HandSHeadRun.topDef (OpenLaw.row PySem.Challenge.rw_standframes_k00_sums_in_lowest_terms).prog 85) (kwd := []) K00.obL_eq K00.runL (by kernel_rfl) (by kernel_rfl) (by kernel_rfl) (by rfl)
    (by first | assumption | decide +kernel) (by decide +kernel) ⟨rfl, rfl, rfl, rfl, rfl, by decide +kernel⟩ ?hw ?hc
  case hw => w_witness2
  case hc =>
    refine L2.walk_ofE (l := PySem.Challenge.rw_standframes_k00_sums_in_lowest_terms) (n := 63) (k := 133) (x := "_law_script") (CX := L2.CX0) rfl (by decide) (by kernel_rfl) ⟨rfl, by decide, by decide⟩ ?F (fun _ _ _ _ z => z)
    intro w mg fa h Y G hmg0
    obtain ⟨K, KX, c0, c1, c2, c3⟩ := Y
    have hmg : mg ("law" : PySem.Str) = some (.ref fa) := by
      have e : (HandSHeadRun.topDef (OpenLaw.row PySem.Challenge.rw_standframes_k00_sums_in_lowest_terms).prog 85).name = ("law" : PySem.Str) := by kernel_rfl
      rw [← e]
      exact hmg0
    obtain ⟨fd, hb, hF⟩ := K00.factsL (w := w) KX G hmg c0 c1 c2 c3
    exact ⟨K, fd, K00.spLaw K, KX, hb, fun H a ns hl _ hS => ⟨a, ns, rfl, hS, hl, fun _ => rfl⟩, hF⟩

