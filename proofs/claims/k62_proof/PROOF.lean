import PyProof.Rows.All
import Wide.All
import OpenK.AllK
import Wide.FinOn
import HandS.ForMost
import HandS.Wide
import HandS.IsInst
import PySem.Challenge.RW_standframes_k62_numbers_written_and_read
import HandS.Codes
import KE.KIntText
import PyProof.StrOps2
import HandS.ExcInit
import HandS.ExcCtx
import HandS.ExcSuper
import HandS.FStr
import HandS.CallSlots
import KE.KExcSuper
import PyProof.CallStr
import PyProof.Rows.StrOr
import HandS.Text
import HandS.Gcd
import HandS.Walk
import HandS.Iter
import HandS.ReplaceList
import HandS.ExcIs
import HandS.ExcField
import HandS.Deep
import KE.KExcIs
import KE.KStateDown
import HandS.Defaults
import HandS.Head0
import HandS.Head1
import HandS.Head2
import HandS.HeadEnd
import HandS.HeadHook1
import HandS.HeadHook2
import HandS.Head3
set_option Elab.async false
set_option linter.all false
set_option maxRecDepth 100000
set_option maxHeartbeats 4000000
namespace K00
open PySem L2
def top (i : Nat) : Stmt := PySem.Challenge.pw_standframes_k62_numbers_written_and_read.main.body.getD i (.Pass ⟨0, 0, 0, 0⟩)
/-! ### a def of the module, named: what a caller wants of it -/
structure Callee (P : Program) (w : World) (K : PySem.W.Frag) (mg : Str → Option Value) (base : Heap) (CX : CXT) (k : Nat) (x : Str) (ps : List Str) (sp : Sp) : Prop where
  go : ∃ (f : Addr) (fd : FuncData), FnOk P w K mg base CX k f fd ps sp ∧ mg x = some (.ref f) ∧ PySem.W.keepIn K (.ref f) = true ∧ Binds K fd ps []
theorem pe_fn {X : Cx} {CX : CXT} {k : Nat} {x : Str} {ps : List Str} {sp : Sp} {E : XK} {e : Expr} {es : List Expr} {t : TA} {p pos : Pos} (C : Callee X.prog X.w X.K X.mg X.base CX k x ps sp) (hr : Room k X.A) (hg : Gl X x) (hx : Passes CX X E)
    (ha : PA X (e :: es) t) (hdb : (x == ("__debug__" : Str)) = false := by decide) (he : starEach (e :: es) X.env = (false, eval e X.env) :: starEach es X.env := by rfl) (hpl : (backTo pos (starEach es X.env)).any (·.1) = false := by rfl) :
    PE X (.Call (.Name x p) (e :: es) [] pos) (tCall sp [] E t) := by
  obtain ⟨f, fd, F, hm, hk, hb⟩ := C.go
  exact pe_call F hr hg hm hk hb .nil hx ha hdb he hpl
/-- the built-in names that the module leaves alone -/
structure Txt (K : PySem.W.Frag) (mg : Str → Option Value) : Prop where
  len : mg "len" = none
  int : mg "int" = none
  max : mg "max" = none
  min : mg "min" = none
  list : mg "list" = none
  tuple : mg "tuple" = none
  isinstance : mg "isinstance" = none
  range : mg "range" = none
  zip : mg "zip" = none
  bool : mg "bool" = none
  str : mg "str" = none
  dict : mg "dict" = none
/-! ### the store of the draws -/
/-- the numbers that the store keeps: none is negative, the mill's state is below 2 ^ 61 -/
structure Nums (i b c d e : Int) : Prop where
  hi : 0 ≤ i
  hb : 0 ≤ b
  hc : 0 ≤ c
  hd : 0 ≤ d
  hd2 : d < 2305843009213693951
  he : 0 ≤ e
abbrev cells (l : Addr) (i b c d e : Int) : List V := [.ref l, .int i, .int b, .int c, .int d, .int e]
def StAt (H : Hp) (st : Addr) : Prop := ∃ (l : Addr) (ns : List Int) (i b c d e : Int), H st = some (.lst (cells l i b c d e)) ∧ H l = some (.lst (ns.map V.int)) ∧ ns.length ≤ 63 ∧ l ≠ st ∧ Nums i b c d e
/-- behind a draw: all else is as it was, the store is a store -/
structure Ext (st : Addr) (H H' : Hp) : Prop where
  old : ∀ b o, b ≠ st → H b = some o → H' b = some o
  at_ : StAt H' st
  keep : ∀ (l : Addr) (r : List V), H st = some (.lst (.ref l :: r)) → ∃ r', H' st = some (.lst (.ref l :: r'))
theorem Ext.trans {st : Addr} {H H1 H2 : Hp} (a : Ext st H H1) (b : Ext st H1 H2) : Ext st H H2 := ⟨fun c o n h => b.old c o n (a.old c o n h), b.at_, fun l r h => (a.keep l r h).elim fun r' h' => b.keep l r' h'⟩
theorem StAt.ext {st : Addr} {H : Hp} (a : StAt H st) : Ext st H H := ⟨fun _ _ _ h => h, a, fun _ r h => ⟨r, h⟩⟩
def lim : Nat → Int
  | 0 => 1000000000
  | n + 1 => (lim n - 1) * 1000000000
/-- what a draw below m may be -/
def Rng (r m : Int) : Prop := 0 ≤ r ∧ (r < m ∨ (m < 2 ∧ r = 0))
def spTake : Nat → Sp
  | 0 => fun _ _ _ _ => False
  | n + 1 => fun vs H Q _ => ∃ (st : Addr) (m : Int), vs = [.ref st, .int m] ∧ StAt H st ∧ m ≤ lim n ∧ ∀ (r : Int) (H' : Hp), Rng r m → Ext st H H' → Q (.int r) H'
theorem lim_big : ∀ n, 1000000000 ≤ lim n
  | 0 => by decide
  | n + 1 => by
    have h := lim_big n
    show (1000000000 : Int) ≤ (lim n - 1) * 1000000000
    omega
section
variable {P : Program} {w : World} {K : PySem.W.Frag} {mg : Str → Option Value} {base : Heap}
abbrev s_store : Stmt := top 21
theorem sc_store : FnScope ["_law_script"] ["_law_script"] (defScope s_store) := ⟨rfl, rfl, rfl, by decide +kernel, rfl, by decide +kernel, by decide +kernel⟩
def spStore (K : PySem.W.Frag) : Sp := fun vs H Q _ => ∃ (a : Addr) (ns : List Int), vs = [.ref a] ∧ SqL K H a (ns.map V.int) ∧ ns.length ≤ 63 ∧ ∀ (st : Addr) (H' : Hp), H st = none → Same H H' → StAt H' st → Q (.ref st) H'
theorem ok_store {f : Addr} {fd : FuncData} (F : Fun K "_law_store" "_law_store" s_store f fd) (T : Txt K mg) : FnOk P w K mg base CX0 1 f fd ["_law_script"] (spStore K) := by
  refine F.ok sc_store (fun vs H Q E h => ?_) (fun cdv A outer s H vs Q E hr h => ?_)
  · obtain ⟨a, ns, rfl, _⟩ := h
    rfl
  · obtain ⟨a, ns, rfl, hS, hl, k⟩ := h
    refine ⟨_, (pss_one (ps_ret (pe_lst (pa_cons (pe_callTy call_list_of (by rfl) T.list (by decide +kernel) (pa_cons (pv 0) pa_nil)) (pa_cons pe_int (pa_cons pe_int (pa_cons pe_int (pa_cons pe_int (pa_cons pe_int pa_nil))))))))), ?_⟩
    refine ⟨_, rfl, _, _, rfl, .inl hS, fun l hl0 => ?_⟩
    refine ⟨by show 6 ≤ sizeLine; decide, fun p hp => ?_⟩
    have nlp : l ≠ p := fun e => by rw [← e, upd_same] at hp; cases hp
    have hp0 : H p = none := by rw [upd_ne nlp.symm] at hp; exact hp
    refine k p _ hp0 (fun b o e => ?_) ⟨l, ns, 0, 0, 0, 0, 0, upd_same, by rw [upd_ne nlp]; exact upd_same, hl, nlp, ⟨by decide, by decide, by decide, by decide, by decide, by decide⟩⟩
    rw [upd_ne (ne_of_none e hp0), upd_ne (ne_of_none e hl0)]
    exact e
end
end K00

set_option Elab.async false
set_option linter.all false
set_option maxRecDepth 100000
set_option maxHeartbeats 4000000
namespace K00
open PySem L2
section
variable {P : Program} {w : World} {K : PySem.W.Frag} {mg : Str → Option Value} {base : Heap}
abbrev s_take : Stmt := top 22
theorem sc_take : FnScope ["_law_store_here", "_law_many", "_law_cell", "_law_got", "_law_once", "_law_twice"] ["_law_store_here", "_law_many"] (defScope s_take) := ⟨rfl, rfl, rfl, by decide +kernel, rfl, by decide +kernel, by decide +kernel⟩
theorem ten18 : (10 : Int) ^ (18 : Int).toNat = 1000000000000000000 := by decide
theorem ten9 : (10 : Int) ^ (9 : Int).toNat = 1000000000 := by decide
theorem cdiv_of {i j : Int} (h : 0 < j) (h2 : j < 9223372036854775808) : CDivW i j := wide_div h (b := 63) (by omega) (by decide) (by decide)
theorem cmul_of {i j : Int} (a : -2305843009213693952 < i ∧ i < 2305843009213693952) (b : -9223372036854775808 < j ∧ j < 9223372036854775808) : CMulW i j :=
  wide_mul (a := 61) (b := 63) (by omega) (by omega) (by decide) (by decide) (by decide)
theorem ok_take_step {n : Nat} {f : Addr} {fd : FuncData} (F : Fun K "_law_take" "_law_take" s_take f fd) (T : Txt K mg) (C : Callee P w K mg base CX0 (n + 1) "_law_take" ["_law_store_here", "_law_many"] (spTake n))
    (hbig : ∀ m : Int, 0 ≤ m → m ≤ lim n → m.natAbs < 2 ^ 9000) :
    FnOk P w K mg base CX0 (n + 2) f fd ["_law_store_here", "_law_many"] (spTake (n + 1)) := by
  refine F.ok sc_take (fun vs H Q E h => ?_) (fun cdv A outer s H vs Q E hr h => ?_)
  · obtain ⟨a, ns, rfl, _⟩ := h
    rfl
  · obtain ⟨st, m, rfl, ⟨l, ns, i, b, c, d, e, hst, hl, hlen, lne, N⟩, hm, k⟩ := h
    refine ⟨_, (pss_cons (ps_if (pt_cmpR op_lt (pv 1) pe_int (nomark _)) (pss_one (ps_ret pe_int)) pss_nil)
  (pss_cons (ps_asg (pe_op op_add (pe_ix ix_list (pv 0) pe_int (fun _ _ => rfl)) pe_int) (pg_sub (pv 0) pe_int set_list))
  (C8.pss_cut (ps_if (PW.pt (pw_and (pt_cmpR op_eq (pe_ix ix_list (pv 0) pe_int (fun _ _ => rfl)) pe_int (nomark _)) (pw_and (pt_cmpR op_eq (pe_ix ix_list (pv 0) pe_int (fun _ _ => rfl)) pe_int (nomark _)) (pw_and1 (pt_cmpR op_lt (pe_ix ix_list (pv 0) pe_int (fun _ _ => rfl)) (pe_callB call_len_seq (by rfl) T.len PySem.boot_len (pa_cons (pe_ix ix_list (pv 0) pe_int (fun _ _ => rfl)) pa_nil)) (nomark _)))))) (pss_cons (ps_set (i := 2) sc_take.nd rfl (Or.inl rfl) (pe_callTy call_int1 (by rfl) T.int (by decide +kernel) (pa_cons (pe_ix ix_list (pe_ix ix_list (pv 0) pe_int (fun _ _ => rfl)) (pe_ix ix_list (pv 0) pe_int (fun _ _ => rfl)) (fun _ _ => rfl)) pa_nil)))
  (pss_cons (ps_asg (pe_op op_add (pe_ix ix_list (pv 0) pe_int (fun _ _ => rfl)) pe_int) (pg_sub (pv 0) pe_int set_list))
  (pss_cons (ps_asg (pe_op op_mod (pe_callTy call_int1 (by rfl) T.int (by decide +kernel) (pa_cons (pe_op op_add (pe_op op_add (pe_op op_mulW (pe_ix ix_list (pv 0) pe_int (fun _ _ => rfl)) pe_int) (pv 2)) pe_int) pa_nil)) pe_int) (pg_sub (pv 0) pe_int set_list))
  (pss_one (ps_if (pt_cmpR op_ge (pe_callB (call_max2 rfl) (by rfl) T.max (by decide +kernel) (pa_cons (pv 2) (pa_cons (pe_un un_neg (pv 2)) pa_nil))) (pe_op op_pow pe_int pe_int) (nomark _)) (pss_one (ps_asg (pe_callB (call_max2 rfl) (by rfl) T.max (by decide +kernel) (pa_cons (pv 2) (pa_cons (pe_un un_neg (pv 2)) pa_nil))) (pg_sub (pv 0) pe_int set_list))) (pss_one (ps_asg pe_int (pg_sub (pv 0) pe_int set_list)))))))) pss_nil)
  (pss_cons (ps_if (pt_cmpR op_gt (pe_ix ix_list (pv 0) pe_int (fun _ _ => rfl)) pe_int (nomark _)) (pss_cons (ps_set (i := 3) sc_take.nd rfl (Or.inl rfl) (pe_op op_mod (pe_callTy call_int1 (by rfl) T.int (by decide +kernel) (pa_cons (pe_ix ix_list (pv 0) pe_int (fun _ _ => rfl)) pa_nil)) (pv 1)))
  (pss_cons (ps_asg (pe_op op_fdivW (pe_ix ix_list (pv 0) pe_int (fun _ _ => rfl)) (pv 1)) (pg_sub (pv 0) pe_int set_list))
  (pss_one (ps_ret (pv 3))))) pss_nil)
  (pss_cons (ps_if (pt_cmpR op_gt (pv 1) (pe_op op_pow pe_int pe_int) (nomark _)) (pss_cons (ps_set (i := 3) sc_take.nd rfl (Or.inl rfl) (pe_fn C hr (by rfl) pass0 (pa_cons (pv 0) (pa_cons (pe_op op_pow pe_int pe_int) pa_nil))))
  (pss_one (ps_ret (pe_op op_mod (pe_callTy call_int1 (by rfl) T.int (by decide +kernel) (pa_cons (pe_op op_add (pv 3) (pe_op op_mulW (pe_op op_pow pe_int pe_int) (pe_fn C hr (by rfl) pass0 (pa_cons (pv 0) (pa_cons (pe_op op_add (pe_op op_fdivW (pv 1) (pe_op op_pow pe_int pe_int)) pe_int) pa_nil))))) pa_nil)) (pv 1))))) pss_nil)
  (pss_cons (ps_asg (pe_callB (call_max2 rfl) (by rfl) T.max (by decide +kernel) (pa_cons pe_int (pa_cons (pe_op op_sub (pe_ix ix_list (pv 0) pe_int (fun _ _ => rfl)) pe_int) pa_nil))) (pg_sub (pv 0) pe_int set_list))
  (pss_cons (ps_set (i := 4) sc_take.nd rfl (Or.inl rfl) (pe_op op_add (pe_op op_add (pe_op op_mulW (pe_ix ix_list (pv 0) pe_int (fun _ _ => rfl)) pe_int) (pe_op op_mul (pe_ix ix_list (pv 0) pe_int (fun _ _ => rfl)) pe_int)) pe_int))
  (pss_cons (ps_set (i := 4) sc_take.nd rfl (Or.inl rfl) (pe_op op_mod (pe_callTy call_int1 (by rfl) T.int (by decide +kernel) (pa_cons (pv 4) pa_nil)) pe_int))
  (pss_cons (ps_asg (pv 4) (pg_sub (pv 0) pe_int set_list))
  (pss_cons (ps_set (i := 5) sc_take.nd rfl (Or.inl rfl) (pe_op op_mod (pe_callTy call_int1 (by rfl) T.int (by decide +kernel) (pa_cons (pe_op op_add (pe_op op_add (pe_op op_mulW (pv 4) (pv 4)) (pe_op op_fdivW (pv 4) pe_int)) (pe_ix ix_list (pv 0) pe_int (fun _ _ => rfl))) pa_nil)) pe_int))
  (pss_one (ps_ret (pe_op op_mod (pe_callTy call_int1 (by rfl) T.int (by decide +kernel) (pa_cons (pe_op op_fdivW (pv 5) pe_int) pa_nil)) (pv 1)))))))))))))), ?_⟩
    refine ⟨_, rfl, _, _, rfl, rfl, _, rfl, ?_⟩
    refine ite2 (fun h2 => ?_) (fun h2 => ?_)
    · have h2' : m < 2 := of_decide_eq_true h2
      exact k 0 H ⟨by omega, .inr ⟨h2', rfl⟩⟩ (StAt.ext ⟨l, ns, i, b, c, d, e, hst, hl, hlen, lne, N⟩)
    have h2' : ¬ m < 2 := fun z => h2 (decide_eq_true z)
    -- store[5] = store[5] + 1
    refine ⟨_, rfl, _, _, _, _, rfl, rfl, SqL.of hst, rfl, _, _, rfl, rfl, ?_⟩
    refine ⟨_, rfl, _, _, _, _, rfl, rfl, hst, rfl, ?_⟩
    generalize eH1 : upd H st _ = H1
    have h1 : H1 st = some (.lst (cells l i b c d (e + 1))) := by rw [← eH1]; exact upd_same
    have o1 : ∀ a, a ≠ st → H1 a = H a := fun a na => by rw [← eH1]; exact upd_ne na
    have hl1 : H1 l = some (.lst (ns.map V.int)) := by rw [o1 l lne]; exact hl
    clear eH1
    have N1 : Nums i b c d (e + 1) := ⟨N.hi, N.hb, N.hc, N.hd, N.hd2, by have := N.he; omega⟩
    -- the first if: what joins
    refine ⟨fun σ H2 => ∃ (v : Option V) (i b c d : Int), σ = [some (.ref st), some (.int m), v, none, none, none] ∧ H2 st = some (.lst (cells l i b c d (e + 1))) ∧ (∀ a, a ≠ st → H2 a = H a) ∧ Nums i b c d (e + 1), ?_, ?_⟩
    · refine ⟨_, rfl, _, _, _, _, rfl, rfl, SqL.of h1, rfl, rfl, _, rfl, ?_⟩
      refine ite2 (fun q2 => ?_) (fun _ => ⟨_, i, b, c, d, rfl, h1, o1, N1⟩)
      refine ⟨_, rfl, _, _, _, _, rfl, rfl, SqL.of h1, rfl, rfl, _, rfl, ?_⟩
      refine ite2 (fun q3 => ?_) (fun _ => ⟨_, i, b, c, d, rfl, h1, o1, N1⟩)
      refine ⟨_, rfl, _, _, _, _, rfl, rfl, SqL.of h1, rfl, _, rfl, _, _, _, _, rfl, rfl, SqL.of h1, rfl, _, _, rfl, .inl (SqL.of hl1), _, _, rfl, rfl, _, rfl, ?_⟩
      refine ite2 (fun q4 => ?_) (fun _ => ⟨_, i, b, c, d, rfl, h1, o1, N1⟩)
      have i4 : i < ((ns.map V.int).length : Int) := of_decide_eq_true q4
      have i4' : i.toNat < ns.length := by rw [List.length_map] at i4; have := N.hi; omega
      -- cell = int(store[0][store[1]])
      refine ⟨_, rfl, _, _, _, _, rfl, rfl, SqL.of h1, rfl, _, rfl, _, _, _, _, rfl, rfl, SqL.of h1, rfl, _, _, _, .int (ns[i.toNat]), rfl, rfl, SqL.of hl1, at_of (j := i.toNat) (by have := N.hi; omega) (by rw [List.getElem?_map, List.getElem?_eq_getElem i4']; rfl), .inl ⟨_, rfl, ?_⟩⟩
      generalize ns[i.toNat] = z
      -- store[1] += 1
      refine ⟨_, rfl, _, _, _, _, rfl, rfl, SqL.of h1, rfl, _, _, rfl, rfl, ?_⟩
      refine ⟨_, rfl, _, _, _, _, rfl, rfl, h1, rfl, ?_⟩
      generalize eH2 : upd H1 st _ = H2
      have h2 : H2 st = some (.lst (cells l (i + 1) b c d (e + 1))) := by rw [← eH2]; exact upd_same
      have o2 : ∀ a, a ≠ st → H2 a = H a := fun a na => by rw [← eH2, upd_ne na]; exact o1 a na
      clear eH2
      -- store[4] = ..
      refine ⟨_, rfl, _, _, _, _, rfl, rfl, SqL.of h2, rfl, _, _, rfl, rfl, cmul_of ⟨by have := N.hd; omega, by have := N.hd2; omega⟩ ⟨by decide, by decide⟩, _, rfl, _, _, rfl, rfl, _, _, rfl, rfl, .inl ⟨_, rfl, _, _, rfl, rfl, (by show (0 : Int) < 2305843009213693951; decide), ?_⟩⟩
      refine ⟨_, rfl, _, _, _, _, rfl, rfl, h2, rfl, ?_⟩
      generalize eH3 : upd H2 st _ = H3
      have h3 : H3 st = some (.lst (cells l (i + 1) b c ((d * 31 + z + 48611) % 2305843009213693951) (e + 1))) := by rw [← eH3]; exact upd_same
      have o3 : ∀ a, a ≠ st → H3 a = H a := fun a na => by rw [← eH3, upd_ne na]; exact o2 a na
      clear eH3
      have d0 := Int.emod_nonneg (d * 31 + z + 48611) (show (2305843009213693951 : Int) ≠ 0 by decide)
      have d1 := Int.emod_lt_of_pos (d * 31 + z + 48611) (show (0 : Int) < 2305843009213693951 by decide)
      generalize (d * 31 + z + 48611) % 2305843009213693951 = d' at h3 d0 d1
      have N3 : Nums (i + 1) b c d' (e + 1) := ⟨by have := N.hi; omega, N.hb, N.hc, d0, d1, N1.he⟩
      -- if max(cell, -cell) >= 10 ** 18
      refine ⟨_, rfl, _, rfl, _, rfl, _, _, rfl, _, _, rfl, rfl, ⟨by decide, by decide, by decide⟩, _, _, rfl, rfl, _, rfl, ?_⟩
      refine ite2 (fun q5 => ?_) (fun _ => ?_)
      · refine ⟨_, rfl, _, rfl, _, rfl, _, _, rfl, ?_⟩
        refine ⟨_, rfl, _, _, _, _, rfl, rfl, h3, rfl, ?_⟩
        refine ⟨_, i + 1, _, c, d', rfl, upd_same, fun a na => by rw [upd_ne na]; exact o3 a na, ⟨N3.hi, ?_, N.hc, d0, d1, N1.he⟩⟩
        by_cases hz : -z > z
        · rw [if_pos hz]; omega
        · rw [if_neg hz]; omega
      · refine ⟨_, rfl, _, _, _, _, rfl, rfl, h3, rfl, ?_⟩
        exact ⟨_, i + 1, b, _, d', rfl, upd_same, fun a na => by rw [upd_ne na]; exact o3 a na, ⟨N3.hi, N.hb, by decide, d0, d1, N1.he⟩⟩
    · have hst0 : ∀ l' r, H st = some (.lst (V.ref l' :: r)) → l' = l := fun l' r h => by
        rw [hst] at h
        cases h
        rfl
      clear h1 o1 hl1 N1 H1 hst N i b c d
      rintro σ H1 ⟨v, i, b, c, d, rfl, h1, o1, N⟩
      have hl1 : H1 l = some (.lst (ns.map V.int)) := by rw [o1 l lne]; exact hl
      have done : ∀ (i b c d : Int) (H2 : Hp), H2 st = some (.lst (cells l i b c d (e + 1))) → (∀ a, a ≠ st → H2 a = H a) → Nums i b c d (e + 1) → Ext st H H2 := fun i b c d H2 h2 o2 N2 =>
        ⟨fun a o na ha => by rw [o2 a na]; exact ha, ⟨l, ns, i, b, c, d, e + 1, h2, by rw [o2 l lne]; exact hl, hlen, lne, N2⟩, fun l' r h => by rw [hst0 l' r h]; exact ⟨_, h2⟩⟩
      have m2 : 2 ≤ m := by omega
      -- if store[2] > 0
      refine ⟨_, rfl, _, _, _, _, rfl, rfl, SqL.of h1, rfl, _, _, rfl, rfl, _, rfl, ?_⟩
      refine ite2 (fun q2 => ?_) (fun _ => ?_)
      · refine ⟨_, rfl, _, _, _, _, rfl, rfl, SqL.of h1, rfl, .inl ⟨_, rfl, _, rfl, _, _, rfl, rfl, (by show (0 : Int) < m; omega), ?_⟩⟩
        refine ⟨_, rfl, _, _, _, _, rfl, rfl, SqL.of h1, rfl, _, rfl, _, _, rfl, rfl, wide_div (by omega) (hbig m (by omega) hm) (by decide) (by decide), ?_⟩
        refine ⟨_, rfl, _, _, _, _, rfl, rfl, h1, rfl, ?_⟩
        refine ⟨_, rfl, k _ _ ⟨Int.emod_nonneg _ (by omega), .inl (Int.emod_lt_of_pos _ (by omega))⟩ (done _ _ _ _ _ upd_same (fun a na => by rw [upd_ne na]; exact o1 a na) ⟨N.hi, ?_, N.hc, N.hd, N.hd2, N.he⟩)⟩
        exact Int.ediv_nonneg N.hb (by omega)
      -- if many > 10 ** 9
      refine ⟨_, rfl, _, _, rfl, rfl, ⟨by decide, by decide, by decide⟩, _, _, rfl, rfl, _, rfl, ?_⟩
      refine ite2 (fun q3 => ?_) (fun _ => ?_)
      · have m9 : 1000000000 < m := by have := of_decide_eq_true q3; rw [ten9] at this; exact this
        cases n with
        | zero => exact absurd hm (by show ¬ m ≤ 1000000000; omega)
        | succ n =>
          have lb := lim_big n
          have hm' : m ≤ (lim n - 1) * 1000000000 := hm
          refine ⟨_, rfl, _, _, rfl, rfl, ⟨by decide, by decide, by decide⟩, st, 1000000000, rfl, (done _ _ _ _ _ h1 o1 N).at_, lb, fun r H2 hr2 x2 => ?_⟩
          refine ⟨_, rfl, _, _, rfl, rfl, ⟨by decide, by decide, by decide⟩, _, rfl, _, rfl, _, _, rfl, rfl, ⟨by decide, by decide, by decide⟩, _, _, rfl, rfl, cdiv_of (by decide) (by decide), _, _, rfl, rfl, st, m / 1000000000 + 1, rfl, x2.at_, by omega, fun r2 H3 hr3 x3 => ?_⟩
          have r2b : r2.natAbs < 2 ^ 9000 := by
            have z := hr3.1
            have z2 : r2 ≤ m := by rcases hr3.2 with y | y <;> omega
            have z3 := hbig m (by omega) hm
            exact Nat.lt_of_le_of_lt (by omega) z3
          refine ⟨_, _, rfl, rfl, wide_mul (a := 30) (b := 9000) (by decide) r2b (by decide) (by decide) (by decide), _, _, rfl, rfl, .inl ⟨_, rfl, _, rfl, _, _, rfl, rfl, (by show (0 : Int) < m; omega), ?_⟩⟩
          refine k _ _ ⟨Int.emod_nonneg _ (by omega), .inl (Int.emod_lt_of_pos _ (by omega))⟩ ?_
          have x3' := (x2.trans x3)
          exact (done _ _ _ _ _ h1 o1 N).trans x3'
      -- store[3] = max(0, store[3] - 1)
      refine ⟨_, rfl, _, _, _, _, rfl, rfl, SqL.of h1, rfl, _, _, rfl, rfl, _, _, rfl, ?_⟩
      refine ⟨_, rfl, _, _, _, _, rfl, rfl, h1, rfl, ?_⟩
      have c0 : 0 ≤ (if c - 1 > 0 then c - 1 else 0) := by
        by_cases hz : c - 1 > 0
        · rw [if_pos hz]; omega
        · rw [if_neg hz]; omega
      generalize (if c - 1 > 0 then c - 1 else 0) = c' at c0
      generalize eH2 : upd H1 st _ = H2
      have h2 : H2 st = some (.lst (cells l i b c' d (e + 1))) := by rw [← eH2]; exact upd_same
      have o2 : ∀ a, a ≠ st → H2 a = H a := fun a na => by rw [← eH2, upd_ne na]; exact o1 a na
      clear eH2
      -- once
      refine ⟨_, rfl, _, _, _, _, rfl, rfl, SqL.of h2, rfl, _, _, rfl, rfl, cmul_of ⟨by have := N.hd; omega, by have := N.hd2; omega⟩ ⟨by decide, by decide⟩, _, rfl, _, _, _, _, rfl, rfl, SqL.of h2, rfl, _, _, rfl, rfl, .inr ⟨by decide, by decide⟩, _, _, rfl, rfl, _, _, rfl, rfl, ?_⟩
      have dy : ∃ y, y = d * 3935559000370003845 + (e + 1) * 2691343689449507681 + 1442695040888963407 := ⟨_, rfl⟩
      obtain ⟨y, ey⟩ := dy
      refine ⟨_, rfl, .inl ⟨_, rfl, _, _, rfl, rfl, (by show (0 : Int) < 2305843009213693951; decide), ?_⟩⟩
      have d0 := Int.emod_nonneg y (show (2305843009213693951 : Int) ≠ 0 by decide)
      have d1 := Int.emod_lt_of_pos y (show (0 : Int) < 2305843009213693951 by decide)
      rw [ey] at d0 d1
      refine ⟨_, rfl, _, rfl, _, _, _, _, rfl, rfl, h2, rfl, ?_⟩
      generalize eH3 : upd H2 st _ = H3
      have h3 : H3 st = some (.lst (cells l i b c' ((d * 3935559000370003845 + (e + 1) * 2691343689449507681 + 1442695040888963407) % 2305843009213693951) (e + 1))) := by rw [← eH3]; exact upd_same
      have o3 : ∀ a, a ≠ st → H3 a = H a := fun a na => by rw [← eH3, upd_ne na]; exact o2 a na
      clear eH3
      refine ⟨_, rfl, _, rfl, _, _, rfl, rfl, cmul_of ⟨by omega, by omega⟩ ⟨by omega, by omega⟩, _, rfl, _, _, rfl, rfl, cdiv_of (by decide) (by decide), _, _, rfl, rfl, _, rfl, _, _, _, _, rfl, rfl, SqL.of h3, rfl, _, _, rfl, rfl, .inl ⟨_, rfl, _, _, rfl, rfl, (by show (0 : Int) < 2305843009213693951; decide), ?_⟩⟩
      refine ⟨_, rfl, _, _, rfl, rfl, cdiv_of (by decide) (by decide), .inl ⟨_, rfl, _, rfl, _, _, rfl, rfl, (by show (0 : Int) < m; omega), ?_⟩⟩
      exact k _ _ ⟨Int.emod_nonneg _ (by omega), .inl (Int.emod_lt_of_pos _ (by omega))⟩ (done _ _ _ _ _ h3 o3 ⟨N.hi, N.hb, c0, d0, d1, N.he⟩)
theorem lim_lt : ∀ n, lim n < 2 ^ (30 * (n + 1))
  | 0 => by decide
  | n + 1 => by
    have h := lim_lt n
    have lb := lim_big n
    show (lim n - 1) * 1000000000 < (2 : Int) ^ (30 * (n + 1 + 1))
    have e : (2 : Int) ^ (30 * (n + 1 + 1)) = 2 ^ (30 * (n + 1)) * 1073741824 := by
      rw [show 30 * (n + 1 + 1) = 30 * (n + 1) + 30 by omega, Int.pow_add]
      rfl
    rw [e]
    generalize (2 : Int) ^ (30 * (n + 1)) = B at h
    omega
theorem ok_take {f : Addr} {fd : FuncData} (F : Fun K "_law_take" "_law_take" s_take f fd) (T : Txt K mg) (hm : mg "_law_take" = some (.ref f)) (hb : Binds K fd ["_law_store_here", "_law_many"] []) : ∀ n, n ≤ 200 → FnOk P w K mg base CX0 (n + 1) f fd ["_law_store_here", "_law_many"] (spTake n)
  | 0, _ => ⟨fun _ _ _ _ h => h.elim, fun _ _ _ _ _ _ _ _ _ _ _ _ _ h => h.elim⟩
  | n + 1, hn => by
    refine ok_take_step F T ⟨f, fd, ok_take F T hm hb n (by omega), hm, F.kp, hb⟩ fun m h0 h1 => ?_
    have z := lim_lt n
    have e : (2 : Int) ^ (30 * (n + 1)) ≤ 2 ^ 9000 := by
      have q : (2 : Nat) ^ (30 * (n + 1)) ≤ 2 ^ 9000 := Nat.pow_le_pow_right (by decide) (by omega)
      exact_mod_cast q
    have y : m < (2 : Int) ^ 9000 := by omega
    have y2 : ((m.natAbs : Nat) : Int) < ((2 ^ 9000 : Nat) : Int) := by
      rw [Int.natAbs_of_nonneg h0]
      exact_mod_cast y
    exact_mod_cast y2
end
end K00

set_option Elab.async false
set_option linter.all false
set_option maxRecDepth 100000
set_option maxHeartbeats 4000000
namespace PySem.W
open PySem PySem.Calls PySem.NumText PyProof.Rows
namespace WIN
/-- the limit of digits: asked for a long text -/
theorem text_any {K : Frag} {M : Model} {A : Around} {E : Value → Shared → Prop} {s : Shared} {Q : Value → Shared → Prop} {v : Value} {x : PySem.Str} {n : Int} (X : K.In s.heap)
    (hz : nsIn K cStatics "sys.int_max_str_digits" = some none) (hr : (int_private% "readNumeral") (numLimitOf x) 10 (numSeenOf x) = (int_private% "Numeral.value") n)
    (ha : ((numSeenOf x).length == (numTextOf x).length) = true) (h : Q (.int n s.toks) { s with toks := s.toks + 1 }) :
    wpAny M A ((int_private% "intFromText") v (numTextOf x) 10) Q E s := by
  by_cases hl : (numSeenOf x).length ≤ 640
  · have e : numLimitOf x = 0 := if_pos hl
    rw [e] at hr
    exact KIN.wp_text hl hr ha h
  · have e : numLimitOf x = 4300 := if_neg hl
    rw [e] at hr
    have lim : ∀ {Q : Nat → Shared → Prop}, Q 4300 s → wpAny M A Builtin.intMaxStrDigits Q E s := fun {Q} q => by
      unfold Builtin.intMaxStrDigits
      exact wpAny_bind ((looks_nsIn X hz).here (wpAny_pure q))
    show wpAny M A (do
      let limit ← if (numSeenOf x).length ≤ 640 then pure 0 else Builtin.intMaxStrDigits
      _) Q E s
    dsimp only
    rw [if_neg hl]
    refine wpAny_bind (lim ?_)
    rw [hr]
    dsimp only
    rw [if_pos ha]
    obtain ⟨hp, g, d, tk, os⟩ := s
    repeat (any_goals (first
      | assumption
      | wp_step))
structure Hid (p : Prop) : Prop where
  out : p
set_option maxHeartbeats 8000000 in
theorem new_any {K : Frag} {x : PySem.Str} {u : Tok} {n : Int} (hz : nsIn K cStatics "sys.int_max_str_digits" = some none) (hl : x.length ≤ 4300) (hn : PySem.intText? x = some n) :
    Meets (Builtin.«int.__new__» ⟨[.type "int", .str x u], []⟩) (fun _ R s => K.In s.heap ∧ (Made.int n).post (fun v s' => R (.ok (.ret v)) s') s) :=
  .of_wp fun prog w A R s h => by
    obtain ⟨X, h⟩ := h
    obtain ⟨hp, g, d, tk, os⟩ := s
    have f1 := F.conv_sub_int
    have f2 := F.madeHere_int
    have f3 := KIN.str_int
    have f4 := KIN.str_idx
    have f5 := KIN.str_trunc
    have f6 : typeOf (.str x u) = pure (.type "str") := rfl
    have hr : (int_private% "readNumeral") (numLimitOf x) 10 (numSeenOf x) = (int_private% "Numeral.value") n ∧ ((numSeenOf x).length == (numTextOf x).length) = true := by
      rcases readAny x (by rw [sizeLine_eq]; omega) with ⟨m, h1, h2, h3⟩ | ⟨h1, _⟩
      · rw [hn] at h1
        injection h1 with h1
        subst h1
        exact ⟨h3, h2⟩
      · rw [hn] at h1
        cases h1
    have hk := Hid.mk (And.intro X hr)
    clear hr hl hn X
    repeat (any_goals (first
      | assumption
      | ((with_reducible show wpAny _ _ ((int_private% "intFromText") _ _ _) _ _ _); refine text_any hk.out.1 hz hk.out.2.1 hk.out.2.2 ?_)
      | wp_step))
    all_goals first | exact ⟨_, rfl, h⟩ | skip
end WIN
end PySem.W
namespace K00
open PySem L2
theorem call_int_text {X : Cx} (hz : PySem.W.nsIn X.K cStatics "sys.int_max_str_digits" = some none) : CallR X (.type "int") (fun xs H Q => ∃ a n, xs = [.str a] ∧ PySem.intText? a = some n ∧ a.length ≤ 4300 ∧ Q (.int n) H) := by
  intro pins s σ H xs us Q I rs h
  obtain ⟨a, n, rfl, hn, hl, h⟩ := h
  cases rs with
  | cons r1 rs =>
    cases rs
    obtain ⟨t, rfl⟩ := r1
    exact call_int_1 (PySem.W.WIN.new_any hz hl hn) ⟨I.kIn, rfl, .int n, H, I.tok _, ⟨_, rfl⟩, h⟩
/-- text * int -/
theorem op_rep_str {X : Cx} : OpR X (binaryOp .Mult) (fun x y H Q => ∃ c n, x = .str ⟨#[c]⟩ ∧ y = .int n ∧ 0 ≤ n ∧ n ≤ 4000 ∧ Q (.str ⟨(List.replicate n.toNat c).toArray⟩) H) := by
  intro pins s σ H x y v u Q I rx ry h
  obtain ⟨c, n, rfl, rfl, h0, h1, q⟩ := h
  obtain ⟨t, rfl⟩ := rx
  obtain ⟨t', rfl⟩ := ry
  have fold : ∀ (k : Nat) (acc : Array Nat), (List.replicate k (#[c] : Array Nat)).foldl (· ++ ·) acc = acc ++ (List.replicate k c).toArray := fun k => by
    induction k with
    | zero => intro acc; simp
    | succ k ih =>
      intro acc
      rw [List.replicate_succ, List.foldl_cons, ih, List.replicate_succ]
      apply Array.toList_inj.mp
      simp
  refine PySem.P.mul_str (by rw [decide_eq_false (by omega), decide_eq_false (by omega)]; rfl) (fun hn hx => ?_) (fun hn hx => ?_) ?_
  · show ¬ ((1 : Nat) : Int) > (2 ^ 63 - 1) / n
    have : (1 : Int) ≤ (2 ^ 63 - 1) / n := Int.le_ediv_of_mul_le (by omega) (by omega)
    omega
  · exact decide_eq_false (by show ¬ 1 * n.toNat > sizeLine; rw [sizeLine_eq]; omega)
  · have e := fold n.toNat #[]
    have e2 : (⟨(List.replicate n.toNat (#[c] : Array Nat)).foldl (· ++ ·) #[]⟩ : Str) = ⟨(List.replicate n.toNat c).toArray⟩ := by rw [e]; simp
    by_cases hn : n < 1
    · rw [if_pos hn]
      have e : n = 0 := by omega
      subst e
      exact ⟨by decide, ⟨.str ⟨#[]⟩, H, I.tok _, ⟨_, rfl⟩, q⟩⟩
    · rw [if_neg hn]
      by_cases hx : (n == 1 || (⟨#[c]⟩ : Str).length == 0) = true
      · rw [if_pos hx]
        have e : n = 1 := by simpa [PySem.Str.length] using hx
        subst e
        exact ⟨.str ⟨#[c]⟩, H, I, ⟨_, rfl⟩, q⟩
      · rw [if_neg hx]
        have e3 : (⟨(List.replicate n.toNat (⟨#[c]⟩ : Str).cps).foldl (· ++ ·) #[]⟩ : Str) = ⟨(List.replicate n.toNat c).toArray⟩ := e2
        rw [e3]
        refine ⟨?_, ⟨.str ⟨(List.replicate n.toNat c).toArray⟩, H, I.tok _, ⟨_, rfl⟩, q⟩⟩
        show (List.replicate n.toNat c).toArray.size ≤ sizeLine
        rw [List.size_toArray, List.length_replicate, sizeLine_eq]
        omega
end K00

set_option Elab.async false
set_option linter.all false
set_option maxRecDepth 100000
set_option maxHeartbeats 4000000
namespace K00
open PySem L2
theorem op_fdivZ {X : Cx} : OpR X (binaryOp .FloorDiv) (rI (fun _ j => j ≠ 0 ∧ j.natAbs < 2 ^ 9000) fun i j => .int (i.fdiv j)) := opI fun i j _ _ _ _ _ hc q => by
  have h2 : j.natAbs.log2 < 9000 := PySem.Flt.log2_lt_of (by decide) hc.2
  exact PyProof.Rows.floordiv_int hc.1 q (.inl (PyProof.noPylong_of_log2 h2))
/-! ### lowest terms -/
def lowG (u d : Int) : Int := if d < 0 then -((Nat.gcd u.natAbs d.natAbs : Nat) : Int) else ((Nat.gcd u.natAbs d.natAbs : Nat) : Int)
def lowN (u d : Int) : Int := u.fdiv (lowG u d)
def lowD (u d : Int) : Int := d.fdiv (lowG u d)
theorem lowG_ne {u d : Int} (h : d ≠ 0) : lowG u d ≠ 0 := by
  have g : Nat.gcd u.natAbs d.natAbs ≠ 0 := fun z => h (Int.natAbs_eq_zero.mp (Nat.eq_zero_of_gcd_eq_zero_right z))
  unfold lowG
  split <;> omega
theorem lowG_abs {u d : Int} : (lowG u d).natAbs = Nat.gcd u.natAbs d.natAbs := by
  unfold lowG
  split <;> simp
theorem lowG_dvd_u {u d : Int} : lowG u d ∣ u := by
  rw [← Int.natAbs_dvd_natAbs, lowG_abs]
  exact Nat.gcd_dvd_left _ _
theorem lowG_dvd_d {u d : Int} : lowG u d ∣ d := by
  rw [← Int.natAbs_dvd_natAbs, lowG_abs]
  exact Nat.gcd_dvd_right _ _
theorem lowN_mul {u d : Int} : lowN u d * lowG u d = u := by
  unfold lowN
  rw [Int.fdiv_eq_ediv_of_dvd lowG_dvd_u]
  exact Int.ediv_mul_cancel lowG_dvd_u
theorem lowD_mul {u d : Int} : lowD u d * lowG u d = d := by
  unfold lowD
  rw [Int.fdiv_eq_ediv_of_dvd lowG_dvd_d]
  exact Int.ediv_mul_cancel lowG_dvd_d
theorem lowD_pos {u d : Int} (h : d ≠ 0) : 0 < lowD u d := by
  have e := lowD_mul (u := u) (d := d)
  have hs : (0 < d ∧ 0 < lowG u d) ∨ (d < 0 ∧ lowG u d < 0) := by
    have g : Nat.gcd u.natAbs d.natAbs ≠ 0 := fun z => h (Int.natAbs_eq_zero.mp (Nat.eq_zero_of_gcd_eq_zero_right z))
    unfold lowG
    by_cases q : d < 0
    · rw [if_pos q]; right; omega
    · rw [if_neg q]; left; omega
  rcases hs with ⟨a, b⟩ | ⟨a, b⟩
  · by_cases q : 0 < lowD u d
    · exact q
    · have := Int.mul_nonpos_of_nonpos_of_nonneg (show lowD u d ≤ 0 by omega) (show 0 ≤ lowG u d by omega)
      omega
  · by_cases q : 0 < lowD u d
    · exact q
    · have := Int.mul_nonneg_of_nonpos_of_nonpos (show lowD u d ≤ 0 by omega) (show lowG u d ≤ 0 by omega)
      omega
theorem low_abs_n {u d : Int} : (lowN u d).natAbs * Nat.gcd u.natAbs d.natAbs = u.natAbs := by
  have e := congrArg Int.natAbs (lowN_mul (u := u) (d := d))
  rw [Int.natAbs_mul, lowG_abs] at e
  exact e
theorem low_abs_d {u d : Int} : (lowD u d).natAbs * Nat.gcd u.natAbs d.natAbs = d.natAbs := by
  have e := congrArg Int.natAbs (lowD_mul (u := u) (d := d))
  rw [Int.natAbs_mul, lowG_abs] at e
  exact e
theorem low_cop {u d : Int} (h : d ≠ 0) : Nat.gcd (lowN u d).natAbs (lowD u d).natAbs = 1 := by
  have g : 0 < Nat.gcd u.natAbs d.natAbs := Nat.pos_of_ne_zero fun z => h (Int.natAbs_eq_zero.mp (Nat.eq_zero_of_gcd_eq_zero_right z))
  have e := Nat.gcd_mul_right (lowN u d).natAbs (Nat.gcd u.natAbs d.natAbs) (lowD u d).natAbs
  rw [low_abs_n, low_abs_d] at e
  exact Nat.eq_of_mul_eq_mul_right g (by rw [← e, Nat.one_mul])
theorem low_le_n {u d : Int} : (lowN u d).natAbs ≤ u.natAbs := by
  by_cases h : d = 0
  · by_cases q : u = 0
    · subst h; subst q; decide
    · have e := low_abs_n (u := u) (d := d)
      have g : 0 < Nat.gcd u.natAbs d.natAbs := Nat.gcd_pos_of_pos_left _ (by omega)
      rw [← e]
      exact Nat.le_mul_of_pos_right _ g
  · have g : 0 < Nat.gcd u.natAbs d.natAbs := Nat.gcd_pos_of_pos_right _ (by omega)
    rw [← low_abs_n (u := u) (d := d)]
    exact Nat.le_mul_of_pos_right _ g
theorem low_le_d {u d : Int} (h : d ≠ 0) : (lowD u d).natAbs ≤ d.natAbs := by
  have g : 0 < Nat.gcd u.natAbs d.natAbs := Nat.gcd_pos_of_pos_right _ (by omega)
  rw [← low_abs_d (u := u) (d := d)]
  exact Nat.le_mul_of_pos_right _ g
theorem low_cross {u d : Int} : lowN u d * d = lowD u d * u := by
  have a := lowN_mul (u := u) (d := d)
  have b := lowD_mul (u := u) (d := d)
  calc lowN u d * d = lowN u d * (lowD u d * lowG u d) := by rw [b]
    _ = lowD u d * (lowN u d * lowG u d) := by rw [Int.mul_left_comm]
    _ = lowD u d * u := by rw [a]
/-- two ratios in lowest terms that are equal crosswise are one -/
theorem low_uniq {n d n' d' : Int} (h1 : 0 < d) (h2 : 0 < d') (c1 : Nat.gcd n.natAbs d.natAbs = 1) (c2 : Nat.gcd n'.natAbs d'.natAbs = 1) (e : n * d' = d * n') : n = n' ∧ d = d' := by
  have e' : n.natAbs * d'.natAbs = d.natAbs * n'.natAbs := by rw [← Int.natAbs_mul, ← Int.natAbs_mul, e]
  have a1 : d.natAbs ∣ d'.natAbs := by
    have q : d.natAbs ∣ n.natAbs * d'.natAbs := by rw [e']; exact Nat.dvd_mul_right _ _
    exact (Nat.Coprime.symm c1).dvd_of_dvd_mul_left q
  have a2 : d'.natAbs ∣ d.natAbs := by
    have q : d'.natAbs ∣ d.natAbs * n'.natAbs := by rw [← e']; exact Nat.dvd_mul_left _ _
    exact (Nat.Coprime.symm c2).dvd_of_dvd_mul_right q
  have ed : d = d' := by
    have := Nat.dvd_antisymm a1 a2
    omega
  subst ed
  refine ⟨?_, rfl⟩
  rw [Int.mul_comm d n'] at e
  exact Int.eq_of_mul_eq_mul_right (by omega) e
theorem low_self {n d : Int} (h : 0 < d) (c : Nat.gcd n.natAbs d.natAbs = 1) : lowN n d = n ∧ lowD n d = d := by
  have g : lowG n d = 1 := by
    unfold lowG
    rw [if_neg (by omega), c]
    rfl
  unfold lowN lowD
  rw [g]
  exact ⟨Int.fdiv_one n, Int.fdiv_one d⟩
/-- a ratio's value -/
def RatV (K : PySem.W.Frag) (H : Hp) (v : V) (n d : Int) : Prop := ∃ a, v = .ref a ∧ SqT K H a [.int n, .int d]
/-- in lowest terms, with a positive denominator -/
structure Lo (n d : Int) : Prop where
  pos : 0 < d
  cop : Nat.gcd n.natAbs d.natAbs = 1
theorem lo_low {u d : Int} (h : d ≠ 0) : Lo (lowN u d) (lowD u d) := ⟨lowD_pos h, low_cop h⟩
theorem sqT_ext {K : PySem.W.Frag} {st a : Addr} {H H' : Hp} {xs : List V} (hs : StAt H st) (x : Ext st H H') (h : SqT K H a xs) : SqT K H' a xs := by
  obtain ⟨l, ns, i, b, c, d, e, hst, _⟩ := hs
  rcases h with (h | ⟨o, h⟩) | h
  · exact .inl (.inl (x.old _ _ (ne_of h hst (by intro z; cases z)) h))
  · exact .inl (.inr ⟨o, x.old _ _ (ne_of h hst (by intro z; cases z)) h⟩)
  · exact .inr h
theorem sqT_same {K : PySem.W.Frag} {a : Addr} {H H' : Hp} {xs : List V} (e : Same H H') (h : SqT K H a xs) : SqT K H' a xs := by
  rcases h with (h | ⟨o, h⟩) | h
  · exact .inl (.inl (e _ _ h))
  · exact .inl (.inr ⟨o, e _ _ h⟩)
  · exact .inr h
theorem RatV.ext {K : PySem.W.Frag} {st : Addr} {H H' : Hp} {v : V} {n d : Int} (hs : StAt H st) (x : Ext st H H') : RatV K H v n d → RatV K H' v n d := fun ⟨a, e, h⟩ => ⟨a, e, sqT_ext hs x h⟩
theorem RatV.same {K : PySem.W.Frag} {H H' : Hp} {v : V} {n d : Int} (x : Same H H') : RatV K H v n d → RatV K H' v n d := fun ⟨a, e, h⟩ => ⟨a, e, sqT_same x h⟩
theorem StAt.same {H H' : Hp} {st : Addr} (x : Same H H') : StAt H st → StAt H' st := fun ⟨l, ns, i, b, c, d, e, h1, h2, h3⟩ => ⟨l, ns, i, b, c, d, e, x _ _ h1, x _ _ h2, h3⟩
theorem Ext.ofSame {H H' : Hp} {st : Addr} (hs : StAt H st) (x : Same H H') : Ext st H H' := ⟨fun b o _ h => x b o h, hs.same x, fun _ r h => ⟨r, x _ _ h⟩⟩
theorem Same.new {H : Hp} {p : Addr} {o : HO} (h : H p = none) : Same H (upd H p o) := fun b u e => by rw [upd_ne (ne_of_none e h)]; exact e
end K00

set_option Elab.async false
set_option linter.all false
set_option maxRecDepth 100000
set_option maxHeartbeats 4000000
namespace K00
open PySem L2
structure TxtD (K : PySem.W.Frag) (mg : Str → Option Value) : Prop extends Txt K mg where
  dig : PySem.W.nsIn K cStatics "sys.int_max_str_digits" = some none
def spEdge : Sp := fun vs H Q _ => ∃ (st : Addr) (m : Int), vs = [.ref st, .int m] ∧ StAt H st ∧ m ≤ lim 124 ∧ ∀ (r : Int) (H' : Hp), Rng r m → Ext st H H' → Q (.int r) H'
def spBetween : Sp := fun vs H Q _ => ∃ (st : Addr) (lo hi : Int), vs = [.ref st, .int lo, .int hi] ∧ StAt H st ∧ lo ≤ hi ∧ hi - lo < 1000000 ∧ ∀ (r : Int) (H' : Hp), lo ≤ r → r ≤ hi → Ext st H H' → Q (.int r) H'
def spTens : Sp := fun vs H Q _ => ∃ (n : Int), vs = [.int n] ∧ 0 ≤ n ∧ n ≤ 1000 ∧ Q (.int ((10 ^ n.toNat : Nat) : Int)) H
def spInteger : Sp := fun vs H Q _ => ∃ (st : Addr) (f : Int), vs = [.ref st, .int f] ∧ StAt H st ∧ 1 ≤ f ∧ f ≤ 1000 ∧ ∀ (r : Int) (H' : Hp), r.natAbs < 10 ^ f.toNat → Ext st H H' → Q (.int r) H'
theorem lim124 : ((10 ^ 1000 : Nat) : Int) ≤ lim 124 := by
  have h : ∀ n, ((10 ^ (9 + 8 * n) : Nat) : Int) ≤ lim n := by
    intro n
    induction n with
    | zero => decide
    | succ n ih =>
      have lb := lim_big n
      show _ ≤ (lim n - 1) * 1000000000
      have e : ((10 ^ (9 + 8 * (n + 1)) : Nat) : Int) = ((10 ^ (9 + 8 * n) : Nat) : Int) * 100000000 := by
        rw [show 9 + 8 * (n + 1) = (9 + 8 * n) + 8 by omega, Nat.pow_add]
        rfl
      rw [e]
      generalize ((10 ^ (9 + 8 * n) : Nat) : Int) = z at ih
      omega
  refine Int.le_trans ?_ (h 124)
  exact Int.ofNat_le.mpr (Nat.pow_le_pow_right (by decide) (by decide))
theorem lim124s {m : Int} (h : m ≤ 1000000000) : m ≤ lim 124 := by have := lim_big 124; omega
theorem int_eq {i j : Int} (h : decide (V.int i = V.int j) = true) : i = j := V.int.inj (of_decide_eq_true h)
theorem int_ne {i j : Int} (h : ¬ decide (V.int i = V.int j) = true) : i ≠ j := fun e => h (decide_eq_true (by rw [e]))
abbrev psT : List Str := ["_law_store_here", "_law_many"]
section
variable {P : Program} {w : World} {K : PySem.W.Frag} {mg : Str → Option Value} {base : Heap}
abbrev s_tens : Stmt := top 23
theorem sc_tens : FnScope ["_law_figures"] ["_law_figures"] (defScope s_tens) := ⟨rfl, rfl, rfl, by decide +kernel, rfl, by decide +kernel, by decide +kernel⟩
theorem digits_zeros : ∀ (k acc : Nat), (List.replicate k 48).foldl (fun acc c => acc * 10 + (c - 48)) acc = acc * 10 ^ k
  | 0, acc => by simp
  | k + 1, acc => by
    rw [List.replicate_succ, List.foldl_cons, digits_zeros k]
    simp only [Nat.sub_self, Nat.add_zero, Nat.pow_succ]
    rw [Nat.mul_assoc, Nat.mul_comm 10]
theorem ok_tens {f : Addr} {fd : FuncData} (F : Fun K "_law_tens" "_law_tens" s_tens f fd) (T : TxtD K mg) : FnOk P w K mg base CX0 1 f fd ["_law_figures"] spTens := by
  refine F.ok sc_tens (fun vs H Q E h => ?_) (fun cdv A outer s H vs Q E hr h => ?_)
  · obtain ⟨_, rfl, _⟩ := h
    rfl
  · obtain ⟨n, rfl, h0, h1, k⟩ := h
    refine ⟨_, (pss_one (ps_ret (pe_callTy (call_int_text T.dig) (by rfl) T.int (by decide +kernel) (pa_cons (pe_op op_add_str pe_str (pe_op op_rep_str pe_str (pv 0))) pa_nil)))), ?_⟩
    have hcs : (Str.mk ((#[49] : Array Nat) ++ (List.replicate n.toNat 48).toArray)).cps.toList = 49 :: List.replicate n.toNat 48 := by simp
    have hlen : (Str.mk ((#[49] : Array Nat) ++ (List.replicate n.toNat 48).toArray)).length = n.toNat + 1 := by
      show ((#[49] : Array Nat) ++ (List.replicate n.toNat 48).toArray).size = _
      simp
      omega
    have hd : PySem.NumText.AllDigits (49 :: List.replicate n.toNat 48) := fun c hc => by
      rcases List.mem_cons.mp hc with e | e
      · omega
      · have := List.eq_of_mem_replicate e
        omega
    refine ⟨_, rfl, 48, _, rfl, rfl, h0, by omega, _, _, rfl, rfl, ?_, _, _, rfl, PySem.intText_digits (x := Str.mk ((#[49] : Array Nat) ++ (List.replicate n.toNat 48).toArray)) (by rw [hcs]; exact hd) (by rw [hcs]; simp) (by rw [hlen]; omega), by show (Str.mk ((#[49] : Array Nat) ++ (List.replicate n.toNat 48).toArray)).length ≤ 4300; rw [hlen]; omega, ?_⟩
    · show 1 + (List.replicate n.toNat 48).toArray.size ≤ sizeLine
      rw [List.size_toArray, List.length_replicate, sizeLine_eq]
      omega
    · rw [hcs]
      have e : PySem.NumText.digitsVal (49 :: List.replicate n.toNat 48) = 10 ^ n.toNat := by
        show (List.replicate n.toNat 48).foldl _ (0 * 10 + (49 - 48)) = _
        rw [digits_zeros]
        simp
      rw [e]
      exact k
end
def lowP (u d : Int) : Int × Int := if d = 0 then (0, 1) else (lowN u d, lowD u d)
def spLow : Sp := fun vs H Q _ => ∃ (u d : Int), vs = [.int u, .int d] ∧ u.natAbs < 2 ^ 9000 ∧ d.natAbs < 2 ^ 9000 ∧ ∀ p, H p = none → Q (.ref p) (upd H p (.tup [.int (lowP u d).1, .int (lowP u d).2]))
def sgn (n : Int) : Int := if 0 < n then 1 else if n < 0 then -1 else 0
def spSgn (K : PySem.W.Frag) : Sp := fun vs H Q _ => ∃ (a : Addr) (n : Int) (r : List V), vs = [.ref a] ∧ (SqL K H a (.int n :: r) ∨ SqT K H a (.int n :: r)) ∧ Q (.int (sgn n)) H
def spSmall (K : PySem.W.Frag) : Sp := fun vs H Q _ => ∃ (st : Addr), vs = [.ref st] ∧ StAt H st ∧ ∀ (v : V) (H' : Hp) (n d : Int), Ext st H H' → RatV K H' v n d → Lo n d → n.natAbs ≤ 4 → d ≤ 3 → Q v H'
def spRatio (K : PySem.W.Frag) : Sp := fun vs H Q _ => ∃ (st : Addr) (f : Int), vs = [.ref st, .int f] ∧ StAt H st ∧ 1 ≤ f ∧ f ≤ 1000 ∧ ∀ (v : V) (H' : Hp) (n d : Int), Ext st H H' → RatV K H' v n d → Lo n d → n.natAbs < 10 ^ f.toNat → d.natAbs < 10 ^ f.toNat → Q v H'
theorem pow10_le {f : Int} (h1 : 1 ≤ f) : 10 ≤ 10 ^ f.toNat := by
  have : 10 ^ 1 ≤ 10 ^ f.toNat := Nat.pow_le_pow_right (by decide) (by omega)
  exact this
theorem pow10_2 {f : Nat} (h : f ≤ 1000) : 10 ^ f < 2 ^ 4001 := by
  have a : 10 ^ f ≤ 16 ^ 1000 := Nat.le_trans (Nat.pow_le_pow_left (by decide) f) (Nat.pow_le_pow_right (by decide) h)
  have b : (16 : Nat) ^ 1000 = 2 ^ 4000 := by rw [show (16 : Nat) = 2 ^ 4 by decide, ← Nat.pow_mul]
  have c : (2 : Nat) ^ 4000 < 2 ^ 4001 := Nat.pow_lt_pow_right (by decide) (by decide)
  omega
theorem pow_up {a : Nat} {k m : Nat} (h : a < 2 ^ k) (hk : k ≤ m) : a < 2 ^ m := Nat.lt_of_lt_of_le h (Nat.pow_le_pow_right (by decide) hk)

section
variable {P : Program} {w : World} {K : PySem.W.Frag} {mg : Str → Option Value} {base : Heap}
abbrev s_low : Stmt := top 24
theorem sc_low : FnScope ["_law_up", "_law_down", "_law_one", "_law_two", "_law_rest"] ["_law_up", "_law_down"] (defScope s_low) := ⟨rfl, rfl, rfl, by decide +kernel, rfl, by decide +kernel, by decide +kernel⟩
abbrev psL : List Str := ["_law_up", "_law_down"]
theorem ok_low {f : Addr} {fd : FuncData} (F : Fun K "_law_low" "_law_low" s_low f fd) (T : TxtD K mg) : FnOk P w K mg base CX0 1 f fd psL spLow := by
  refine F.ok sc_low (fun vs H Q E h => ?_) (fun cdv A outer s H vs Q E hr h => ?_)
  · obtain ⟨a, ns, rfl, _⟩ := h
    rfl
  · obtain ⟨u, d, rfl, hu, hd, k⟩ := h
    refine ⟨_, (pss_cons (ps_if (pt_cmpR op_eq (pv 1) pe_int (nomark _)) (pss_one (ps_ret (pe_tup (pa_cons pe_int (pa_cons pe_int pa_nil))))) pss_nil)
  (pss_cons (ps_set (i := 2) sc_low.nd rfl (Or.inl rfl) (pe_callB (call_max2 rfl) (by rfl) T.max (by decide +kernel) (pa_cons (pv 0) (pa_cons (pe_un un_neg (pv 0)) pa_nil))))
  (pss_cons (ps_set (i := 3) sc_low.nd rfl (Or.inl rfl) (pe_callB (call_max2 rfl) (by rfl) T.max (by decide +kernel) (pa_cons (pv 1) (pa_cons (pe_un un_neg (pv 1)) pa_nil))))
  (pss_cons (ps_while PassesOwn.never (pt_cmpR op_gt (pv 3) pe_int (nomark _)) (pss_cons (ps_set (i := 4) sc_low.nd rfl (Or.inl rfl) (pe_op op_mod (pe_callTy call_int1 (by rfl) T.int (by decide +kernel) (pa_cons (pv 2) pa_nil)) (pv 3)))
  (pss_cons (ps_set (i := 2) sc_low.nd rfl (Or.inl rfl) (pv 3))
  (pss_one (ps_set (i := 3) sc_low.nd rfl (Or.inl rfl) (pv 4))))))
  (C8.pss_cut (ps_if (pt_cmpR op_lt (pv 1) pe_int (nomark _)) (pss_one (ps_set (i := 2) sc_low.nd rfl (Or.inl rfl) (pe_un un_neg (pv 2)))) pss_nil)
  (pss_one (ps_ret (pe_tup (pa_cons (pe_op op_fdivZ (pv 0) (pv 2)) (pa_cons (pe_op op_fdivZ (pv 1) (pv 2)) pa_nil)))))))))), ?_⟩
    refine ⟨_, rfl, rfl, _, rfl, ite2 (fun h0 => ?_) (fun h0 => ?_)⟩
    · refine ⟨by show 2 ≤ sizeLine; decide, fun p hp => ?_⟩
      have e := k p hp
      unfold lowP at e
      rw [if_pos (int_eq h0)] at e
      exact e
    have d0 : d ≠ 0 := int_ne h0
    refine ⟨_, rfl, _, rfl, _, rfl, _, _, rfl, ?_⟩
    refine ⟨_, rfl, _, rfl, _, rfl, _, _, rfl, ?_⟩
    have ea : ∀ z : Int, (if -z > z then -z else z) = ((z.natAbs : Nat) : Int) := fun z => by
      by_cases q : -z > z
      · rw [if_pos q]; omega
      · rw [if_neg q]; omega
    rw [ea u, ea d]
    refine while_by (fun σ H' => H' = H ∧ ∃ (a b : Nat) (v : Option V), σ = [some (.int u), some (.int d), some (.int a), some (.int b), v] ∧ Nat.gcd a b = Nat.gcd u.natAbs d.natAbs) (fun σ _ => match σ with | [_, _, _, some (.int b), _] => b.toNat | _ => 0)
      ⟨rfl, u.natAbs, d.natAbs, none, rfl, rfl⟩ ?_ ?_
    · rintro σ H' ⟨rfl, a, b, v, rfl, hg⟩
      refine ⟨_, rfl, _, _, rfl, rfl, _, rfl, ite2 (fun hb => ?_) (fun hb => ?_)⟩
      · have b0 : (0 : Int) < b := of_decide_eq_true hb
        refine ⟨_, rfl, .inl ⟨_, rfl, _, rfl, _, _, rfl, rfl, b0, ?_⟩⟩
        refine ⟨_, rfl, _, rfl, ⟨rfl, b, a % b, some (.int ((a % b : Nat) : Int)), rfl, ?_⟩, ?_⟩
        · rw [Nat.gcd_comm, ← Nat.gcd_rec, Nat.gcd_comm]
          exact hg
        · show ((a : Int) % (b : Int)).toNat < (b : Int).toNat
          have := Int.emod_lt_of_pos (a : Int) b0
          have := Int.emod_nonneg (a : Int) (show (b : Int) ≠ 0 by omega)
          omega
      · have b0 : b = 0 := by
          have : ¬ (0 : Int) < b := fun z => hb (decide_eq_true z)
          omega
        subst b0
        rw [Nat.gcd_zero_right] at hg
        subst hg
        -- if down < 0: one = -one
        refine ⟨fun σ H2 => H2 = H' ∧ ∃ (v w : Option V), σ = [some (.int u), some (.int d), some (.int (lowG u d)), v, w], ?_, ?_⟩
        · refine ⟨_, rfl, _, _, rfl, rfl, _, rfl, ite2 (fun hq => ?_) (fun hq => ?_)⟩
          · refine ⟨_, rfl, _, rfl, rfl, some (.int ((0 : Nat) : Int)), v, ?_⟩
            have e : lowG u d = -((Nat.gcd u.natAbs d.natAbs : Nat) : Int) := if_pos (of_decide_eq_true hq)
            rw [e]
            rfl
          · refine ⟨rfl, some (.int ((0 : Nat) : Int)), v, ?_⟩
            have e : lowG u d = ((Nat.gcd u.natAbs d.natAbs : Nat) : Int) := if_neg (fun z => hq (decide_eq_true z))
            rw [e]
        · rintro σ H2 ⟨rfl, v, w, rfl⟩
          have gb : (lowG u d).natAbs < 2 ^ 9000 := by
            rw [lowG_abs]
            exact Nat.lt_of_le_of_lt (Nat.le_of_dvd (by omega) (Nat.gcd_dvd_right _ _)) hd
          refine ⟨_, rfl, _, rfl, _, _, rfl, rfl, ⟨lowG_ne d0, gb⟩, _, rfl, _, rfl, _, _, rfl, rfl, ⟨lowG_ne d0, gb⟩, by show 2 ≤ sizeLine; decide, fun p hp => ?_⟩
          have e := k p hp
          unfold lowP at e
          rw [if_neg d0] at e
          exact e
    · rintro σ H' Q1 Q2 hq ⟨v, e1, i, j, e2, e3, b, e4, q⟩
      exact ⟨v, e1, i, j, e2, e3, b, e4, hq _ _ q⟩
end
end K00

set_option Elab.async false
set_option linter.all false
set_option maxRecDepth 100000
set_option maxHeartbeats 4000000
namespace K00
open PySem L2
/-! ### data: what a value is, at any depth -/
inductive D where
  | non | bl (b : Bool) | int (i : Int) | str (s : Str) | tup (l : List D) | lst (l : List D) | dct
mutual
inductive Val (K : PySem.W.Frag) (st : Addr) (H : Hp) : V → D → Prop
  | non : Val K st H .non .non
  | bl (b : Bool) : Val K st H (.bl b) (.bl b)
  | int (i : Int) : Val K st H (.int i) (.int i)
  | str (s : Str) : Val K st H (.str s) (.str s)
  | tup {a : Addr} {xs : List V} {ds : List D} (h : SqT K H a xs) (r : ValAll K st H xs ds) : Val K st H (.ref a) (.tup ds)
  | lst {a : Addr} {xs : List V} {ds : List D} (n : a ≠ st) (h : SqL K H a xs) (r : ValAll K st H xs ds) : Val K st H (.ref a) (.lst ds)
  | dct {a : Addr} (n : a ≠ st) (h : H a = some (.dK [])) : Val K st H (.ref a) .dct
inductive ValAll (K : PySem.W.Frag) (st : Addr) (H : Hp) : List V → List D → Prop
  | nil : ValAll K st H [] []
  | cons {v : V} {vs : List V} {d : D} {ds : List D} (h : Val K st H v d) (r : ValAll K st H vs ds) : ValAll K st H (v :: vs) (d :: ds)
end
section
variable {K : PySem.W.Frag} {st : Addr} {H H' : Hp}
theorem sqL_same {a : Addr} {xs : List V} (e : ∀ b o, b ≠ st → H b = some o → H' b = some o) (n : a ≠ st) (h : SqL K H a xs) : SqL K H' a xs := by
  rcases h with (h | ⟨o, h⟩) | h
  · exact .inl (.inl (e _ _ n h))
  · exact .inl (.inr ⟨o, e _ _ n h⟩)
  · exact .inr h
mutual
theorem Val.mono (e : ∀ b o, b ≠ st → H b = some o → H' b = some o) (ht : ∀ a xs, SqT K H a xs → SqT K H' a xs) : ∀ {v : V} {d : D}, Val K st H v d → Val K st H' v d
  | _, _, .non => .non
  | _, _, .bl b => .bl b
  | _, _, .int i => .int i
  | _, _, .str s => .str s
  | _, _, .tup h r => .tup (ht _ _ h) (ValAll.mono e ht r)
  | _, _, .lst n h r => .lst n (sqL_same e n h) (ValAll.mono e ht r)
  | _, _, .dct n h => .dct n (e _ _ n h)
theorem ValAll.mono (e : ∀ b o, b ≠ st → H b = some o → H' b = some o) (ht : ∀ a xs, SqT K H a xs → SqT K H' a xs) : ∀ {vs : List V} {ds : List D}, ValAll K st H vs ds → ValAll K st H' vs ds
  | _, _, .nil => .nil
  | _, _, .cons h r => .cons (Val.mono e ht h) (ValAll.mono e ht r)
end
theorem Val.ext {v : V} {d : D} (hs : StAt H st) (x : Ext st H H') (h : Val K st H v d) : Val K st H' v d := h.mono x.old fun _ _ => sqT_ext hs x
theorem Val.same {v : V} {d : D} (x : Same H H') (h : Val K st H v d) : Val K st H' v d := h.mono (fun b o _ q => x b o q) fun _ _ => sqT_same x
theorem ValAll.same {vs : List V} {ds : List D} (x : Same H H') (h : ValAll K st H vs ds) : ValAll K st H' vs ds := h.mono (fun b o _ q => x b o q) fun _ _ => sqT_same x
theorem ValAll.ext {vs : List V} {ds : List D} (hs : StAt H st) (x : Ext st H H') (h : ValAll K st H vs ds) : ValAll K st H' vs ds := h.mono x.old fun _ _ => sqT_ext hs x
theorem ValAll.length : ∀ {vs : List V} {ds : List D}, ValAll K st H vs ds → vs.length = ds.length
  | _, _, .nil => rfl
  | _, _, .cons _ r => congrArg (· + 1) r.length
theorem ValAll.get : ∀ {vs : List V} {ds : List D} {i : Nat} {v : V}, ValAll K st H vs ds → vs[i]? = some v → ∃ d, ds[i]? = some d ∧ Val K st H v d
  | _, _, _, _, .nil, e => by simp at e
  | _, _, 0, _, .cons h _, e => ⟨_, rfl, by cases (Option.some.inj e); exact h⟩
  | _, _, i + 1, v, .cons _ r, e => by
    obtain ⟨d, h1, h2⟩ := ValAll.get (i := i) (v := v) r (by simpa using e)
    exact ⟨d, by simpa using h1, h2⟩
theorem ValAll.getD : ∀ {vs : List V} {ds : List D} {i : Nat} {d : D}, ValAll K st H vs ds → ds[i]? = some d → ∃ v, vs[i]? = some v ∧ Val K st H v d
  | _, _, _, _, .nil, e => by simp at e
  | _, _, 0, _, .cons h _, e => ⟨_, rfl, by cases (Option.some.inj e); exact h⟩
  | _, _, i + 1, v, .cons _ r, e => by
    obtain ⟨d, h1, h2⟩ := ValAll.getD (i := i) r (by simpa using e)
    exact ⟨d, by simpa using h1, h2⟩
theorem RatV.val {v : V} {n d : Int} (h : RatV K H v n d) : Val K st H v (.tup [.int n, .int d]) := by
  obtain ⟨a, rfl, h⟩ := h
  exact .tup h (.cons (.int _) (.cons (.int _) .nil))
def tyN : D → String
  | .non => "NoneType" | .bl _ => "bool" | .int _ => "int" | .str _ => "str" | .tup _ => "tuple" | .lst _ => "list" | .dct => "dict"
theorem Val.ty {v : V} {d : D} (h : Val K st H v d) : TyX K H v (.type (tyN d)) := by
  cases h with
  | non => exact .base .non
  | bl b => exact .base (.bl b)
  | int i => exact .base (.int i)
  | str s => exact .base (.str s)
  | tup h r =>
    rcases h with (h | ⟨o, h⟩) | ⟨o, its, n, h, c, _⟩
    · exact .base (.tup h)
    · exact .fTuple h
    · exact .kTuple h c
  | lst n h r =>
    rcases h with (h | ⟨o, h⟩) | ⟨o, its, n, h, c, _⟩
    · exact .base (.lst h)
    · exact .base (.frz h)
    · exact .kList h c
  | dct n h => exact .base (.dK h)
/-- the built-in classes that are asked -/
inductive Ty where
  | int | bool | str | list | tuple | dict
def Ty.nm : Ty → String
  | .int => "int" | .bool => "bool" | .str => "str" | .list => "list" | .tuple => "tuple" | .dict => "dict"
/-- isinstance(v, c) -/
def isC : Ty → D → Bool
  | .int, .bl _ => true
  | .bool, .bl _ => true
  | .int, .int _ => true
  | .str, .str _ => true
  | .tuple, .tup _ => true
  | .list, .lst _ => true
  | .dict, .dct => true
  | _, _ => false
theorem isC_kit (c : Ty) (d : D) : PySem.W.kitOne K (.type (tyN d)) (.type c.nm) = some (isC c d) := by
  have k : ∀ (a b : String) (r : Bool), kitB a b = some r → PySem.W.kitOne K (.type a) (.type b) = some r := fun a b r h => kit_ty h
  cases d with
  | non => cases c <;> exact k "NoneType" _ false (by decide +kernel)
  | bl b => cases c <;> first | exact k "bool" _ false (by decide +kernel) | exact k "bool" _ true (by decide +kernel)
  | int b => cases c <;> first | exact k "int" _ false (by decide +kernel) | exact k "int" _ true (by decide +kernel)
  | str b => cases c <;> first | exact k "str" _ false (by decide +kernel) | exact k "str" _ true (by decide +kernel)
  | tup b => cases c <;> first | exact k "tuple" _ false (by decide +kernel) | exact k "tuple" _ true (by decide +kernel)
  | lst b => cases c <;> first | exact k "list" _ false (by decide +kernel) | exact k "list" _ true (by decide +kernel)
  | dct => cases c <;> first | exact k "dict" _ false (by decide +kernel) | exact k "dict" _ true (by decide +kernel)
theorem isi_rd {v : V} {d : D} (c : Ty) {Q : VK} (h : Val K st H v d) (q : Q (.bl (isC c d)) H) : rIsi K [v, .ty c.nm] H Q :=
  ⟨v, .ty c.nm, _, _, _, rfl, .ty c.nm, h.ty, isC_kit c d, q⟩
end
/-- x is True, x is False -/
theorem op_isB {X : Cx} : OpR X (compareOp .Is) (fun x y H Q => ∃ b, y = .bl b ∧ Q (.bl (decide (x = .bl b))) H) := by
  intro pins s σ H x y v u Q I rx ry h
  obtain ⟨b, rfl, q⟩ := h
  cases (show u = Value.bool b from ry)
  have other : x ≠ .bl b → PySem.plainIs v (Value.bool b) = true → v ≠ Value.bool b → wpAny (model X.prog X.w) X.A (compareOp .Is v (Value.bool b)) (EP X pins σ Q) X.xe s := fun hx e hv =>
    wpAny_is_other e hv ⟨.bl false, H, I, rfl, by rw [decide_eq_false hx] at q; exact q⟩
  cases x with
  | bl a =>
    cases (show v = Value.bool a from rx)
    by_cases e : a = b
    · subst e
      exact wpAny_is_self rfl ⟨.bl true, H, I, rfl, by simpa using q⟩
    · exact wpAny_is_other rfl (fun z => e (Value.bool.inj z)) ⟨.bl false, H, I, rfl, by simpa [e] using q⟩
  | non => cases rx; exact other (by intro z; cases z) rfl (by intro z; cases z)
  | int i => obtain ⟨t, rfl⟩ := rx; exact other (by intro z; cases z) rfl (by intro z; cases z)
  | str i => obtain ⟨t, rfl⟩ := rx; exact other (by intro z; cases z) rfl (by intro z; cases z)
  | byt i => obtain ⟨t, rfl⟩ := rx; exact other (by intro z; cases z) rfl (by intro z; cases z)
  | flt i => obtain ⟨t, rfl⟩ := rx; exact other (by intro z; cases z) rfl (by intro z; cases z)
  | ref i => cases rx; exact other (by intro z; cases z) rfl (by intro z; cases z)
  | ty i => cases rx; exact other (by intro z; cases z) rfl (by intro z; cases z)
end K00

set_option Elab.async false
set_option linter.all false
set_option maxRecDepth 100000
set_option maxHeartbeats 4000000
namespace K00
open PySem L2
/-- nothing below the depth n but None, bools, ints, texts -/
def Fit : Nat → D → Prop
  | _, .non => True
  | _, .bl _ => True
  | _, .int _ => True
  | _, .str _ => True
  | n + 1, .tup ds => ds.length ≤ 100000 ∧ ∀ d ∈ ds, Fit n d
  | n + 1, .lst ds => ds.length ≤ 100000 ∧ ∀ d ∈ ds, Fit n d
  | _, _ => False
def spSame (K : PySem.W.Frag) : Nat → Sp
  | 0 => fun _ _ _ _ => False
  | n + 1 => fun vs H Q _ => ∃ (st : Addr) (g e : V) (d : D), vs = [g, e] ∧ Val K st H g d ∧ Val K st H e d ∧ Fit n d ∧ ∀ H', Same H H' → Q (.bl true) H'
def isIntD : D → Bool
  | .int _ => true
  | _ => false
def spIsInt (K : PySem.W.Frag) : Sp := fun vs H Q _ => ∃ (st : Addr) (v : V) (d : D), vs = [v] ∧ Val K st H v d ∧ Q (.bl (isIntD d)) H
theorem ite_ne {i j : Int} {A B : Prop} (h : i ≠ j) (a : A) : if (!decide (V.int i = V.int j)) = true then A else B := by
  rw [decide_eq_false (fun z => h (V.int.inj z))]
  exact iteT a
theorem ite_nn {i j : Int} {A B : Prop} (h : i = j) (b : B) : if (!decide (V.int i = V.int j)) = true then A else B := by
  rw [decide_eq_true (by rw [h])]
  exact iteF b
theorem rIx_at {K : PySem.W.Frag} {H : Hp} {a : Addr} {xs : List V} {j : Nat} {v : V} {Q : VK} (h : SqL K H a xs ∨ SqT K H a xs) (hj : xs[j]? = some v) (q : Q v H) : rIx K (.ref a) (.int (j : Int)) H Q := by
  rcases h with h | h
  · exact .inl ⟨a, _, _, v, rfl, rfl, h, atI_nat hj, q⟩
  · exact .inr (.inl ⟨a, _, _, v, rfl, rfl, h, atI_nat hj, q⟩)
end K00

set_option Elab.async false
set_option linter.all false
set_option maxRecDepth 100000
set_option maxHeartbeats 4000000
namespace K00
open PySem L2
/-! ### an own error whose __init__ hands a text on to super().__init__ and keeps one thing -/
def spTold (K : PySem.W.Frag) : Sp := fun vs H Q _ => ∃ (st : Addr) (v : V) (d : D), vs = [v] ∧ Val K st H v d ∧ (∀ z, d = .str z → z.length ≤ 1000) ∧ ∀ z : Str, z.length ≤ 2000 → Q (.str z) H
section
variable {P : Program} {w : World} {K : PySem.W.Frag} {mg : Str → Option Value} {base : Heap}
abbrev s_p_told : Stmt := top 2
theorem sc_p_told : FnScope ["value"] ["value"] (defScope s_p_told) := ⟨rfl, rfl, rfl, by decide +kernel, rfl, by decide +kernel, by decide +kernel⟩
theorem ok_told {f : Addr} {fd : FuncData} (F : Fun K "_told" "_told" s_p_told f fd) (T : TxtD K mg) : FnOk P w K mg base CX0 1 f fd ["value"] (spTold K) := by
  refine F.ok sc_p_told (fun vs H Q E h => ?_) (fun cdv A outer s H vs Q E hr h => ?_)
  · obtain ⟨_, _, _, rfl, _⟩ := h
    rfl
  · obtain ⟨st, v, d, rfl, hv, hz, k⟩ := h
    refine ⟨_, pss_one (ps_ret (pe_ifExp (pt_val (pe_callB call_isi (by rfl) T.isinstance (by decide +kernel) (pa_cons (pv 0) (pa_cons (pe_bltn (v := .ty "str") (by rfl) T.str (by decide +kernel) rfl) pa_nil)))) (pe_joined (PJ.cons pe_str (PJ.cons (pe_fmt (pv 0)) PJ.nil))) pe_str)), ?_⟩
    refine ⟨_, rfl, _, _, _, _, _, rfl, .ty _, hv.ty, isC_kit .str _, _, rfl, ?_⟩
    have e0 : ∀ z : Str, (Str.empty ++ (": " : Str) ++ z).length = 2 + z.length := fun z => by
      show ((#[] ++ (": " : Str).cps) ++ z.cps).size = 2 + z.cps.size
      rw [Array.size_append, Array.size_append]
      rfl
    cases hv with
    | str z =>
      have hz' := hz z rfl
      refine iteT ⟨_, rfl, by show _ ≤ sizeLine; decide +kernel, _, rfl, .inl ⟨z, rfl, by rw [sizeLine_eq]; omega, _, rfl, ?_, ?_⟩⟩
      · rw [e0, sizeLine_eq]; omega
      · exact k _ (by rw [e0]; omega)
    | non => exact iteF (k _ (by decide +kernel))
    | bl b => exact iteF (k _ (by decide +kernel))
    | int i => exact iteF (k _ (by decide +kernel))
    | tup h r => exact iteF (k _ (by decide +kernel))
    | lst n h r => exact iteF (k _ (by decide +kernel))
    | dct n h => exact iteF (k _ (by decide +kernel))
end
end K00

set_option Elab.async false
set_option linter.all false
set_option maxRecDepth 100000
set_option maxHeartbeats 4000000
namespace K00
open PySem L2
/-! ### such an __init__ as a def: its frame -/
section
open PySem.W PySem.Calls PyProof.Rows
variable {P : Program} {w : World} {K : Frag} {mg : Str → Option Value} {base : Heap}
/-- what the written part says of the def at f, whose class is the one at D -/
structure InitF (P : Program) (K : Frag) (mg : Str → Option Value) (st : Stmt) (qual : Str) (D f : Addr) (fd : FuncData) : Prop where
  ex : ∃ (oc : Value) (od : Option Addr) (dV kV doc pm : Value) (an : Option Addr) (cda : Addr) (ct : Value) (cc : Addr) (osl : Array (Option Value)) (ccl : Value) (cdd : Option Addr) (vs : Array Value) (ccs : Array (Option Value)) (file : Str) (tf : Tok) (cl : Value) (cld : Option Addr) (csl : Array (Option Value)) (cdD : ClassData),
    fd = ksFn "__init__" qual (defArgs st) (defBody st) (defScope st) dV kV doc pm an (.ref cda) ct cc ∧ K.lookup f = some ⟨oc, od, .func fd, osl⟩ ∧ codeIn K (.ref cda) qual = true ∧
    K.lookup cda = some ⟨ccl, cdd, .fields vs, ccs⟩ ∧ vs[2]? = some (.str file tf) ∧ ((P.main.file : Str) == file) = true ∧ K.lookup cc = some ⟨cl, cld, .cell (some (.ref D)), csl⟩ ∧ clsIn K D = some cdD
  su : mg "super" = none
  tp : nsIn K cStatics "thirdparty.any" = some none
  top : (P.main.scope.names.lookup ("super" : Str)).isSome = false
/-- what it says of a class whose instances it makes -/
structure ExcOf (K : Frag) (D C : Addr) : Prop where
  oex : OexC K C
  sub : mroIn K C (.ref D) = some true
  sup : ks_superIn K C D "__init__" = some (some (.builtin "ValueError.__init__"))
  ve : subIn K (.ref C) (.type "ValueError") = some true
def cxI (P : Program) (w : World) (K : Frag) (mg : Str → Option Value) (base : Heap) (N : List Str) (env : Env) (A : Around) (outer : List Env) (s : Shared) (H : Hp) : Cx where
  prog := P
  w := w
  K := K
  mg := mg
  base := base
  A := A.deeper env
  N := N
  s_0 := s
  H_0 := H
  env := env
  outer := outer
  stack := env :: outer
  ex := []
  fn := fun _ => false
  calm := true
  pn := []
  xe := fun _ _ => False
theorem one_cell {cc : Addr} {x : Str} {c : Addr} (h : ([(("__class__" : Str), cc)] : List (Str × Addr)).lookup x = some c) : x = ("__class__" : Str) ∧ c = cc := by
  by_cases e : x = ("__class__" : Str)
  · subst e
    simp [List.lookup] at h
    exact ⟨rfl, h.symm⟩
  · have q : (x == ("__class__" : Str)) = false := by simpa using e
    simp [List.lookup, q] at h
/-- the frame, at the entry -/
theorem inv_init {qual : Str} {scope : Scope} {f cc cda : Addr} {A : Around} {outer : List Env} {s : Shared} {H : Hp} {h₀ : Heap} {tk : Nat} {N : List Str} {σ : L2.St} {m : Str → Option Value} {ocell : Obj}
    (hk : scope.kind = .function)
    (hfree : ∀ z, scope.names.lookup z = some .cell ∨ scope.names.lookup z = some .free → z = ("__class__" : Str))
    (hd : A.handled = none) (e0 : Env0 P w K mg base A outer s H)
    (hcell : s.heap.get? cc = some ocell ∧ H cc = none ∧ ∃ v, ocell.data = .cell v) (hlen : σ.length = N.length)
    (hl : ∀ (i : Nat) (z : Str) (q : V), N[i]? = some z → σ[i]? = some (some q) → ∃ u, RelV q u ∧ scope.names.lookup z = some .local ∧ m z = some u)
    (hns : h₀.Ns s.heap.objs.size m) (hkeep : ∀ b o, s.heap.get? b = some o → h₀.get? b = some o) :
    Inv (cxI P w K mg base N (ksEnv qual scope s.heap.objs.size f (.ref cda) cc) A outer s H) [] σ H { s with heap := h₀, toks := tk } := by
  obtain ⟨hc, hc2, hc3⟩ := hcell
  have noA : ∀ b : Addr, b ∉ (cxI P w K mg base N (ksEnv qual scope s.heap.objs.size f (.ref cda) cc) A outer s H).ex := fun b z => absurd (show b ∈ ([] : List Addr) from z) (by simp)
  refine ⟨⟨e0.mod, hk, rfl, rfl, Nat.le_refl _, fun a b c h1 h2 => ?_, fun a ha => ?_, fun a c h => absurd h Bool.false_ne_true, fun _ => hd, Around.frames_deeper e0.frames, .inr ⟨rfl, rfl⟩, fun b z => absurd z (noA b), e0.bs, e0.bsz, fun b _ _ => noA b, fun b z => absurd z (noA b), e0.funs, e0.frf⟩,
    rfl, e0.bare, Un.kept hkeep, ⟨_, hns, fun i z q h1 h2 h3 => ?_⟩, fun a c h => ?_, e0.hok.fresh (Nat.le_refl _), fun a c h => ?_, fun p hp => absurd (show p ∈ ([] : List (Addr × Obj)) from hp) (by simp), e0.hok.kept hkeep, hlen⟩
  · exact (one_cell h1).1.trans (one_cell h2).1.symm
  · have ea := hfree a ha
    subst ea
    exact ⟨cc, by show ([(("__class__" : Str), cc)] : List (Str × Addr)).lookup ("__class__" : Str) = some cc; simp [List.lookup]⟩
  · obtain ⟨u, ru, a, b⟩ := hl i z q h1 h2
    exact ⟨u, ru, .inl ⟨a, b⟩⟩
  · obtain ⟨_, e⟩ := one_cell h
    subst e
    obtain ⟨v, hv⟩ := hc3
    exact ⟨v, ocell, hkeep _ _ hc, hv⟩
  · obtain ⟨_, e⟩ := one_cell h
    subst e
    exact hc2

/-- the wrapper of ValueError.__init__, bound to the error at a, is called: nothing of it is told -/
theorem mw_call {X : Cx} {pins : List (Addr × Obj)} {σ : L2.St} {H : Hp} {s : Shared} {A : Around} {E : Value → Shared → Prop} {a C u : Addr} {us : List Value} {Q : Value → Shared → Prop} (T : OexC X.K C) (I : L2.Inv X pins σ H s) (e : H a = some (exo a C none))
    (hu : s.heap.get? u = some (kxs_mw "ValueError.__init__" a)) (hl : us.length ≤ sizeLine) (h : ∀ s', L2.Inv X pins σ H s' → Q .none s') : wpAny (model X.prog X.w) A (call (.ref u) us) Q E s := by
  obtain ⟨nm, q, N, bs, bm, sn, sub, ab, col, dd, k0, k1, k2, k3, k5, hC, _⟩ := T.cls
  obtain ⟨t1, ho⟩ := exo_at I.hok e
  have hC' := I.kIn _ _ hC
  have fin : ∀ h', (∀ b o, b ≠ a → s.heap.get? b = some o → h'.get? b = some o) → (∃ t2 : Addr, h'.get? a = some ({ cls := .ref C, dict := none, data := .fields #[.ref t2, .none, .none, .none, .bool false, .none] } : Obj)) → Q .none { s with heap := h' } := fun h' k ⟨t2, hx⟩ => by
    have J := I.write (t' := s.toks) (x := a) (e := a) (o := exo a C none) (by rw [e]; exact True.intro) (.inl rfl) k ⟨_, hx⟩ (exo_ok hx)
    have eu : upd H a (exo a C none) = H := funext fun b => by
      by_cases hb : b = a
      · rw [hb, upd_same, e]
      · rw [upd_ne hb]
    rw [eu] at J
    exact h _ J
  obtain ⟨hh, g, d, tk, os⟩ := s
  have mw : (kxs_mw "ValueError.__init__" a).data = .fields #[.builtin "ValueError.__init__", .ref a] := rfl
  refine wpAny_call (codeAny_of_tree ?_)
  show wpAny _ A.in1 (callAny (.ref u) ⟨us, []⟩) _ _ _
  simp only [callAny]
  refine wpAny_bind (wpAny_load hu ?_)
  have two : ((Value.type "method-wrapper" == Value.type "method") || (Value.type "method-wrapper" == Value.type "builtin_function_or_method") || (Value.type "method-wrapper" == Value.type "method-wrapper")) = true := by decide
  dsimp only [kxs_mw]
  rw [if_pos two]
  refine KFB.if_so (by decide) ?_
  refine wpAny_bind (check_bound_init F.excBase_ValueError.toExcCallFacts hC' ho rfl ?_)
  refine wpAny_bind (wpAny_pure (wpAny_pure ?_))
  refine ⟨plainId_quiet F.excBase_ValueError.init.plain _, codeAny_builtin F.excBase_ValueError.initEntry ?_⟩
  exact exc_init_tree (cls := .ref C) (t0 := t1) (dv := none) (c2 := .none) (c3 := .none) (b4 := .bool false) ho hl fun h' k hx _ => fin h' k ⟨_, hx⟩

theorem super_stmt {qual : Str} {scope : Scope} {f cc cda D a C : Addr} {A : Around} {outer : List Env} {s0 s : Shared} {H0 H : Hp} {Nr : List Str} {σr : L2.St} {body : List Stmt} {st : Stmt} {dV kV doc pm ct oc ccl cl : Value} {an od cdd cld : Option Addr} {osl ccs csl : Array (Option Value)} {vs : Array Value} {file : Str} {tf : Tok} {cdD : ClassData}
    {p0 p1 p2 p3 p4 : Pos} {js : List Expr} {pj : Pos} {ta : TA} {ar : Arg} {pl : Sem Bool}
    (I : L2.Inv (cxI P w K mg base ("self" :: Nr) (ksEnv qual scope s0.heap.objs.size f (.ref cda) cc) A outer s0 H0) [] (some (.ref a) :: σr) H s) (X : ExcOf K D C) (ea : H a = some (exo a C none))
    (hk : scope.kind = .function) (hks : scope.names.lookup ("super" : Str) = some .globalImplicit) (hkc : scope.names.lookup ("__class__" : Str) = some .free) (ls : scope.names.lookup ("self" : Str) = some .local)
    (ho : K.lookup f = some ⟨oc, od, .func (ksFn "__init__" qual (defArgs st) body scope dV kV doc pm an (.ref cda) ct cc), osl⟩) (har : ((defArgs st).posonlyargs ++ (defArgs st).args).head? = some ar) (hself : ar.arg = ("self" : Str))
    (hcode : K.lookup cda = some ⟨ccl, cdd, .fields vs, ccs⟩) (hvs : vs[2]? = some (.str file tf)) (hfile : ((P.main.file : Str) == file) = true) (hcell : K.lookup cc = some ⟨cl, cld, .cell (some (.ref D)), csl⟩) (hD : clsIn K D = some cdD)
    (su : mg "super" = none) (tp : nsIn K cStatics "thirdparty.any" = some none) (htop : (P.main.scope.names.lookup ("super" : Str)).isSome = false)
    (ha : PA (cxI P w K mg base ("self" :: Nr) (ksEnv qual scope s0.heap.objs.size f (.ref cda) cc) A outer s0 H0) [.JoinedStr js pj] ta) (hta : ta (some (.ref a) :: σr) H fun vs H1 => H1 = H ∧ vs.length ≤ 1000)
    (hc : eval (.Call (.Attribute (.Call (.Name "super" p0) [] [] p1) "__init__" p2) [.JoinedStr js pj] [] p3) (ksEnv qual scope s0.heap.objs.size f (.ref cda) cc) = (do
      let ov ← attributeBase (.Call (.Name "super" p0) [] [] p1) "__init__" (ksEnv qual scope s0.heap.objs.size f (.ref cda) cc) (eval (.Call (.Name "super" p0) [] [] p1) (ksEnv qual scope s0.heap.objs.size f (.ref cda) cc))
      standAt p2.atName
      let (f', first) ← holding [ov] (getMethod ov "__init__" pl)
      callWith p3 f' first (backTo p3 (starEach [.JoinedStr js pj] (ksEnv qual scope s0.heap.objs.size f (.ref cda) cc))) []) := by rfl)
    (hi : interactive (ksEnv qual scope s0.heap.objs.size f (.ref cda) cc) = false := by rfl)
    (he : starEach [.JoinedStr js pj] (ksEnv qual scope s0.heap.objs.size f (.ref cda) cc) = [(false, eval (.JoinedStr js pj) (ksEnv qual scope s0.heap.objs.size f (.ref cda) cc))] := by rfl) :
    _root_.PySem.wpAt (model P w) (A.deeper (ksEnv qual scope s0.heap.objs.size f (.ref cda) cc)) (.func body (ksEnv qual scope s0.heap.objs.size f (.ref cda) cc))
      (exec (.Expr (.Call (.Attribute (.Call (.Name "super" p0) [] [] p1) "__init__" p2) [.JoinedStr js pj] [] p3) p4) (ksEnv qual scope s0.heap.objs.size f (.ref cda) cc))
      (fun fl s' => fl = .next ∧ L2.Inv (cxI P w K mg base ("self" :: Nr) (ksEnv qual scope s0.heap.objs.size f (.ref cda) cc) A outer s0 H0) [] (some (.ref a) :: σr) H s') (fun _ _ => False) s := by
  have KX : K.In s.heap := I.kIn
  obtain ⟨oD, hD1, hD2⟩ : ∃ oD, s.heap.get? D = some oD ∧ oD.data = .cls cdD := by
    unfold clsIn at hD
    split at hD
    · rename_i c d cd' sl hh
      cases hD
      exact ⟨_, KX _ _ hh, rfl⟩
    · cases hD
  obtain ⟨t1, hx⟩ := exo_at I.hok ea
  obtain ⟨m, hns, hl⟩ := I.loc
  obtain ⟨u, ru, hlook⟩ := hl 0 "self" (.ref a) rfl rfl (.inl ls)
  have ms : m "self" = some (.ref a) := by
    cases ru
    rcases hlook with ⟨_, e⟩ | ⟨e, _⟩
    · exact e
    · exfalso
      have e' : scope.names.lookup ("self" : Str) = some .cell ∨ scope.names.lookup ("self" : Str) = some .free := e
      rw [ls] at e'
      rcases e' with q | q <;> cases q
  obtain ⟨mb, hb1, hb2⟩ := I.mod.blt
  refine ks_wpAt_Expr_any (ks_wpAt_MethodCall ?_ hc) hi
  · refine ks_wpAt_super_base (env := ksEnv qual scope s0.heap.objs.size f (.ref cda) cc) hks hkc rfl rfl (KX _ _ ho) rfl har rfl (KX _ _ hcode) rfl hvs hfile htop ?_
    refine ks_loadName_global hk hks (loadGlobal_builtin (env := ksEnv qual scope s0.heap.objs.size f (.ref cda) cc) (I.mod.glob.keeps I.bk) su (hb1.keeps I.bk) ((hb2 _ (by decide +kernel)).trans Boot.«super») ⟨rfl, ?_⟩)
    refine wpAny_loadName_free hk hkc rfl ⟨_, KX _ _ hcell, rfl⟩ ?_
    rw [hself]
    refine wpAny_loadName_local hk ls hns ms ?_
    refine ks_wpAny_isType_cls hD1 hD2 ⟨rfl, ?_⟩
    obtain ⟨hh, g, d, tk, os⟩ := s
    refine ks_wpAny_call_super hD1 hD2 hx rfl (fun c q => by cases q) (looks_mroIn KX X.sub) (fun h1 e1 k1 => ?_)
    have I1 := I.kept (t' := tk) k1
    have KX1 : K.In h1 := I1.kIn
    have hx1 := k1 _ _ hx
    obtain ⟨nm, qn, N, bs, bm, sn, sub, ab, col, dd, k0, k2, k3, k4, k5, hCl, _⟩ := X.oex.cls
    have hne : a ≠ C := fun z => by
      have z1 := KX1 _ _ hCl
      rw [← z] at z1
      have z2 := z1.symm.trans hx1
      cases z2
    have J1 : InstAt h1 a ({ cls := .ref C, dict := none, data := .fields #[.ref t1, .none, .none, .none, .bool false, .none] } : Obj) C none := ⟨hx1, rfl, rfl, trivial⟩
    obtain ⟨cd, hcd, hal⟩ : ∃ cd, clsIn K C = some cd ∧ alongIn K "__init__" ((cd.mro.dropWhile (· != .ref D)).drop 1) = some (some (.builtin "ValueError.__init__")) := by
      have z := X.sup
      unfold ks_superIn at z
      cases q : clsIn K C with
      | none => rw [q] at z; cases z
      | some cd => rw [q] at z; exact ⟨cd, rfl, z⟩
    refine kxs_getMethod kxs_ValueError e1 (looks_opaque KX1 tp) (l₀ := cd.mro) (fun A Q E s k q => wpAny_bind ((looks_clsIn KX1 hcd) A _ E s k (wpAny_pure q))) rfl KX1 hal (J1.type.andThen (looks_subIn KX1 X.ve)) hne (by decide +kernel) ?_
    have I2 := I1.kept (t' := tk + 1) (h' := h1.push (kxs_mw "ValueError.__init__" a)) fun b o e => Heap.get?_push_of_some _ e
    have hu : (h1.push (kxs_mw "ValueError.__init__" a)).get? h1.objs.size = some (kxs_mw "ValueError.__init__" a) := Heap.get?_push_size _ rfl
    have I3 : L2.Inv (cxI P w K mg base ("self" :: Nr) (ksEnv qual scope s0.heap.objs.size f (.ref cda) cc) A outer s0 H0) [(h1.objs.size, kxs_mw "ValueError.__init__" a)] (some (.ref a) :: σr) H ⟨h1.push (kxs_mw "ValueError.__init__" a), g, d, tk + 1, os⟩ :=
      I2.pins_of fun p hp => by
        rw [List.mem_singleton] at hp
        subst hp
        exact ⟨hu, I1.hok.fresh (Nat.le_refl _), Nat.ne_of_gt I1.lt, I1.nofs (Nat.le_refl _), fun v q => by cases q⟩
    have hcall : wpAny (model P w) (A.deeper (ksEnv qual scope s0.heap.objs.size f (.ref cda) cc)) (spliced (backTo p3 (starEach [.JoinedStr js pj] (ksEnv qual scope s0.heap.objs.size f (.ref cda) cc)))) _ _ _ := ha.run p3 [(h1.objs.size, kxs_mw "ValueError.__init__" a)] _ _ H _ I3 hta
    rw [he] at hcall ⊢
    refine kxs_callWith (i := "ValueError.__init__") (x := a) rfl (evalArgs_plain ?_)
    refine wpAny_mono hcall (fun us s4 ⟨vs, H1, I4, rv, e4, hl4⟩ => ?_) fun _ _ z => z
    subst e4
    have hp4 := (I4.pin (h1.objs.size, kxs_mw "ValueError.__init__" a) (List.mem_append_right _ (List.mem_singleton.mpr rfl))).1
    refine ⟨hp4, mw_call X.oex I4 ea hp4 (by show us.length ≤ sizeLine; rw [← rv.length, sizeLine_eq]; omega) fun s' J => ⟨rfl, J.pins_of fun p hp => by cases hp⟩⟩
end
end K00

set_option Elab.async false
set_option linter.all false
set_option maxRecDepth 100000
set_option maxHeartbeats 4000000
namespace K00
open PySem L2
/-- an own __init__ keeps its parameters -/
def spInit (K : PySem.W.Frag) (D0 : Addr) (flds : List Str) : Sp := fun vs H Q _ => ∃ (a C st : Addr) (vals : List V) (ds : List D), vs = .ref a :: vals ∧ vals.length = flds.length ∧ ExcOf K D0 C ∧ (∀ f ∈ flds, PySem.W.findIn K (.ref C) f = some none) ∧ H a = some (exo a C none) ∧ ValAll K st H vals ds ∧
  (∀ z, D.str z ∈ ds → z.length ≤ 1000) ∧
  ∀ (dx : Addr) (H' : Hp), H dx = none → dx ≠ a → H' a = some (exo a C (some dx)) → H' dx = some (exd dx (flds.zip vals).reverse) → (∀ b, b ≠ a → b ≠ dx → H' b = H b) → Q .non H'
section
open PySem.W PySem.Calls PyProof.Rows
variable {P : Program} {w : World} {K : Frag} {mg : Str → Option Value} {base : Heap}
theorem vals_of : ∀ {vs : List V} {us : List Value} {n : Nat}, Vals vs us → vs.length = n → us.length = n := fun r h => by rw [← r.length]; exact h
theorem free_cc {scope : Scope} (q : ∀ p ∈ scope.names, p.2 = .cell ∨ p.2 = .free → p.1 = ("__class__" : Str)) : ∀ z, scope.names.lookup z = some .cell ∨ scope.names.lookup z = some .free → z = ("__class__" : Str) := fun z hz => by
  rcases hz with y | y
  · exact q _ (PySem.mem_of_lookup y) (.inl rfl)
  · exact q _ (PySem.mem_of_lookup y) (.inr rfl)
theorem el_of : ∀ (p z : Str), p.length ≤ 100 → z.length ≤ 2000 → (Str.empty ++ p ++ z).length ≤ sizeLine := fun p z hp hz => by
  show ((#[] ++ p.cps) ++ z.cps).size ≤ sizeLine
  rw [Array.size_append, Array.size_append, sizeLine_eq]
  show 0 + p.length + z.length ≤ 16777216
  omega
abbrev s_p_wk_init : Stmt := inClass (top 4) 0
theorem ok_p_wk_init {D0 f : Addr} {fd : FuncData} (IF : InitF P K mg s_p_wk_init "WrongKind.__init__" D0 f fd) (c_told : Callee P w K mg base CX0 1 "_told" ["value"] (spTold K)) : FnOk P w K mg base CX0 3 f fd ["self", "argument"] (spInit K D0 ["argument"]) := by
  obtain ⟨⟨oc, od, dV, kV, doc, pm, an, cda, ct, cc, osl, ccl, cdd, vs0, ccs, file, tf, cl, cld, csl, cdD, rfl, ho, hcd, hcode, hvs, hfile, hcell, hD⟩, su, tp, htop⟩ := IF
  refine ⟨fun vs H Q E h => ?_, fun A outer s H args us vs Q E hr e0 hb hv hsp => ?_⟩
  · obtain ⟨_, _, _, _, _, rfl, hl, _⟩ := h
    rw [List.length_cons, hl]
    rfl
  obtain ⟨a, C, st, vals, ds, rfl, hlv, X, hnf, ea, hval, hshort, k⟩ := hsp
  obtain ⟨v, rfl⟩ : ∃ v, vals = [v] := match vals, hlv with | [v], _ => ⟨v, rfl⟩
  obtain ⟨u0, u1, rfl, r0, r1⟩ : ∃ u0 u1, us = [u0, u1] ∧ L2.RelV (.ref a) u0 ∧ L2.RelV v u1 := by
    cases hv with
    | cons r0 t =>
      cases t with
      | cons r1 t =>
        cases t
        exact ⟨_, _, rfl, r0, r1⟩
  obtain ⟨d, rfl, hv1⟩ : ∃ d, ds = [d] ∧ Val K st H v d := by
    cases hval with
    | cons h r =>
      cases r
      exact ⟨_, rfl, h⟩
  have KX : K.In s.heap := e0.mod.kin.keeps fun b o e => (e0.bs b o e).1
  have lim : s.heap.NoLimit := e0.mod.nolimit.keeps fun b o e => (e0.bs b o e).1
  have hcB := e0.mod.kin _ _ hcell
  refine ks_codeAny_call_defAt (fd := ksFn "__init__" "WrongKind.__init__" (defArgs s_p_wk_init) (defBody s_p_wk_init) (defScope s_p_wk_init) dV kV doc pm an (.ref cda) ct cc) (body := defBody s_p_wk_init) (binds := [("self", u0), ("argument", u1)]) hr.depth (KX _ _ ho) rfl lim (codeRec_of KX hcd) rfl hb (by show ∀ x ∈ (defScope s_p_wk_init).names, x.2 ≠ .cell; decide +kernel) (fun x hx => by
    rcases List.mem_cons.mp hx with rfl | hx
    · rfl
    · rcases List.mem_cons.mp hx with rfl | hx
      · rfl
      · cases hx) (fun h₀ hns hkeep => ?_) rfl rfl rfl
  have I0 : L2.Inv (cxI P w K mg base ["self", "argument"] (ksEnv "WrongKind.__init__" (defScope s_p_wk_init) s.heap.objs.size f (.ref cda) cc) A outer s H) [] [some (.ref a), some v] H { s with heap := h₀, toks := s.toks + 2 } :=
    inv_init rfl (free_cc (by decide +kernel)) hr.hd e0 ⟨(e0.bs _ _ hcB).1, (e0.bs _ _ hcB).2, _, rfl⟩ rfl (fun i z q h1 h2 => by
      match i, h1, h2 with
      | 0, h1, h2 => cases h1; cases h2; exact ⟨_, r0, rfl, rfl⟩
      | 1, h1, h2 => cases h1; cases h2; exact ⟨_, r1, rfl, rfl⟩
      | i + 2, h1, h2 => cases h1) hns hkeep
  have hr1 : Room 1 (A.deeper (ksEnv "WrongKind.__init__" (defScope s_p_wk_init) s.heap.objs.size f (.ref cda) cc)) := hr.deeper _ |>.mono (by decide)
  have fin : ∀ {H' : Hp} {σ' : L2.St} {s' : Shared} {x : V} {u : Value}, L2.Inv (cxI P w K mg base ["self", "argument"] (ksEnv "WrongKind.__init__" (defScope s_p_wk_init) s.heap.objs.size f (.ref cda) cc) A outer s H) [] σ' H' s' → L2.RelV x u → Q x H' → L2.CE outer P w H s Q u s' :=
    fun {H' σ' s' x u} J rx q => ⟨x, H', J.os, J.bare, J.base, J.hok, rx, q⟩
  show _root_.PySem.wpAt _ _ _ (execs (_ :: _) _) _ _ _
  refine ks_wpAt_execs_cons (ks_wpAt_mono (super_stmt (body := defBody s_p_wk_init) (ta := tCons (fun σ H Q => tJs [tC (.str _), tFmt (tCall (spTold K) [] E0 (tCons (tVar 1) tNil))] Str.empty σ H fun out H1 => Q (.str out) H1) tNil) (ar := _) I0 X ea rfl rfl rfl rfl ho rfl rfl hcode hvs hfile hcell hD su tp htop
    (pa_cons (pe_joined (PJ.cons pe_str (PJ.cons (pe_fmt (pe_fn c_told hr1 (by rfl) pass0 (pa_cons (pv 1) pa_nil))) PJ.nil))) pa_nil) ?_) (fun fl s1 hfl => ?_) fun _ _ z => z.elim)
  · exact ⟨_, rfl, by show _ ≤ sizeLine; decide +kernel, _, rfl, st, v, d, rfl, hv1, fun z e => hshort z (by rw [e]; exact List.mem_singleton.mpr rfl), fun z hz => .inl ⟨z, rfl, by rw [sizeLine_eq]; omega, z, rfl, el_of _ _ (by decide +kernel) hz, rfl, (by decide : (1 : Nat) ≤ 1000)⟩⟩
  · obtain ⟨rfl, I1⟩ := hfl
    show _root_.PySem.wpAt _ _ _ (execs [_] _) _ _ _
    refine _root_.PySem.wpAt_of_wpAny (wpAny_mono ((pss_one (ps_ost (pv 0) (pv 1))).run [] s1 _ _ { nx := fun _ H' => Q .non H', rt := fun _ _ => False } I1 ?_) (fun fl s2 hs => ?_) fun _ _ z => z.elim)
    · refine ⟨_, rfl, _, rfl, a, C, rfl, X.oex, hnf _ (List.mem_singleton.mpr rfl), .inl ⟨ea, fun dx h1 h2 => k dx _ h1 h2 upd_same (by rw [upd_ne h2]; exact upd_same) fun b n1 n2 => by rw [upd_ne n1, upd_ne n2]⟩⟩
    cases fl with
    | next =>
      obtain ⟨σ', H', J, q⟩ := hs
      exact fin (x := V.non) (u := Value.none) J rfl q
    | ret u =>
      obtain ⟨_, _, _, _, _, q⟩ := hs
      exact q.elim
    | brk =>
      obtain ⟨_, _, _, q⟩ := hs
      exact q.elim
    | cont =>
      obtain ⟨_, _, _, q⟩ := hs
      exact q.elim
end
end K00

set_option Elab.async false
set_option linter.all false
set_option maxRecDepth 100000
set_option maxHeartbeats 4000000
namespace K00
open PySem L2
/-! ### an own error that is made, its dict beside it -/
section
open PyProof.Rows
variable {X : Cx}
/-- what is wanted of a class x whose __init__ keeps spInit -/
structure Err (P : Program) (w : World) (K : PySem.W.Frag) (mg : Str → Option Value) (base : Heap) (x : Str) (C : Addr) (flds : List Str) : Prop where
  oex : OexC K C
  at_ : mg x = some (.ref C)
  le : flds.length ≤ 100
  ini : ∃ (D0 fI : Addr) (fd : FuncData) (ps : List Str), ExcOf K D0 C ∧ PySem.W.findIn K (.ref C) "__init__" = some (some (.ref fI)) ∧ PySem.W.typeIn K (.ref fI) = some (.type "function") ∧
    (∀ f ∈ flds, PySem.W.findIn K (.ref C) f = some none) ∧ FnOk P w K mg base CX0 3 fI fd ps (spInit K D0 flds) ∧ Binds K fd ps []
theorem raise_call {pins : List (Addr × Obj)} {σ : L2.St} {H1 : Hp} {s1 : Shared} {x : Str} {C : Addr} {flds : List Str} {us : List Value} {vs : List V} {Q : XK}
    (R : Err X.prog X.w X.K X.mg X.base x C flds) (hr : Room 4 X.A) (I1 : Inv X pins σ H1 s1) (r1 : Vals vs us) (e : vs.length = flds.length)
    (sv : ∃ ds, (∀ H', ValAll X.K 0 H' vs ds) ∧ ∀ z, D.str z ∈ ds → z.length ≤ 1000) (q : ∀ d, H1 d = none → Q (.ref C) (some d) (upd H1 d (.xd (flds.zip vs).reverse))) :
    wpAny (model X.prog X.w) X.A (call (.ref C) us) (L2N.MkP X pins σ Q) X.xe s1 := by
  obtain ⟨T, _, hle, D0, fI, fd, ps, XO, iC, tI, hfl, F, hb⟩ := R
  obtain ⟨ds, hds, hz⟩ := sv
  obtain ⟨nm, qn, N, bs, bm, sn, sub, ab, col, dd, k0, k1, k2, k3, k5, hC, hbm⟩ := T.cls
  obtain ⟨hp, g, dr, tk, os⟩ := s1
  have hsz : hp.objs.size ≤ hp.objs.size + 1 := Nat.le_succ _
  have hn : H1 (hp.objs.size + 1) = none := I1.hok.fresh hsz
  have keep2 : ∀ b o, hp.get? b = some o → ((hp.push (PySem.W.kdv_tup us)).push (PySem.HandSPX.excO C hp.objs.size)).get? b = some o := fun b o z => Heap.get?_push_of_some _ (Heap.get?_push_of_some _ z)
  have there : ((hp.push (PySem.W.kdv_tup us)).push (PySem.HandSPX.excO C hp.objs.size)).get? (hp.objs.size + 1) = some (PySem.HandSPX.excO C hp.objs.size) := by heap_get
  have I2 := I1.laid (t' := tk) (a := hp.objs.size + 1) (o := exo (hp.objs.size + 1) C none) (h' := (hp.push (PySem.W.kdv_tup us)).push (PySem.HandSPX.excO C hp.objs.size)) keep2 hsz (exo_ok there)
  have r2 : Vals (V.ref (hp.objs.size + 1) :: vs) (Value.ref (hp.objs.size + 1) :: us) := .cons rfl r1
  have hsp : spInit X.K D0 flds (V.ref (hp.objs.size + 1) :: vs) (upd H1 (hp.objs.size + 1) (exo (hp.objs.size + 1) C none))
      (fun y H2 => y = .non ∧ ∃ d, H2 (hp.objs.size + 1) = some (exo (hp.objs.size + 1) C (some d)) ∧ H2 d = some (exd d (flds.zip vs).reverse) ∧ H1 d = none ∧ (∀ b, b ≠ hp.objs.size + 1 → b ≠ d → H2 b = H1 b) ∧ d ≠ hp.objs.size + 1) (fun _ _ _ => False) :=
    ⟨hp.objs.size + 1, C, 0, vs, ds, rfl, e, XO, hfl, upd_same, hds _, hz, fun dx H' h1 h2 h3 h4 h5 => ⟨rfl, dx, h3, h4, by rw [upd_ne h2] at h1; exact h1, fun b n1 n2 => by rw [h5 b n1 n2, upd_ne n1], h2⟩⟩
  have hlen : (Value.ref (hp.objs.size + 1) :: us).length = ps.length := by
    have y := r2.length
    rw [F.len _ _ _ _ hsp] at y
    exact y.symm
  have hus : us.length ≤ sizeLine := by
    rw [← Paired.length r1, e, sizeLine_eq]
    omega
  have b0 := hb _ (Value.ref (hp.objs.size + 1) :: us) I2.kIn (by rw [List.append_nil]; exact hlen)
  rw [List.append_nil] at b0
  refine wpAny_call (PySem.HandSPX.call_own PySem.F.excBase_ValueError (fun Y => PySem.HandSPX.refsVE_contains Y bm hbm) (I1.kIn _ _ hC) (PySem.W.looks_findIn I1.kIn iC) (fun self => PySem.W.bind_fn I1.kIn self tI) hus
    (codeAny_mono (F.run _ X.stack _ _ ⟨Value.ref (hp.objs.size + 1) :: us, []⟩ (Value.ref (hp.objs.size + 1) :: us) _ _ (fun _ _ _ => False) (hr.make C us []) (I2.env0.make C us []) b0 r2 hsp) fun r s' hq' => ?_))
  cases r with
  | error er => exact hq'.elim
  | ok fl =>
    cases fl with
    | ret u =>
      obtain ⟨y, H2, os2, bare2, un2, hok2, ru, ey, d, ea, ed, hd1, eH, hne⟩ := hq'
      subst ey
      obtain ⟨h2, g2, d2, t2, os'⟩ := s'
      refine ⟨ru, ?_⟩
      obtain ⟨t0, G, J, kG, ge, hoe, na⟩ := mk_end0 (d2 := d2) (t2 := t2) I1 hsz keep2 un2 hok2 os2 bare2 ea ed hd1
      have eq2 : upd (del H2 (hp.objs.size + 1)) d (.xd (flds.zip vs).reverse) = upd H1 d (.xd (flds.zip vs).reverse) := by
        funext b
        by_cases b1 : b = d
        · rw [b1, upd_same, upd_same]
        · rw [upd_ne b1, upd_ne b1]
          by_cases b2 : b = hp.objs.size + 1
          · rw [b2, del_same, hn]
          · rw [del_ne b2, eH b b2 b1]
      rw [eq2] at J na
      exact ⟨_, _, _, ⟨G, g2, d2, t2, os'⟩, _, .ref C, some d, rfl, J, kG, ge, hoe, ⟨rfl, rfl, fun vs e => by cases e; rfl⟩, rfl, rfl, na, rfl, bare2, L2.raises_own T.exC T.tyC, q d hd1⟩
    | next => exact False.elim hq'
    | brk => exact False.elim hq'
    | cont => exact False.elim hq'
def tErr (K : PySem.W.Frag) (C : Addr) (flds : List Str) (ta : TA) : L2.St → Hp → XK → Prop := fun σ H Q => ta σ H fun vs H1 => vs.length = flds.length ∧ (∃ ds, (∀ H', ValAll K 0 H' vs ds) ∧ ∀ z, D.str z ∈ ds → z.length ≤ 1000) ∧ ∀ d, H1 d = none → Q (.ref C) (some d) (upd H1 d (.xd (flds.zip vs).reverse))
theorem pmk_err {x : Str} {C : Addr} {flds : List Str} {e : Expr} {es : List Expr} {ta : TA} {p pos : Pos} (R : Err X.prog X.w X.K X.mg X.base x C flds) (hr : Room 4 X.A) (ha : PA X (e :: es) ta) (hg : Gl X x)
    (hst : starEach (e :: es) X.env = (false, eval e X.env) :: starEach es X.env := by rfl) (hpl : (backTo pos (starEach es X.env)).any (·.1) = false := by rfl) (hdb : (x == ("__debug__" : Str)) = false := by decide) :
    L2N.PMk X (.Call (.Name x p) (e :: es) [] pos) (tErr X.K C flds ta) := by
  intro pins s σ H Q I h
  refine wpAny_Call_Name_kw (ld_glob I hg R.at_ ?_ hdb)
  exact PySem.W.callWith_K (h₀ := X.base) I.ok.mod.kin R.oex.kC (thn (ha.run pos pins s σ H (fun vs H1 => vs.length = flds.length ∧ (∃ ds, (∀ H', ValAll X.K 0 H' vs ds) ∧ ∀ z, D.str z ∈ ds → z.length ≤ 1000) ∧ ∀ d, H1 d = none → Q (.ref C) (some d) (upd H1 d (.xd (flds.zip vs).reverse))) I h) fun us s1 ⟨vs, H1, I1, r1, ev, hv, hq⟩ => ⟨I1.kIn, raise_call R hr I1 r1 ev hv hq⟩) hst hpl
end
end K00

set_option Elab.async false
set_option linter.all false
set_option maxRecDepth 100000
set_option maxHeartbeats 4000000
/-! ### str(n), {n}: numbers of more than 578 digits -/
namespace PySem.W
open PySem PySem.Calls PyProof.Rows PySem.Builtin PySem.Builtin.Str PySem.Builtin.Int
section
variable {prog : Program} {w : World} {A : Around} {E : Value → Shared → Prop} {s : Shared} {K : Frag} {a : Int} {t : Tok}
theorem over_none {M : Model} {Q : Option Nat → Shared → Prop} (X : K.In s.heap) (hz : nsIn K cStatics "sys.int_max_str_digits" = some none) (ha : a.natAbs.log2 < 12000) (h : Q none s) : wpAny M A (Builtin.overDigitLimit? a) Q E s := by
  unfold Builtin.overDigitLimit?
  by_cases hs : a.natAbs.log2 < 1920
  · rw [if_pos hs]
    exact wpAny_pure h
  · rw [if_neg hs]
    unfold Builtin.intMaxStrDigits
    refine wpAny_bind (wpAny_bind ((looks_nsIn X hz).here ?_))
    refine wpAny_pure ?_
    dsimp only
    rw [if_neg (by omega), if_pos (by
      have : (a.natAbs.log2 < 3 * 4300) := by omega
      simp [this])]
    exact wpAny_pure h
theorem fits_big (ha : a.natAbs.log2 < 12000) : (Str.ofString (toString a)).length ≤ sizeLine := by
  have e := int_text_length_le (k := 12000) (by decide) ha
  rw [ofString_length, sizeLine_eq]
  omega
theorem repr_big {Q : Value → Shared → Prop} (X : K.In s.heap) (hz : nsIn K cStatics "sys.int_max_str_digits" = some none) (ha : a.natAbs.log2 < 12000) (h : Q (.str (toString a) s.toks) { s with toks := s.toks + 1 }) :
    wpAny (model prog w) A (call (.builtin "int.__repr__") [.int a t]) Q E s := by
  refine wpAny_call_entry F.slot_int_repr (typeIs_int s a t) F.entry_int_repr ?_ (F.args_int_repr_1 _)
  unfold Builtin.«int.__repr__»
  show wpAny _ _ (do let r ← Builtin.overDigitLimit? a; _) _ _ s
  refine wpAny_bind (over_none X hz ha ?_)
  exact wpAny_bind (wpAny_mkStr (wpAny_pure ⟨_, rfl, h⟩) (fits_big ha))
theorem strOf_big {Q : Value → Shared → Prop} (X : K.In s.heap) (hz : nsIn K cStatics "sys.int_max_str_digits" = some none) (ha : a.natAbs.log2 < 12000) (h : Q (.str (toString a) s.toks) { s with toks := s.toks + 1 }) :
    wpAny (model prog w) A (PySem.Builtin.Str.strOf (.int a t)) Q E s := by
  unfold PySem.Builtin.Str.strOf
  rw [show isExactStr (.int a t) = false from rfl]
  try (have hv : [Value.int a t].any Value.onHeap = false := rfl; simp only [cRoomFor, hv, Bool.false_eq_true, if_false, pure_bind])
  refine wpAny_bind (m := callSpecial? (.int a t) (Str.ofString "__str__")) (wpAny_callSpecial?_slot (name := Str.ofString "__str__") (typeIs_int s a t) F.slot_int_str ?_)
  refine wpAny_call_entry F.slot_int_str (typeIs_int s a t) entry_object_str ?_ (args_object_str _)
  unfold Builtin.«object.__str__»
  refine wpAny_bind (m := slotArgs "__str__" 0 _) (wpAny_pure ?_)
  try (have hv : [Value.int a t].any Value.onHeap = false := rfl; simp only [cRoomFor, hv, Bool.false_eq_true, if_false, pure_bind])
  refine wpAny_bind (m := callSpecialIfBound? (.int a t) (Str.ofString "__repr__")) (wpAny_callSpecialIfBound?_slot (name := Str.ofString "__repr__") (typeIs_int s a t) F.slot_int_repr
    (repr_big X hz ha ?_))
  exact wpAny_pure ⟨_, rfl, wpAny_pure h⟩
theorem str_big {Q : Value → Shared → Prop} (X : K.In s.heap) (hz : nsIn K cStatics "sys.int_max_str_digits" = some none) (ha : a.natAbs.log2 < 12000) (h : Q (.str (toString a) s.toks) { s with toks := s.toks + 1 }) :
    wpAny (model prog w) A (call (.type "str") [.int a t]) Q E s :=
  callType_new F.called_str (by decide) (F.typeCall_str_1 _) (F.newCall_str_1 _) (fun obj => F.args_object_init_2 obj _) F.entry_str_new
    (meets_str_new (S := fun A R s => K.In s.heap ∧ R (.ok (.ret (.str (toString a) s.toks))) { s with toks := s.toks + 1 })
      fun _ _ _ _ _ hq => strOf_big hq.1 hz ha hq.2)
    ⟨X, typeIs_str _ _ _, h⟩
theorem code_repr_big {R : Result → Shared → Prop} (X : K.In s.heap) (hz : nsIn K cStatics "sys.int_max_str_digits" = some none) (ha : a.natAbs.log2 < 12000) (h : R (.ok (.ret (.str (toString a) s.toks))) { s with toks := s.toks + 1 }) :
    codeAny (model prog w) A (.builtin "int.__repr__" ⟨[.int a t], []⟩) R s := by
  refine codeAny_builtin entry_int_repr ?_
  rw [Around.under_plainId plain_int_repr _]
  unfold Builtin.«int.__repr__»
  show wpAny _ _ (do let r ← Builtin.overDigitLimit? a; _) _ _ s
  refine wpAny_bind (over_none X hz ha ?_)
  exact wpAny_bind (wpAny_mkStr (wpAny_pure h) (fits_big ha))
theorem field_big {Q : Value → Shared → Prop} (X : K.In s.heap) (hz : nsIn K cStatics "sys.int_max_str_digits" = some none) (ha : a.natAbs.log2 < 12000) (h : Q (.str (toString a) (s.toks + 1)) { s with toks := s.toks + 1 + 1 }) :
    wpAny (model prog w) A (formatField (.int a t) Str.empty) Q E s := by
  show wpAny _ _ (holding [.int a t] (pyFormat (.int a t) Str.empty)) Q E s
  refine wpAny_holding ?_
  unfold pyFormat
  refine wpAny_bind (wpAny_mkStr ?_ (by decide))
  refine wpAny_bind (m := callSpecial? (.int a t) (Str.ofString "__format__") [Value.str PySem.Str.empty s.toks]) (wpAny_callSpecial?_slot (name := Str.ofString "__format__") (typeIs_int _ a t) slot_int_format ?_)
  refine wpAny_call (codeAny_call_builtin slot_int_format.plain entry_int_format (slot_int_format.check _ _ _ _ _ _ _ _ (typeIs_int _ a t) (args_int_format _ _) ?_))
  show wpAny _ _ (do let _kind ← PySem.typeNameOf (Value.str PySem.Str.empty s.toks); (do rule "int.format.empty"; again (.builtin "int.__repr__" ⟨[.int a t], []⟩))) _ _ _
  refine wpAny_bind (wpAny_typeNameOf (T := "str") (typeIs_str _ _ _) (by decide) fun _ => wpAny_bind (wpAny_rule (wpAny_pure ⟨plainId_quiet plain_int_repr _, code_repr_big (s := { s with toks := s.toks + 1 }) X hz ha ?_⟩)))
  show wpAny _ _ (do if ← isInstance (.str (toString a) (s.toks + 1)) (.type "str") then return (.str (toString a) (s.toks + 1)) else _) Q E _
  exact wpAny_bind (wpAny_isInstance (typeIs_str _ _ _) isSubtype_str_str (wpAny_pure h))
end
end PySem.W
namespace K00
open PySem L2 PyProof.Rows
theorem call_strN {X : Cx} (hz : PySem.W.nsIn X.K cStatics "sys.int_max_str_digits" = some none) : CallR X (.type "str") (fun xs H Q => ∃ i, xs = [.int i] ∧ i.natAbs.log2 < 12000 ∧ Q (.str (toString i)) H) := by
  intro pins s σ H xs us Q I r h
  obtain ⟨i, rfl, hl, q⟩ := h
  cases r with
  | cons r1 rs =>
    cases rs
    obtain ⟨t, rfl⟩ := r1
    exact PySem.W.str_big I.kIn hz hl ⟨.str _, H, I.tok _, ⟨_, rfl⟩, q⟩
/-- {n}: an int of at most 3612 digits -/
def tFmtN (te : TE) : TE := fun σ H Q => te σ H fun x H1 => ∃ i : Int, x = .int i ∧ i.natAbs.log2 < 12000 ∧ Q (.str (toString i)) H1
theorem pe_fmtN {X : Cx} {e : Expr} {te : TE} {pos : Pos} (hz : PySem.W.nsIn X.K cStatics "sys.int_max_str_digits" = some none) (he : PE X e te) : PE X (.FormattedValue e (-1) none pos) (tFmtN te) := by
  refine ⟨fun pins s σ H Q I h => ?_⟩
  refine wpAny_FormattedValue_plain (thn (he.run pins s σ H _ I h) fun v s1 hv => ?_)
  obtain ⟨x, H1, I1, r1, i, rfl, hl, q⟩ := hv
  obtain ⟨t, rfl⟩ := r1
  exact PySem.W.field_big I1.kIn hz hl ⟨.str (toString i), H1, I1.tok _, ⟨_, rfl⟩, q⟩
end K00

set_option Elab.async false
set_option linter.all false
set_option maxRecDepth 100000
set_option maxHeartbeats 4000000
namespace K00
open PySem L2 NumText
/-! ### digits, and numbers written with them -/
/-- the digits of a number of at most 400, none too many -/
def canonB (l : List Nat) : Bool := l.length != 0 && (l.all (fun c => Nat.ble 48 c && Nat.ble c 57) && !(l.head? == some 48 && l.length != 1))
theorem canonB_iff {l : List Nat} : canonB l = true ↔ l.length ≠ 0 ∧ AllDigits l ∧ (l.head? = some 48 → l.length = 1) := by
  unfold canonB AllDigits
  simp only [Bool.and_eq_true, bne_iff_ne, ne_eq, List.all_eq_true, Nat.ble_eq, Bool.not_eq_true', Bool.and_eq_false_iff, beq_eq_false_iff_ne, bne_eq_false_iff_eq]
  constructor
  · rintro ⟨h1, h2, h3⟩
    exact ⟨h1, h2, fun e => h3.elim (fun z => absurd e z) id⟩
  · rintro ⟨h1, h2, h3⟩
    refine ⟨h1, h2, ?_⟩
    by_cases e : l.head? = some 48
    · exact .inr (h3 e)
    · exact .inl e
theorem canon_back {l : List Nat} (h : canonB l = true) : TL.numL (digitsVal l) = l := by
  obtain ⟨h1, h2, h3⟩ := canonB_iff.mp h
  obtain ⟨c, r, rfl⟩ : ∃ c r, l = c :: r := by
    cases l with
    | nil => exact absurd rfl h1
    | cons c r => exact ⟨c, r, rfl⟩
  have hc := h2 c (List.mem_cons_self ..)
  have e := toDigits_digitsVal r.length (c :: r) rfl h2 (by
    by_cases z : c = 48
    · have q := h3 (by rw [z]; rfl)
      rw [List.length_cons] at q
      exact .inl (by omega)
    · exact .inr ⟨c, r, rfl, by omega⟩)
  unfold TL.numL
  rw [e, List.map_map]
  refine (List.map_congr_left fun d hd => ?_).trans (List.map_id _)
  have := h2 d hd
  have e2 : ∀ d : Nat, d < 58 → (Char.ofNat d).toNat = d := by decide
  exact e2 d (by omega)
theorem numL_head {n : Nat} (h : 0 < n) : (TL.numL n).head? ≠ some 48 := by
  induction n using Nat.strongRecOn with
  | _ n ih =>
    by_cases hn : n < 10
    · rw [TL.numL_lt hn]
      intro e
      have e2 : 48 + n = 48 := Option.some.inj e
      omega
    · rw [TL.numL_step (by omega)]
      have i := ih (n / 10) (by omega) (by omega)
      cases q : TL.numL (n / 10) with
      | nil => exact absurd q (TL.numL_ne _)
      | cons c r =>
        rw [q] at i
        exact i
theorem canon_num (n : Nat) : canonB (TL.numL n) = true := by
  refine canonB_iff.mpr ⟨fun e => TL.numL_ne n (List.length_eq_zero_iff.mp e), TL.numL_digits n, fun e => ?_⟩
  by_cases h : 0 < n
  · exact absurd e (numL_head h)
  · have : n = 0 := by omega
    subst this
    rw [TL.numL_lt (by decide)]
    rfl
theorem numL_big {n k : Nat} (h : (TL.numL n).length ≤ k) : n < 10 ^ k := by
  induction k generalizing n with
  | zero => exact absurd (List.length_eq_zero_iff.mp (Nat.le_zero.mp h)) (TL.numL_ne n)
  | succ k ih =>
    by_cases hn : n < 10
    · exact Nat.lt_of_lt_of_le hn (by rw [Nat.pow_succ]; have := Nat.pos_of_ne_zero (show 10 ^ k ≠ 0 by simp); omega)
    · rw [TL.numL_step (by omega), List.length_append, List.length_singleton] at h
      have i := ih (n := n / 10) (by omega)
      rw [Nat.pow_succ]
      omega
/-- a part of a number that is read: digits of at most 400, their number -/
def whole (l : List Nat) : Option Nat := if canonB l && Nat.ble l.length 400 then some (digitsVal l) else none
theorem whole_num (n : Nat) : whole (TL.numL n) = if n < 10 ^ 400 then some n else none := by
  unfold whole
  rw [canon_num, Bool.true_and, TL.numL_val]
  by_cases h : n < 10 ^ 400
  · rw [if_pos h, if_pos (Nat.ble_eq.mpr (TL.numL_len (by decide) h))]
  · rw [if_neg h, if_neg (fun e => h (numL_big (Nat.ble_eq.mp e)))]
theorem whole_some {l : List Nat} {n : Nat} (h : whole l = some n) : l = TL.numL n ∧ n < 10 ^ 400 := by
  unfold whole at h
  by_cases e : (canonB l && Nat.ble l.length 400) = true
  · rw [if_pos e] at h
    cases h
    obtain ⟨e1, e2⟩ := Bool.and_eq_true_iff.mp e
    have b := canon_back e1
    refine ⟨b.symm, numL_big (k := 400) ?_⟩
    rw [b]
    exact Nat.ble_eq.mp e2
  · rw [if_neg e] at h
    cases h
/-- the parts of a number before and behind the stroke -/
def cutAt (l : List Nat) : Option (List Nat × List Nat) := TL.par [47] [] l
/-- a text's ratio -/
def rdP (m : Bool) (a b : Option Nat) (s : Bool) : Option (Int × Int) := match a, b with
  | some a, some b => if (m && a == 0) || (s && (Nat.blt b 2 || Nat.gcd a b != 1)) then none else some (if m then -(a : Int) else (a : Int), (b : Int))
  | _, _ => none
def minusB (l : List Nat) : Bool := l.head? == some 45
def rd (l : List Nat) : Option (Int × Int) := match cutAt (l.drop (minusB l).toNat) with
  | none => rdP (minusB l) (whole (l.drop (minusB l).toNat)) (some 1) false
  | some (p, q) => rdP (minusB l) (whole p) (whole q) true
def intL (n : Int) : List Nat := if n < 0 then 45 :: TL.numL n.natAbs else TL.numL n.natAbs
/-- the written form -/
def wr (n d : Int) : List Nat := if d = 1 then intL n else intL n ++ 47 :: TL.numL d.natAbs
theorem cut_none {p : List Nat} (h : 47 ∉ p) : cutAt p = none := TL.par_none1 h
theorem cut_some {p q : List Nat} (h : 47 ∉ p) : cutAt (p ++ 47 :: q) = some (p, q) := by
  have := TL.par_part1 (s := 47) (S := []) (rest := q) (acc := []) h
  exact this
theorem minus_num (n : Nat) : minusB (TL.numL n) = false := by
  unfold minusB
  cases q : TL.numL n with
  | nil => rfl
  | cons c r =>
    have := TL.numL_digits n c (by rw [q]; exact List.mem_cons_self ..)
    show (some c == some 45) = false
    rw [beq_eq_false_iff_ne]
    intro e
    cases e
    omega
theorem minus_int (n : Int) (r : List Nat) : minusB (intL n ++ r) = decide (n < 0) ∧ (intL n ++ r).drop (decide (n < 0)).toNat = TL.numL n.natAbs ++ r := by
  unfold intL
  by_cases h : n < 0
  · rw [if_pos h, decide_eq_true h]
    exact ⟨rfl, rfl⟩
  · rw [if_neg h, decide_eq_false h]
    refine ⟨?_, rfl⟩
    have m := minus_num n.natAbs
    unfold minusB at m ⊢
    cases q : TL.numL n.natAbs with
    | nil => exact absurd q (TL.numL_ne _)
    | cons c t =>
      rw [q] at m
      exact m
/-- what is written is read again -/
theorem rd_wr {n d : Int} (hd : 1 ≤ d) (hg : Int.gcd n d = 1) : rd (wr n d) = if n.natAbs < 10 ^ 400 ∧ d.natAbs < 10 ^ 400 then some (n, d) else none := by
  have sg : (if decide (n < 0) = true then -((n.natAbs : Nat) : Int) else ((n.natAbs : Nat) : Int)) = n := by
    by_cases h : n < 0
    · rw [if_pos (decide_eq_true h)]; omega
    · rw [if_neg (by rw [decide_eq_false h]; decide)]; omega
  have nz : (decide (n < 0) && n.natAbs == 0) = false := by
    by_cases h : n < 0
    · rw [decide_eq_true h, Bool.true_and, beq_eq_false_iff_ne]; omega
    · rw [decide_eq_false h]; rfl
  unfold rd wr
  by_cases h1 : d = 1
  · subst h1
    rw [if_pos rfl]
    obtain ⟨e1, e2⟩ := minus_int n []
    rw [List.append_nil] at e1 e2
    rw [e1, e2, List.append_nil, cut_none (TL.numL_free (.inl (by decide))), whole_num]
    by_cases hb : n.natAbs < 10 ^ 400
    · rw [if_pos hb, if_pos ⟨hb, by show 1 < 10 ^ 400; exact Nat.one_lt_pow (by decide) (by decide)⟩]
      unfold rdP
      simp only [nz, Bool.false_and, Bool.or_false, Bool.false_eq_true, if_false]
      rw [sg]
      rfl
    · rw [if_neg hb, if_neg fun z => hb z.1]
      rfl
  · rw [if_neg h1]
    obtain ⟨e1, e2⟩ := minus_int n (47 :: TL.numL d.natAbs)
    rw [e1, e2, cut_some (TL.numL_free (.inl (by decide)))]
    show rdP _ (whole _) (whole _) true = _
    rw [whole_num, whole_num]
    by_cases ha : n.natAbs < 10 ^ 400
    · by_cases hb : d.natAbs < 10 ^ 400
      · rw [if_pos ha, if_pos hb, if_pos ⟨ha, hb⟩]
        unfold rdP
        have g1 : Nat.blt d.natAbs 2 = false := by
          cases e : Nat.blt d.natAbs 2 with
          | false => rfl
          | true => have : d.natAbs < 2 := Nat.le_of_ble_eq_true e; omega
        have g2 : (Nat.gcd n.natAbs d.natAbs != 1) = false := by rw [bne_eq_false_iff_eq]; exact hg
        simp only [nz, g1, g2, Bool.false_or, Bool.and_false, Bool.or_false, Bool.false_eq_true, if_false]
        rw [sg]
        congr 2
        omega
      · rw [if_pos ha, if_neg hb, if_neg fun z => hb z.2]
        rfl
    · have no : ¬ (n.natAbs < 10 ^ 400 ∧ d.natAbs < 10 ^ 400) := fun z => ha z.1
      rw [if_neg ha, if_neg no]
      by_cases hb : d.natAbs < 10 ^ 400
      · rw [if_pos hb]
        rfl
      · rw [if_neg hb]
        rfl
theorem par_back : ∀ {l acc p q : List Nat}, TL.par [47] acc l = some (p, q) → acc ++ l = p ++ 47 :: q
  | [], acc, p, q, h => by cases h
  | c :: r, acc, p, q, h => by
    by_cases e : TL.pre [47] (c :: r) = true
    · rw [TL.par_hit e] at h
      cases h
      have e2 : c = 47 := by
        unfold TL.pre at e
        have e3 : [c] = [47] := beq_iff_eq.mp e
        cases e3
        rfl
      subst e2
      rfl
    · rw [TL.par_miss (by cases z : TL.pre [47] (c :: r) with | true => exact absurd z e | false => rfl)] at h
      have i := par_back h
      rw [← i, List.append_assoc]
      rfl
theorem minus_l (l : List Nat) : l = (if minusB l then 45 :: l.drop (minusB l).toNat else l.drop (minusB l).toNat) := by
  unfold minusB
  cases l with
  | nil => rfl
  | cons c r =>
    by_cases e : c = 45
    · subst e
      rfl
    · have : ((c :: r).head? == some 45) = false := by
        rw [beq_eq_false_iff_ne]
        intro z
        exact e (Option.some.inj z)
      rw [this]
      rfl
/-- what is read is what is written -/
theorem wr_rd {l : List Nat} {n d : Int} (h : rd l = some (n, d)) : l = wr n d ∧ 1 ≤ d ∧ Int.gcd n d = 1 := by
  have ml := minus_l l
  unfold rd at h
  generalize minusB l = m at h ml
  generalize l.drop m.toNat = l' at h ml
  have sign : ∀ {a : Nat}, ¬ (m = true ∧ a = 0) → intL (if m = true then -(a : Int) else (a : Int)) = (if m then 45 :: TL.numL a else TL.numL a) := by
    intro a na
    unfold intL
    cases m with
    | true =>
      have : a ≠ 0 := fun e => na ⟨rfl, e⟩
      rw [if_pos rfl, if_pos rfl, if_pos (by omega)]
      congr 2
      omega
    | false =>
      show (if (a : Int) < 0 then 45 :: TL.numL (a : Int).natAbs else TL.numL (a : Int).natAbs) = TL.numL a
      rw [if_neg (by omega)]
      rfl
  have gc : ∀ a b : Nat, Int.gcd (if m = true then -(a : Int) else (a : Int)) (b : Int) = Nat.gcd a b := by
    intro a b
    cases m <;> simp [Int.gcd]
  cases c : cutAt l' with
  | none =>
    rw [c] at h
    simp only at h
    cases w : whole l' with
    | none => rw [w] at h; cases h
    | some a =>
      rw [w] at h
      unfold rdP at h
      simp only [Bool.false_and, Bool.or_false] at h
      by_cases z : (m && a == 0) = true
      · rw [if_pos z] at h
        cases h
      · rw [if_neg z] at h
        have e := (whole_some w).1
        cases h
        refine ⟨?_, by decide, by rw [show ((1 : Nat) : Int) = (1 : Int) from rfl]; simp⟩
        unfold wr
        rw [if_pos (show ((1 : Nat) : Int) = 1 from rfl), sign fun q => z (by rw [q.1, q.2]; rfl), ← e]
        exact ml
  | some pq =>
    obtain ⟨p, q⟩ := pq
    rw [c] at h
    simp only at h
    cases w : whole p with
    | none => rw [w] at h; cases h
    | some a =>
      cases w2 : whole q with
      | none => rw [w, w2] at h; cases h
      | some b =>
        rw [w, w2] at h
        unfold rdP at h
        simp only [Bool.true_and] at h
        by_cases z : ((m && a == 0) || (Nat.blt b 2 || Nat.gcd a b != 1)) = true
        · rw [if_pos z] at h
          cases h
        · rw [if_neg z] at h
          have e := (whole_some w).1
          have e2 := (whole_some w2).1
          have pb := par_back c
          rw [List.nil_append] at pb
          simp only [Bool.or_eq_true, Bool.and_eq_true, beq_iff_eq, bne_iff_ne, ne_eq, not_or, Decidable.not_not] at z
          obtain ⟨z1, z2, z3⟩ := z
          have b2 : 2 ≤ b := by
            cases Nat.lt_or_ge b 2 with
            | inl y => exact absurd (Nat.ble_eq.mpr y) z2
            | inr y => exact y
          cases h
          refine ⟨?_, by omega, by rw [gc]; exact z3⟩
          unfold wr
          rw [if_neg (by omega), sign z1, show ((b : Int)).natAbs = b from rfl, ← e, ← e2]
          rw [ml, pb]
          cases m <;> rfl
end K00

set_option Elab.async false
set_option linter.all false
set_option maxRecDepth 100000
set_option maxHeartbeats 4000000
namespace K00
open PySem L2
structure TxtP (K : PySem.W.Frag) (mg : Str → Option Value) : Prop extends TxtD K mg where
  gcd : mg "gcd" = some (.builtin "math.gcd")
  any : mg "any" = none
def isRatioD : D → Bool
  | .tup [.int n, .int m] => decide (1 ≤ m) && decide (Nat.gcd n.natAbs m.natAbs = 1)
  | _ => false
def spIsRat (K : PySem.W.Frag) : Sp := fun vs H Q _ => ∃ (st : Addr) (v : V) (d : D), vs = [v] ∧ Val K st H v d ∧ Q (.bl (isRatioD d)) H
section
open PyProof.Rows
theorem okN {P : Program} {w : World} {K : PySem.W.Frag} {mg : Str → Option Value} {base : Heap} {x qual : Str} {st : Stmt} {f : Addr} {fd : FuncData} {N ps : List Str} {k : Nat} {sp : Sp} (F : Fun K x qual st f fd) (S : FnScope N ps (defScope st)) (len : ∀ vs H Q E, sp vs H Q E → vs.length = ps.length)
    (hb : ∀ (cdv : Value) (A : Around) (outer : List Env) (s : Shared) (H : Hp) (vs : List V) (Q : VK) (E : XK), Room k (A.deeper (envOfC qual (defScope st) s.heap.objs.size f cdv)) → sp vs H Q E →
      ∃ t, PSs (cxOf (L2N.CX P w) P w K mg base N qual (defScope st) f cdv A outer s H E) (defBody st) t ∧ t { nx := fun _ H' => Q .non H', rt := Q } (start N vs) H) : FnOk P w K mg base (L2N.CX P w) (k + 1) f fd ps sp := by
  obtain ⟨_, _, _, _, _, _, cdv, _, _, rfl, lk, hcd⟩ := F.ex
  exact fn_of lk hcd S len fun A outer s H vs Q E hr hsp => hb cdv A outer s H vs Q E hr hsp
theorem passN {P : Program} {w : World} {K : PySem.W.Frag} {mg : Str → Option Value} {base : Heap} {N : List Str} {qual : Str} {scope : Scope} {f : Addr} {cd : Value} {A : Around} {outer : List Env} {s : Shared} {H : Hp} {E : XK} :
    Passes (L2N.CX P w) (cxOf (L2N.CX P w) P w K mg base N qual scope f cd A outer s H E) E := L2N.passes_call (L2N.takes_of rfl rfl rfl rfl) fun _ _ _ _ h => h
end
def Out (C : Addr) (z : Str) (H : Hp) (E : XK) : Prop := ∀ (H' : Hp) (d : Addr), Same H H' → H' d = none → E (.ref C) (some d) (upd H' d (.xd [("argument", .str z)]))
def spNeed (K : PySem.W.Frag) (C : Addr) : Sp := fun vs H Q E => ∃ (st : Addr) (v : V) (d : D) (z : Str), vs = [v, .str z] ∧ Val K st H v d ∧ z.length ≤ 1000 ∧ (isRatioD d = true → Q .non H) ∧ (isRatioD d = false → Out C z H E)
/-- no number of a pair is too great for its text -/
def Bt (d : D) : Prop := ∀ n m, d = .tup [.int n, .int m] → n.natAbs.log2 < 11000 ∧ m.natAbs.log2 < 11000
def wrS (n d : Int) : Str := ⟨(wr n d).toArray⟩
def spWrite (K : PySem.W.Frag) (C : Addr) : Sp := fun vs H Q E => ∃ (st : Addr) (v : V) (d : D), vs = [v] ∧ Val K st H v d ∧ Bt d ∧ (∀ n m, isRatioD d = true → d = .tup [.int n, .int m] → Q (.str (wrS n m)) H) ∧ (isRatioD d = false → Out C "one" H E)
theorem tl_int (n : Int) : TL.tl (Str.ofString (toString n)) = intL n := by
  unfold intL
  by_cases h : n < 0
  · rw [if_pos h]
    obtain ⟨m, rfl⟩ : ∃ m : Nat, n = Int.negSucc m := by
      cases n with
      | ofNat m => exact absurd h (by simp)
      | negSucc m => exact ⟨m, rfl⟩
    rw [TL.tl_ofString]
    have e : (toString (Int.negSucc m)).toList = '-' :: (Nat.repr (m + 1)).toList := by
      show ("-" ++ Nat.repr (m + 1)).toList = _
      rw [String.toList_append]
      rfl
    rw [e, List.map_cons, Nat.toList_repr]
    rfl
  · rw [if_neg h]
    obtain ⟨m, rfl⟩ := Int.eq_ofNat_of_zero_le (show 0 ≤ n by omega)
    exact TL.tl_num m
theorem len_int (n : Int) (h : n.natAbs.log2 < 11000) : (Str.ofString (toString n)).length ≤ 20000 := by
  have e := int_text_length_le (k := 11000) (by decide) h
  rw [ofString_length]
  omega
theorem ratio_of {d : D} (h : isRatioD d = true) : ∃ n m, d = .tup [.int n, .int m] ∧ 1 ≤ m ∧ Nat.gcd n.natAbs m.natAbs = 1 := by
  unfold isRatioD at h
  split at h
  · rename_i n m
    obtain ⟨h1, h2⟩ := Bool.and_eq_true_iff.mp h
    exact ⟨n, m, rfl, of_decide_eq_true h1, of_decide_eq_true h2⟩
  · cases h
section
variable {P : Program} {w : World} {K : PySem.W.Frag} {mg : Str → Option Value} {base : Heap} {CW : Addr}
abbrev s_p_is_integer : Stmt := top 11
theorem sc_p_is_integer : FnScope ["value"] ["value"] (defScope s_p_is_integer) := ⟨rfl, rfl, rfl, by decide +kernel, rfl, by decide +kernel, by decide +kernel⟩
theorem ok_p_is_integer {f : Addr} {fd : FuncData} (F : Fun K "is_integer" "is_integer" s_p_is_integer f fd) (T : TxtP K mg) : FnOk P w K mg base CX0 1 f fd ["value"] (spIsInt K) := by
  refine F.ok sc_p_is_integer (fun vs H Q E h => ?_) (fun cdv A outer s H vs Q E hr h => ?_)
  · obtain ⟨_, _, _, rfl, _⟩ := h
    rfl
  · obtain ⟨st, v, d, rfl, hv, k⟩ := h
    refine ⟨_, (pss_one (ps_ret (pe_and (pe_callB call_isi (by rfl) T.isinstance (by decide +kernel) (pa_cons (pv 0) (pa_cons (pe_bltn (v := .ty "int") (by rfl) T.int (by decide +kernel) rfl) pa_nil))) (pe_one (pe_not (pe_callB call_isi (by rfl) T.isinstance (by decide +kernel) (pa_cons (pv 0) (pa_cons (pe_bltn (v := .ty "bool") (by rfl) T.bool (by decide +kernel) rfl) pa_nil)))))))), ?_⟩
    refine ⟨_, rfl, _, _, _, _, _, rfl, .ty _, hv.ty, isC_kit .int _, _, rfl, ?_⟩
    cases hv with
    | non => exact iteF k
    | bl b => exact iteT ⟨_, rfl, _, _, _, _, _, rfl, .ty _, (Val.bl (K := K) (st := st) b).ty, isC_kit .bool _, _, rfl, k⟩
    | int i => exact iteT ⟨_, rfl, _, _, _, _, _, rfl, .ty _, (Val.int (K := K) (st := st) i).ty, isC_kit .bool _, _, rfl, k⟩
    | str s => exact iteF k
    | tup h r => exact iteF k
    | lst n h r => exact iteF k
    | dct n h => exact iteF k
abbrev s_p_is_ratio : Stmt := top 12
theorem sc_p_is_ratio : FnScope ["value", "numerator", "denominator"] ["value"] (defScope s_p_is_ratio) := ⟨rfl, rfl, rfl, by decide +kernel, rfl, by decide +kernel, by decide +kernel⟩
theorem ok_p_is_ratio {f : Addr} {fd : FuncData} (F : Fun K "is_ratio" "is_ratio" s_p_is_ratio f fd) (T : TxtP K mg) (c_p_is_integer : Callee P w K mg base CX0 1 "is_integer" ["value"] (spIsInt K)) :
    FnOk P w K mg base CX0 2 f fd ["value"] (spIsRat K) := by
  refine F.ok sc_p_is_ratio (fun vs H Q E h => ?_) (fun cdv A outer s H vs Q E hr h => ?_)
  · obtain ⟨_, _, _, rfl, _⟩ := h
    rfl
  · obtain ⟨st, v, d, rfl, hv, k⟩ := h
    refine ⟨_, (pss_cons (ps_if (PW.pt (pw_or (pt_not (pt_val (pe_callB call_isi (by rfl) T.isinstance (by decide +kernel) (pa_cons (pv 0) (pa_cons (pe_bltn (v := .ty "tuple") (by rfl) T.tuple (by decide +kernel) rfl) pa_nil))))) (pw_or1 (pt_cmpR op_ne (pe_callB call_len_seq (by rfl) T.len PySem.boot_len (pa_cons (pv 0) pa_nil)) pe_int (nomark _))))) (pss_one (ps_ret pe_bl)) pss_nil)
  (pss_cons (ps_asg (pv 0) (pg_tup rfl (pgs_cons (pg_name (i := 1) sc_p_is_ratio.nd rfl (.inl rfl)) (pgs_cons (pg_name (i := 2) sc_p_is_ratio.nd rfl (.inl rfl)) pgs_nil))))
  (pss_cons (ps_if (PW.pt (pw_or (pt_not (pt_val (pe_fn c_p_is_integer (hr.mono (by decide)) (by rfl) pass0 (pa_cons (pv 1) pa_nil)))) (pw_or1 (pt_not (pt_val (pe_fn c_p_is_integer (hr.mono (by decide)) (by rfl) pass0 (pa_cons (pv 2) pa_nil))))))) (pss_one (ps_ret pe_bl)) pss_nil)
  (pss_one (ps_ret (pe_and (pe_cmpR op_ge (pv 2) pe_int (nomark _)) (pe_one (pe_cmpR op_eq (pe_callBfun cr_gcd (by rfl) T.gcd (pa_cons (pv 1) (pa_cons (pv 2) pa_nil))) pe_int (nomark _))))))))), ?_⟩
    refine ⟨_, rfl, _, _, _, _, _, rfl, .ty _, hv.ty, isC_kit .tuple _, _, rfl, ?_⟩
    cases hv with
    | non => exact iteT (iteT k)
    | bl b => exact iteT (iteT k)
    | int i => exact iteT (iteT k)
    | str s => exact iteT (iteT k)
    | lst n h r => exact iteT (iteT k)
    | dct n h => exact iteT (iteT k)
    | @tup a xs ds h r =>
      refine iteF ⟨_, rfl, _, _, rfl, .inr h, rfl, _, rfl, ?_⟩
      cases r with
      | nil => exact ite_ne (by simp only [List.length_cons, List.length_nil]; omega) k
      | @cons v1 vs1 d1 ds1 h1 r1 =>
        cases r1 with
        | nil =>
          have ed : isRatioD (.tup [d1]) = false := by cases d1 <;> rfl
          rw [ed] at k
          exact ite_ne (by simp only [List.length_cons, List.length_nil]; omega) k
        | @cons v2 vs2 d2 ds2 h2 r2 =>
          cases r2 with
          | @cons v3 vs3 d3 ds3 h3 r3 =>
            have ed : isRatioD (.tup (d1 :: d2 :: d3 :: ds3)) = false := by cases d1 <;> cases d2 <;> rfl
            rw [ed] at k
            exact ite_ne (by simp only [List.length_cons]; omega) k
          | nil =>
            refine ite_nn rfl (⟨_, rfl, a, _, rfl, h, rfl, _, _, rfl, _, _, rfl, rfl, _, rfl, st, v1, d1, rfl, h1, _, rfl, ?_⟩)
            by_cases i1 : isIntD d1 = true
            · rw [i1]
              refine iteF ⟨_, rfl, st, v2, d2, rfl, h2, _, rfl, ?_⟩
              by_cases i2 : isIntD d2 = true
              · rw [i2]
                refine iteF ?_
                cases h1 with
                | int n =>
                  cases h2 with
                  | int m =>
                    refine ⟨_, rfl, _, _, rfl, rfl, _, rfl, ?_⟩
                    refine ite2 (fun mm => ?_) (fun mm => ?_)
                    · have m1 : (1 : Int) ≤ m := of_decide_eq_true mm
                      refine ⟨_, rfl, _, rfl, n, m, rfl, ?_⟩
                      have e : isRatioD (.tup [.int n, .int m]) = decide (V.int ((Nat.gcd n.natAbs m.natAbs : Nat) : Int) = V.int 1) := by
                        show (decide (1 ≤ m) && decide (Nat.gcd n.natAbs m.natAbs = 1)) = _
                        rw [decide_eq_true m1, Bool.true_and]
                        exact decide_eq_decide.mpr ⟨fun z => by rw [z]; rfl, fun z => by have := V.int.inj z; omega⟩
                      rw [e] at k
                      exact ⟨rfl, k⟩
                    · have m1 : ¬ (1 : Int) ≤ m := fun z => mm (decide_eq_true z)
                      have e : isRatioD (.tup [.int n, .int m]) = false := by
                        show (decide (1 ≤ m) && decide (Nat.gcd n.natAbs m.natAbs = 1)) = _
                        rw [decide_eq_false m1, Bool.false_and]
                      rw [e] at k
                      exact k
                  | _ => cases i2
                | _ => cases i1
              · have i2' : isIntD d2 = false := by simpa using i2
                rw [i2']
                have e : isRatioD (.tup [d1, d2]) = false := by
                  cases d1 <;> cases d2 <;> first | rfl | (cases i2')
                rw [e] at k
                exact iteT k
            · have i1' : isIntD d1 = false := by simpa using i1
              rw [i1']
              have e : isRatioD (.tup [d1, d2]) = false := by
                cases d1 <;> first | rfl | (cases i1')
              rw [e] at k
              exact iteT (iteT k)
abbrev s_p_need_ratio : Stmt := top 13
theorem sc_p_need_ratio : FnScope ["value", "argument"] ["value", "argument"] (defScope s_p_need_ratio) := ⟨rfl, rfl, rfl, by decide +kernel, rfl, by decide +kernel, by decide +kernel⟩
theorem ok_p_need_ratio {f : Addr} {fd : FuncData} (F : Fun K "need_ratio" "need_ratio" s_p_need_ratio f fd) (eW : Err P w K mg base "WrongKind" CW ["argument"]) (c_p_is_ratio : Callee P w K mg base CX0 2 "is_ratio" ["value"] (spIsRat K)) :
    FnOk P w K mg base (L2N.CX P w) 5 f fd ["value", "argument"] (spNeed K CW) := by
  refine okN F sc_p_need_ratio (fun vs H Q E h => ?_) (fun cdv A outer s H vs Q E hr h => ?_)
  · obtain ⟨_, _, _, _, rfl, _⟩ := h
    rfl
  · obtain ⟨st, v, d, z, rfl, hv, hz, k1, k2⟩ := h
    refine ⟨_, (pss_one (ps_if (pt_not (pt_val (pe_fn c_p_is_ratio (hr.mono (by decide)) (by rfl) pass0 (pa_cons (pv 0) pa_nil)))) (pss_one (L2N.ps_raise rfl (L2N.takes_of rfl rfl rfl rfl) (pmk_err eW (hr.mono (by decide)) (pa_cons (pv 1) pa_nil) (by rfl)))) pss_nil)), ?_⟩
    refine ⟨_, rfl, st, v, d, rfl, hv, _, rfl, ?_⟩
    by_cases c : isRatioD d = true
    · rw [c]
      exact iteF (k1 c)
    · rw [Bool.not_eq_true] at c
      rw [c]
      exact iteT ⟨_, rfl, rfl, ⟨[.str z], fun _ => .cons (.str _) .nil, fun y hm => by
        rw [List.mem_singleton] at hm
        cases hm
        exact hz⟩, fun dd hd => k2 c H dd (Same.refl H) hd⟩
abbrev s_p_write_ratio : Stmt := top 17
theorem sc_p_write_ratio : FnScope ["one", "numerator", "denominator"] ["one"] (defScope s_p_write_ratio) := ⟨rfl, rfl, rfl, by decide +kernel, rfl, by decide +kernel, by decide +kernel⟩
theorem ok_p_write_ratio {f : Addr} {fd : FuncData} (F : Fun K "write_ratio" "write_ratio" s_p_write_ratio f fd) (T : TxtP K mg) (c_p_need_ratio : Callee P w K mg base (L2N.CX P w) 5 "need_ratio" ["value", "argument"] (spNeed K CW)) :
    FnOk P w K mg base (L2N.CX P w) 6 f fd ["one"] (spWrite K CW) := by
  refine okN F sc_p_write_ratio (fun vs H Q E h => ?_) (fun cdv A outer s H vs Q E hr h => ?_)
  · obtain ⟨_, _, _, rfl, _⟩ := h
    rfl
  · obtain ⟨st, v, d, rfl, hv, hb, k1, k2⟩ := h
    refine ⟨_, (pss_cons (ps_expr (pe_fn c_p_need_ratio (hr.mono (by decide)) (by rfl) passN (pa_cons (pv 0) (pa_cons pe_str pa_nil))))
  (pss_cons (ps_asg (pv 0) (pg_tup rfl (pgs_cons (pg_name (i := 1) sc_p_write_ratio.nd rfl (.inl rfl)) (pgs_cons (pg_name (i := 2) sc_p_write_ratio.nd rfl (.inl rfl)) pgs_nil))))
  (pss_one (ps_ret (pe_ifExp (pt_cmpR op_eq (pv 2) pe_int (nomark _)) (pe_callTy (call_strN T.dig) (by rfl) T.str (by decide +kernel) (pa_cons (pv 1) pa_nil)) (pe_joined (PJ.cons (pe_fmtN T.dig (pv 1)) (PJ.cons pe_str (PJ.cons (pe_fmtN T.dig (pv 2)) PJ.nil))))))))), ?_⟩
    refine ⟨_, rfl, st, v, d, "one", rfl, hv, by decide +kernel, fun c => ?_, fun c => k2 c⟩
    obtain ⟨n, m, rfl, m1, g⟩ := ratio_of c
    obtain ⟨hn, hm⟩ := hb n m rfl
    have q := k1 n m c rfl
    cases hv with
    | @tup a xs _ h r =>
    obtain ⟨v1, v2, rfl, h1, h2⟩ : ∃ v1 v2, xs = [v1, v2] ∧ Val K st H v1 (.int n) ∧ Val K st H v2 (.int m) := by
      cases r with
      | cons h1 r1 =>
        cases r1 with
        | cons h2 r2 =>
          cases r2
          exact ⟨_, _, rfl, h1, h2⟩
    cases h1
    cases h2
    have e1 := tl_int n
    have l1 := len_int n hn
    have l2 := len_int m hm
    have e2 : TL.tl (Str.ofString (toString m)) = TL.numL m.natAbs := by
      rw [tl_int]
      exact if_neg (by omega)
    refine ⟨_, rfl, a, _, rfl, h, rfl, _, _, rfl, _, _, rfl, rfl, _, rfl, rfl, _, rfl, ite2 (fun hm1 => ?_) (fun hm1 => ?_)⟩
    · have em : m = 1 := int_eq hm1
      subst em
      refine ⟨_, rfl, n, rfl, by omega, ?_⟩
      have e : (Str.ofString (toString n)) = wrS n 1 := TL.ext_tl (by rw [e1]; unfold wrS wr; rw [TL.tl_mk, if_pos rfl])
      rw [e]
      exact q
    · have nm : m ≠ 1 := int_ne hm1
      have e : ((Str.empty ++ Str.ofString (toString n)) ++ "/") ++ Str.ofString (toString m) = wrS n m := TL.ext_tl (by
        rw [TL.tl_append, TL.tl_append, TL.tl_append, e1, e2]
        unfold wrS wr
        rw [TL.tl_mk, if_neg nm]
        show ([] ++ intL n ++ [47]) ++ TL.numL m.natAbs = _
        rw [List.nil_append, List.append_assoc]
        rfl)
      have a1 : (Str.empty ++ Str.ofString (toString n)).length = (Str.ofString (toString n)).length := by rw [TL.len_tl, TL.tl_append, TL.len_tl]; rfl
      have a2 : ((Str.empty ++ Str.ofString (toString n)) ++ ("/" : Str)).length = (Str.ofString (toString n)).length + 1 := by rw [TL.len_tl, TL.tl_append, List.length_append, ← TL.len_tl, a1]; rfl
      have a3 : (((Str.empty ++ Str.ofString (toString n)) ++ ("/" : Str)) ++ Str.ofString (toString m)).length = (Str.ofString (toString n)).length + 1 + (Str.ofString (toString m)).length := by rw [TL.len_tl, TL.tl_append, List.length_append, ← TL.len_tl, ← TL.len_tl, a2]
      refine ⟨_, rfl, n, rfl, by omega, _, rfl, by rw [a1, sizeLine_eq]; omega, _, rfl, by rw [a2, sizeLine_eq]; omega, _, rfl, m, rfl, by omega, _, rfl, by rw [a3, sizeLine_eq]; omega, ?_⟩
      show Q (.str (((Str.empty ++ Str.ofString (toString n)) ++ "/") ++ Str.ofString (toString m))) H
      rw [e]
      exact q
end
end K00

set_option Elab.async false
set_option linter.all false
set_option maxRecDepth 100000
set_option maxHeartbeats 4000000
namespace K00
open PySem L2
/-- a block over the signs of a text -/
theorem lc_signs {z : Str} {tg : TG} {tc : TT} {tx : TE} {ws : List Nat} {ρ : L2.St} {Ha : Hp} {L : Addr} {End : Hp → Prop} (At : Nat → Hp → Prop) (first : At 0 (upd Ha L (.lst [])))
    (turn : ∀ j c Hb, z.cps.toList[j]? = some c → At j Hb → tg (.str ⟨#[c]⟩) (wipe ρ ws) Hb fun ρ2 Hc => wipe ρ2 ws = wipe ρ ws ∧ tc ρ2 Hc fun b Hd =>
      if b = true then tx ρ2 Hd fun y He => ∃ acc, He L = some (.lst acc) ∧ acc.length < sizeLine ∧ At (j + 1) (upd He L (.lst (acc ++ [y])))
      else At (j + 1) Hd) (last : ∀ Hb, At z.cps.toList.length Hb → End Hb) :
    ∃ W : Nat → Nat → Hp → Prop, (∃ m, W 0 m (upd Ha L (.lst []))) ∧ ∀ j m Hb, W j m Hb →
      ((Its z).stop j Hb ∧ End Hb) ∨ ((Its z).go j Hb ∧ ∃ Nx : Hp → Prop, (∀ H', Nx H' → ∃ m', m' < m ∧ W (j + 1) m' H') ∧ ∀ x H', (Its z).yld j Hb x H' → tg x (wipe ρ ws) H' fun ρ2 Hc => wipe ρ2 ws = wipe ρ ws ∧ tc ρ2 Hc fun b Hd =>
        if b = true then tx ρ2 Hd fun y He => ∃ acc, He L = some (.lst acc) ∧ acc.length < sizeLine ∧ Nx (upd He L (.lst (acc ++ [y])))
        else Nx Hd) := by
  refine ⟨fun j m Hb => m = z.cps.toList.length - j ∧ j ≤ z.cps.toList.length ∧ At j Hb, ⟨_, rfl, Nat.zero_le _, first⟩, ?_⟩
  rintro j m Hb ⟨rfl, hj, p⟩
  have ez : z.cps.size = z.cps.toList.length := Array.length_toList.symm
  by_cases lt : j < z.cps.toList.length
  · refine .inr ⟨show j < z.cps.size by omega, At (j + 1), fun H' p' => ⟨z.cps.toList.length - (j + 1), by omega, rfl, lt, p'⟩, fun x H' y => ?_⟩
    obtain ⟨e, c, hc, ex⟩ := y
    subst e ex
    exact turn j c _ (by rw [← hc]; exact Array.getElem?_toList) p
  · have e : j = z.cps.toList.length := by omega
    subst e
    exact .inl ⟨show z.cps.size ≤ _ by omega, last Hb p⟩
structure TxtW (K : PySem.W.Frag) (mg : Str → Option Value) : Prop extends TxtP K mg where
  md : ∃ t, mg "MOST_DIGITS" = some (.int 400 t)
  dg : ∃ t, mg "DIGITS" = some (.str "0123456789" t)
def optI : Option Nat → V
  | some n => .int (n : Int)
  | none => .non
def spWhole : Sp := fun vs H Q _ => ∃ z : Str, vs = [.str z] ∧ z.length ≤ 20000 ∧ ∀ H', Same H H' → Q (optI (whole (TL.tl z))) H'
theorem lcYes {ρ : L2.St} {Hq : Hp} {A B : Hp → Prop} (q : A Hq) : tYes ρ Hq (fun b Hz => if b = true then A Hz else B Hz) := by
  show (if true = true then A Hq else B Hq)
  exact if_pos rfl ▸ q
def digB (c : Nat) : Bool := Nat.ble 48 c && Nat.ble c 57
theorem mem_digits (c : Nat) : decide (c ∈ ("0123456789" : Str).cps.toList) = digB c := by
  have e : ("0123456789" : Str).cps.toList = [48, 49, 50, 51, 52, 53, 54, 55, 56, 57] := by decide +kernel
  rw [e]
  unfold digB
  rw [Bool.eq_iff_iff]
  simp only [decide_eq_true_eq, Bool.and_eq_true, Nat.ble_eq, List.mem_cons, List.not_mem_nil, or_false]
  omega
section
variable {P : Program} {w : World} {K : PySem.W.Frag} {mg : Str → Option Value} {base : Heap} {CW : Addr}
abbrev s_p_whole : Stmt := top 18
theorem sc_p_whole : FnScope ["digits", "mark"] ["digits"] (defScope s_p_whole) := ⟨rfl, rfl, rfl, by decide +kernel, rfl, by decide +kernel, by decide +kernel⟩
theorem ok_p_whole {f : Addr} {fd : FuncData} (F : Fun K "_whole" "_whole" s_p_whole f fd) (T : TxtW K mg) : FnOk P w K mg base CX0 1 f fd ["digits"] spWhole := by
  refine F.ok sc_p_whole (fun vs H Q E h => ?_) (fun cdv A outer s H vs Q E hr h => ?_)
  · obtain ⟨_, rfl, _⟩ := h
    rfl
  · obtain ⟨z, rfl, hz, k⟩ := h
    obtain ⟨tmd, hMD⟩ := T.md
    obtain ⟨tdg, hDG⟩ := T.dg
    refine ⟨_, (pss_cons (ps_if (PW.pt (pw_or (pt_not (pt_chain op_le op_le pe_int (pe_callB call_len_str (by rfl) T.len PySem.boot_len (pa_cons (pv 0) pa_nil)) (pe_glob (v := .int 400) (by rfl) hMD ⟨_, rfl⟩))) (pw_or1 (pt_val (pe_callB (cr_any rfl) (by rfl) T.any (by decide +kernel) (pa_cons (pe_lc (own := [("mark", 1)]) (g := gName 1) rfl sc_p_whole.nd (pi_str (pv 0)) (blkOk_by (own := [("mark", 1)]) (N := ["digits", "mark"]) (sc := defScope s_p_whole) (by decide +kernel)) (fun _ _ _ _ _ => pg_name (i := 1) sc_p_whole.nd rfl (Or.inl rfl)) (fun _ _ _ _ _ => pts_nil) (fun _ _ _ _ _ => (pe_cmpR op_notIn_sign (pv 1) (pe_glob (v := .str "0123456789") (by rfl) hDG ⟨_, rfl⟩) (by rfl)))) pa_nil)))))) (pss_one (ps_ret pe_non)) pss_nil)
  (pss_cons (ps_if (PW.pt (pw_and (pt_cmpR op_eq (pe_ix ix_str (pv 0) pe_int (fun _ _ => rfl)) pe_str (nomark _)) (pw_and1 (pt_cmpR op_gt (pe_callB call_len_str (by rfl) T.len PySem.boot_len (pa_cons (pv 0) pa_nil)) pe_int (nomark _))))) (pss_one (ps_ret pe_non)) pss_nil)
  (pss_one (ps_ret (pe_callTy (call_int_text T.dig) (by rfl) T.int (by decide +kernel) (pa_cons (pv 0) pa_nil)))))), ?_⟩
    have ll : (TL.tl z).length = z.length := (TL.len_tl z).symm
    have hzl : z.length ≤ sizeLine := by rw [sizeLine_eq]; omega
    have bad : ∀ H', Same H H' → whole (TL.tl z) = none → Q .non H' := fun H' s e => by
      have := k H' s
      rw [e] at this
      exact this
    have wf : ∀ l : List Nat, (canonB l && Nat.ble l.length 400) = false → whole l = none := fun l e => by
      unfold whole
      rw [e]
      rfl
    refine ⟨_, rfl, z, rfl, hzl, _, _, rfl, rfl, decide ((1 : Int) ≤ (z.length : Int)), rfl, ?_⟩
    by_cases h1 : 1 ≤ z.length
    · rw [decide_eq_true (show (1 : Int) ≤ (z.length : Int) by omega)]
      refine iteT ⟨_, _, rfl, rfl, decide ((z.length : Int) ≤ 400), rfl, ?_⟩
      by_cases h2 : z.length ≤ 400
      · rw [decide_eq_true (show (z.length : Int) ≤ 400 by omega)]
        refine iteF ⟨_, rfl, z, rfl, fun D0 hD => lc_signs (z := z) (fun j H' => H' = upd H D0 (.lst ((((TL.tl z).take j).map fun c => !digB c).map V.bl))) rfl (fun j c Hb hc e => ?_) (fun Hb e => ?_)⟩
        · subst e
          refine ⟨rfl, lcYes ⟨_, rfl, c, "0123456789", rfl, rfl, _, upd_same, ?_, ?_⟩⟩
          · rw [List.length_map, List.length_map, List.length_take, sizeLine_eq]
            omega
          · show upd (upd H D0 _) D0 _ = upd H D0 _
            rw [upd_upd, List.take_add_one, mem_digits, show (TL.tl z)[j]? = some c from hc]
            simp only [List.map_append, Option.toList, List.map_cons, List.map_nil]
        · subst e
          rw [show z.cps.toList.length = (TL.tl z).length from rfl, List.take_length]
          have sm : Same H (upd H D0 (.lst (((TL.tl z).map fun c => !digB c).map V.bl))) := Same.new hD
          refine ⟨D0, _, rfl, SqL.of upd_same, _, rfl, ?_⟩
          generalize upd H D0 (.lst (((TL.tl z).map fun c => !digB c).map V.bl)) = H1 at sm
          have ea : (((TL.tl z).map fun c => !digB c).any id) = !((TL.tl z).all digB) := by
            rw [List.any_map, List.not_all_eq_any_not]
            rfl
          rw [ea]
          obtain ⟨c0, r, el⟩ : ∃ c r, TL.tl z = c :: r := by
            cases q : TL.tl z with
            | nil => rw [q] at ll; have : z.length = 0 := ll.symm; omega
            | cons c r => exact ⟨c, r, rfl⟩
          cases hd : (TL.tl z).all digB with
          | false =>
            refine iteT (bad _ sm (wf _ ?_))
            unfold canonB
            have : ((TL.tl z).all fun c => Nat.ble 48 c && Nat.ble c 57) = false := hd
            rw [this, Bool.false_and, Bool.and_false, Bool.false_and]
          | true =>
            have hd' : ((TL.tl z).all fun c => Nat.ble 48 c && Nat.ble c 57) = true := hd
            refine iteF ⟨_, rfl, z, 0, c0, rfl, rfl, hzl, by rw [show z.cps.toList = c0 :: r from el]; exact atI_nat (j := 0) rfl, rfl, _, rfl, ?_⟩
            have e48 : decide (V.str ⟨#[c0]⟩ = V.str "0") = (c0 == 48) := by
              have z0 : ("0" : Str) = ⟨#[48]⟩ := by decide +kernel
              rw [z0, Bool.eq_iff_iff, decide_eq_true_eq, beq_iff_eq]
              constructor
              · intro h
                cases h
                rfl
              · intro h
                rw [h]
            rw [e48]
            have ec : canonB (TL.tl z) = !(c0 == 48 && (TL.tl z).length != 1) := by
              unfold canonB
              rw [hd', Bool.true_and, el]
              show (true && !((some c0 == some 48) && _)) = _
              rw [Bool.true_and]
              rfl
            have good : canonB (TL.tl z) = true → tRet (tCB (fun xs H Q => ∃ a n, xs = [V.str a] ∧ PySem.intText? a = some n ∧ a.length ≤ 4300 ∧ Q (.int n) H) (tCons (tVar 0) tNil)) { nx := fun _ H' => Q .non H', rt := Q } [some (.str z), none] H1 := fun cb => by
              obtain ⟨_, a2, _⟩ := canonB_iff.mp cb
              refine ⟨_, rfl, z, _, rfl, PySem.intText_digits (x := z) a2 (by rw [show z.cps.toList = c0 :: r from el]; simp) (by omega), by omega, ?_⟩
              have q := k H1 sm
              have e : whole (TL.tl z) = some (PySem.NumText.digitsVal (TL.tl z)) := by
                unfold whole
                rw [cb, Bool.true_and, if_pos (Nat.ble_eq.mpr (by omega))]
              rw [e] at q
              exact q
            cases h48 : (c0 == 48) with
            | false => exact iteF (iteF (good (by rw [ec, h48]; rfl)))
            | true =>
              refine iteT ⟨_, rfl, z, rfl, hzl, _, _, rfl, rfl, _, rfl, ?_⟩
              by_cases h3 : 1 < z.length
              · rw [decide_eq_true (show (1 : Int) < (z.length : Int) by omega)]
                refine iteT (bad _ sm (wf _ ?_))
                have : ((TL.tl z).length != 1) = true := by rw [bne_iff_ne]; omega
                rw [ec, h48, this]
                rfl
              · rw [decide_eq_false (show ¬ (1 : Int) < (z.length : Int) by omega)]
                refine iteF (good ?_)
                have : ((TL.tl z).length != 1) = false := by rw [bne_eq_false_iff_eq]; omega
                rw [ec, h48, this]
                rfl
      · rw [decide_eq_false (show ¬ (z.length : Int) ≤ 400 by omega)]
        refine iteT (iteT (bad _ (Same.refl H) (wf _ ?_)))
        have : Nat.ble (TL.tl z).length 400 = false := by
          cases e : Nat.ble (TL.tl z).length 400 with
          | false => rfl
          | true => have := Nat.ble_eq.mp e; omega
        rw [this, Bool.and_false]
    · rw [decide_eq_false (show ¬ (1 : Int) ≤ (z.length : Int) by omega)]
      refine iteF ⟨_, rfl, iteT (iteT (bad _ (Same.refl H) (wf _ ?_)))⟩
      have : ((TL.tl z).length != 0) = false := by rw [bne_eq_false_iff_eq]; omega
      unfold canonB
      rw [this]
      rfl
end
end K00

set_option Elab.async false
set_option linter.all false
set_option maxRecDepth 100000
set_option maxHeartbeats 4000000
namespace K00
open PySem L2
/-! ### read_ratio -/
theorem cut_cases (l : List Nat) : (47 ∉ l ∧ cutAt l = none) ∨ ∃ p q, 47 ∉ p ∧ l = p ++ 47 :: q ∧ cutAt l = some (p, q) := by
  by_cases h : 47 ∈ l
  · obtain ⟨p, q, e, hp⟩ := List.eq_append_cons_of_mem h
    exact .inr ⟨p, q, hp, e, by rw [e]; exact cut_some hp⟩
  · exact .inl ⟨h, cut_none h⟩
theorem drop_free {p : List Nat} {k : Nat} (h : 47 ∉ p) : 47 ∉ p.drop k := fun z => h (List.mem_of_mem_drop z)
theorem minus_app {p q : List Nat} : minusB (p ++ 47 :: q) = minusB p ∧ (p ++ 47 :: q).drop (minusB p).toNat = p.drop (minusB p).toNat ++ 47 :: q := by
  cases p with
  | nil => exact ⟨rfl, rfl⟩
  | cons c r =>
    refine ⟨rfl, ?_⟩
    cases minusB (c :: r) <;> rfl
/-- rd by the parts that partition tells -/
theorem rd_none {l : List Nat} (h : 47 ∉ l) : rd l = rdP (minusB l) (whole (l.drop (minusB l).toNat)) (some 1) false := by
  unfold rd
  rw [cut_none (drop_free h)]
theorem rd_some {p q : List Nat} (h : 47 ∉ p) : rd (p ++ 47 :: q) = rdP (minusB p) (whole (p.drop (minusB p).toNat)) (whole q) true := by
  obtain ⟨e1, e2⟩ := minus_app (p := p) (q := q)
  unfold rd
  rw [e1, e2, cut_some (drop_free h)]
theorem tl_cut1 (z : Str) : TL.tl (cutS z none (some 1)) = (TL.tl z).take 1 := by
  unfold cutS
  rw [TL.tl_mk]
  have e0 : HT.sIx z.length 0 none = 0 := rfl
  have e1 : HT.sIx z.length z.length (some 1) = min 1 z.length := HT.sIx_nat z.length z.length 1
  rw [e0, e1, List.drop_zero, Nat.sub_zero, TL.len_tl]
  show (TL.tl z).take (min 1 (TL.tl z).length) = _
  rw [Nat.min_def]
  split
  · rfl
  · rename_i h
    have : (TL.tl z).length = 0 := by omega
    rw [List.length_eq_zero_iff.mp this]
    rfl
theorem tl_cut2 (z : Str) : TL.tl (cutS z (some 1) none) = (TL.tl z).drop 1 := by
  unfold cutS
  rw [TL.tl_mk]
  have e0 : HT.sIx z.length z.length none = z.length := rfl
  have e1 : HT.sIx z.length 0 (some 1) = min 1 z.length := HT.sIx_nat z.length 0 1
  rw [e0, e1, TL.len_tl]
  show ((TL.tl z).drop (min 1 (TL.tl z).length)).take _ = _
  cases q : TL.tl z with
  | nil => rfl
  | cons c r =>
    have : min 1 (c :: r).length = 1 := by rw [List.length_cons]; omega
    rw [this]
    exact List.take_of_length_le (by rw [List.length_drop]; exact Nat.le_refl _)
theorem minus_cut (z : Str) : decide (V.str (cutS z none (some 1)) = V.str "-") = minusB (TL.tl z) := by
  have e : TL.tl ("-" : Str) = [45] := by decide +kernel
  unfold minusB
  rw [Bool.eq_iff_iff, decide_eq_true_eq, beq_iff_eq]
  constructor
  · intro h
    have h2 : cutS z none (some 1) = "-" := V.str.inj h
    have h3 := tl_cut1 z
    rw [h2, e] at h3
    cases q : TL.tl z with
    | nil => rw [q] at h3; cases h3
    | cons c r =>
      rw [q] at h3
      cases h3
      rfl
  · intro h
    congr 1
    refine TL.ext_tl ?_
    rw [tl_cut1, e]
    cases q : TL.tl z with
    | nil => rw [q] at h; cases h
    | cons c r =>
      rw [q] at h
      cases h
      rfl
/-- the parts of a text that partition gives -/
theorem parted (z : Str) : ∃ (fr sl bk : Str) (sb : Bool), Txt.partition z "/" = (fr, sl, bk) ∧ (sl.length ≤ sizeLine ∧ sb = ((sl.length : Int) != 0)) ∧ fr.length ≤ z.length ∧ bk.length ≤ z.length ∧
    rd (TL.tl z) = rdP (minusB (TL.tl fr)) (whole ((TL.tl fr).drop (minusB (TL.tl fr)).toNat)) (if sb = true then whole (TL.tl bk) else some 1) sb := by
  have ey : TL.tl ("/" : Str) = 47 :: [] := by decide +kernel
  rcases cut_cases (TL.tl z) with ⟨h, _⟩ | ⟨p, q, hp, e, _⟩
  · exact ⟨z, Str.empty, Str.empty, false, TL.partition_none ey h, ⟨Nat.zero_le _, rfl⟩, Nat.le_refl _, Nat.zero_le _, rd_none h⟩
  · have ez : (⟨p.toArray⟩ : Str) ++ "/" ++ (⟨q.toArray⟩ : Str) = z := TL.ext_tl (by
      rw [TL.tl_append, TL.tl_append, ey, e, TL.tl_mk, TL.tl_mk, List.append_assoc]
      rfl)
    have a := TL.partition_app (y := "/") (s := 47) (S := []) ey (a := ⟨p.toArray⟩) (b := ⟨q.toArray⟩) hp
    rw [ez] at a
    refine ⟨_, _, _, true, a, ⟨by decide +kernel, by decide +kernel⟩, ?_, ?_, ?_⟩
    · rw [TL.len_tl, TL.len_tl z, e, TL.tl_mk, List.length_append]
      omega
    · rw [TL.len_tl, TL.len_tl z, e, TL.tl_mk, List.length_append, List.length_cons]
      omega
    · rw [e]
      exact rd_some hp
def RdAt (r : Option (Int × Int)) (H : Hp) (Q : VK) : Prop := match r with
  | none => Q .non H
  | some (n, d) => ∀ t, H t = none → Q (.ref t) (upd H t (.tup [.int n, .int d]))
def spRead (K : PySem.W.Frag) (C : Addr) : Sp := fun vs H Q E => ∃ (st : Addr) (v : V) (d : D), vs = [v] ∧ Val K st H v d ∧ (∀ z, d = .str z → z.length ≤ 19000 ∧ ∀ H', Same H H' → RdAt (rd (TL.tl z)) H' Q) ∧ ((∀ z, d ≠ .str z) → Out C "word" H E)
section
variable {P : Program} {w : World} {K : PySem.W.Frag} {mg : Str → Option Value} {base : Heap} {CW : Addr}
abbrev s_p_read_ratio : Stmt := top 19
theorem sc_p_read_ratio : FnScope ["word", "front", "slash", "back", "minus", "above", "below"] ["word"] (defScope s_p_read_ratio) := ⟨rfl, rfl, rfl, by decide +kernel, rfl, by decide +kernel, by decide +kernel⟩
theorem ok_p_read_ratio {f : Addr} {fd : FuncData} (F : Fun K "read_ratio" "read_ratio" s_p_read_ratio f fd) (T : TxtW K mg) (eW : Err P w K mg base "WrongKind" CW ["argument"]) (c_p_whole : Callee P w K mg base CX0 1 "_whole" ["digits"] spWhole) :
    FnOk P w K mg base (L2N.CX P w) 5 f fd ["word"] (spRead K CW) := by
  refine okN F sc_p_read_ratio (fun vs H Q E h => ?_) (fun cdv A outer s H vs Q E hr h => ?_)
  · obtain ⟨_, _, _, rfl, _⟩ := h
    rfl
  · obtain ⟨st, v, d, rfl, hv, k1, k2⟩ := h
    refine ⟨_, (pss_cons (ps_if (pt_not (pt_val (pe_callB call_isi (by rfl) T.isinstance (by decide +kernel) (pa_cons (pv 0) (pa_cons (pe_bltn (v := .ty "str") (by rfl) T.str (by decide +kernel) rfl) pa_nil))))) (pss_one (L2N.ps_raise rfl (L2N.takes_of rfl rfl rfl rfl) (pmk_err eW (hr.mono (by decide)) (pa_cons pe_str pa_nil) (by rfl)))) pss_nil)
  (pss_cons (ps_asg (pe_partition (pv 0) pe_str) (pg_tup rfl (pgs_cons (pg_name (i := 1) sc_p_read_ratio.nd rfl (.inl rfl)) (pgs_cons (pg_name (i := 2) sc_p_read_ratio.nd rfl (.inl rfl)) (pgs_cons (pg_name (i := 3) sc_p_read_ratio.nd rfl (.inl rfl)) pgs_nil)))))
  (pss_cons (ps_set (i := 4) sc_p_read_ratio.nd rfl (Or.inl rfl) (pe_cmpR op_eq (pe_slice sl_str (pv 1) po_none (po_some pe_int)) pe_str (nomark _)))
  (pss_cons (ps_set (i := 5) sc_p_read_ratio.nd rfl (Or.inl rfl) (pe_fn c_p_whole (hr.mono (by decide)) (by rfl) pass0 (pa_cons (pe_ifExp (pt_val (pv 4)) (pe_slice sl_str (pv 1) (po_some pe_int) po_none) (pv 1)) pa_nil)))
  (pss_cons (ps_set (i := 6) sc_p_read_ratio.nd rfl (Or.inl rfl) (pe_ifExp (pt_truth (pv 2) (by intro _; rfl)) (pe_fn c_p_whole (hr.mono (by decide)) (by rfl) pass0 (pa_cons (pv 3) pa_nil)) pe_int))
  (pss_cons (ps_if (PW.pt (pw_or (pt_cmpR op_isN (pv 5) pe_non (nomark _)) (pw_or (pt_cmpR op_isN (pv 6) pe_non (nomark _)) (pw_or1 (PW.pt (pw_and (pt_val (pv 4)) (pw_and1 (pt_cmpR op_eq (pv 5) pe_int (nomark _))))))))) (pss_one (ps_ret pe_non)) pss_nil)
  (pss_cons (ps_if (PW.pt (pw_and (pt_truth (pv 2) (by intro _; rfl)) (pw_and1 (PW.pt (pw_or (pt_cmpR op_lt (pv 6) pe_int (nomark _)) (pw_or1 (pt_cmpR op_ne (pe_callBfun cr_gcd (by rfl) T.gcd (pa_cons (pv 5) (pa_cons (pv 6) pa_nil))) pe_int (nomark _)))))))) (pss_one (ps_ret pe_non)) pss_nil)
  (pss_one (ps_ret (pe_tup (pa_cons (pe_ifExp (pt_val (pv 4)) (pe_un un_neg (pv 5)) (pv 5)) (pa_cons (pv 6) pa_nil)))))))))))), ?_⟩
    refine ⟨_, rfl, _, _, _, _, _, rfl, .ty _, hv.ty, isC_kit .str _, _, rfl, ?_⟩
    have bad : (∀ z, d ≠ .str z) → (fun σ H => tErr K CW ["argument"] (tCons (tC (.str "word")) tNil) σ H fun cls d H' => E cls d H') [some v, none, none, none, none, none, none] H := fun hn =>
      ⟨rfl, ⟨[.str "word"], fun _ => .cons (.str _) .nil, fun y hm => by
        rw [List.mem_singleton] at hm
        cases hm
        decide +kernel⟩, fun dd hd => k2 hn H dd (Same.refl H) hd⟩
    cases hv with
    | non => exact iteT (bad fun z e => by cases e)
    | bl b => exact iteT (bad fun z e => by cases e)
    | int i => exact iteT (bad fun z e => by cases e)
    | tup h r => exact iteT (bad fun z e => by cases e)
    | lst n h r => exact iteT (bad fun z e => by cases e)
    | dct n h => exact iteT (bad fun z e => by cases e)
    | str z =>
      obtain ⟨hz, k⟩ := k1 z rfl
      clear k1 k2 bad
      refine iteF ?_
      obtain ⟨fr, sl, bk, sb, ep, tsl, lf, lb, er⟩ := parted z
      have zl : z.length ≤ sizeLine := by rw [sizeLine_eq]; omega
      refine ⟨_, rfl, ⟨_, rfl⟩, z, "/", rfl, rfl, by decide +kernel, zl, fun p hp => ?_⟩
      rw [ep]
      have s1 : Same H (upd H p (.tup [.str fr, .str sl, .str bk])) := Same.new hp
      refine ⟨p, _, rfl, SqT.of upd_same, rfl, _, _, rfl, _, _, rfl, _, _, rfl, rfl, ?_⟩
      change tSeq _ _ _ _ (upd H p (.tup [.str fr, .str sl, .str bk]))
      generalize upd H p (.tup [.str fr, .str sl, .str bk]) = H1 at s1 ⊢
      refine ⟨_, rfl, 1, rfl, fr, rfl, by rw [sizeLine_eq]; omega, rfl, ?_⟩
      rw [minus_cut]
      -- MB
      have lf' : fr.length ≤ 20000 := by omega
      have lb' : bk.length ≤ 20000 := by omega
      have lfs : fr.length ≤ sizeLine := by rw [sizeLine_eq]; omega
      cases hm : minusB (TL.tl fr) with
      | false =>
        rw [hm] at er
        rw [show (false : Bool).toNat = 0 from rfl, List.drop_zero] at er
        refine ⟨_, rfl, _, rfl, iteF ⟨_, rfl, fr, rfl, lf', fun H2 s2 => ?_⟩⟩
        cases sb with
        | false =>
          rw [if_neg (by decide)] at er
          refine ⟨_, rfl, false, tsl, iteF ?_⟩
          have kk := k _ (s1.trans s2)
          rw [er] at kk
          generalize whole (TL.tl fr) = oa at kk ⊢
          cases oa with
          | none => exact ⟨_, rfl, rfl, _, rfl, iteT (iteT kk)⟩
          | some a =>
            refine ⟨_, rfl, rfl, _, rfl, iteF ?_⟩
            change RdAt (if ((false && a == 0) || (false && (Nat.blt 1 2 || Nat.gcd a 1 != 1))) = true then none else some (if false = true then -(a : Int) else (a : Int), ((1 : Nat) : Int))) _ Q at kk
            refine ⟨_, rfl, rfl, _, rfl, iteF ⟨_, rfl, _, rfl, iteF (iteF ?_)⟩⟩
            exact ⟨_, rfl, false, tsl, iteF (iteF ⟨_, rfl, _, rfl, iteF ⟨_, rfl, _, rfl, by show 2 ≤ sizeLine; decide, fun t ht => kk t ht⟩⟩)⟩
        | true =>
          rw [if_pos rfl] at er
          refine ⟨_, rfl, true, tsl, iteT ⟨_, rfl, bk, rfl, lb', fun H3 s3 => ?_⟩⟩
          have kk := k _ ((s1.trans s2).trans s3)
          rw [er] at kk
          generalize whole (TL.tl fr) = oa at kk ⊢
          cases oa with
          | none => exact ⟨_, rfl, rfl, _, rfl, iteT (iteT kk)⟩
          | some a =>
            refine ⟨_, rfl, rfl, _, rfl, iteF ?_⟩
            generalize whole (TL.tl bk) = ob at kk ⊢
            cases ob with
            | none => exact ⟨_, rfl, rfl, _, rfl, iteT (iteT kk)⟩
            | some b =>
              change RdAt (if ((false && a == 0) || (true && (Nat.blt b 2 || Nat.gcd a b != 1))) = true then none else some (if false = true then -(a : Int) else (a : Int), ((b : Nat) : Int))) _ Q at kk
              refine ⟨_, rfl, rfl, _, rfl, iteF ⟨_, rfl, _, rfl, iteF (iteF ?_)⟩⟩
              refine ⟨_, rfl, true, tsl, iteT ⟨_, rfl, _, _, rfl, rfl, _, rfl, ite2 (fun hb => ?_) (fun hb => ?_)⟩⟩
              · have b2 : Nat.blt b 2 = true := Nat.ble_eq.mpr (by have := of_decide_eq_true hb; show b + 1 ≤ 2; omega)
                rw [b2] at kk
                exact iteT kk
              have b2 : Nat.blt b 2 = false := by
                cases e : Nat.blt b 2 with
                | false => rfl
                | true => exact absurd (decide_eq_true (show (b : Int) < 2 by have : b + 1 ≤ 2 := Nat.ble_eq.mp e; omega)) hb
              rw [b2] at kk
              refine ⟨_, rfl, _, rfl, (a : Int), (b : Int), rfl, rfl, _, rfl, ?_⟩
              by_cases hg : Nat.gcd a b = 1
              · have g1 : (Nat.gcd a b != 1) = false := by rw [bne_eq_false_iff_eq]; exact hg
                rw [g1] at kk
                refine ite_nn (by rw [Int.natAbs_natCast, Int.natAbs_natCast, hg]; rfl) ⟨_, rfl, _, rfl, iteF ⟨_, rfl, _, rfl, by show 2 ≤ sizeLine; decide, fun t ht => kk t ht⟩⟩
              · have g1 : (Nat.gcd a b != 1) = true := by rw [bne_iff_ne]; exact hg
                rw [g1] at kk
                exact ite_ne (by rw [Int.natAbs_natCast, Int.natAbs_natCast]; omega) kk
      | true =>
        rw [hm] at er
        rw [show (true : Bool).toNat = 1 from rfl, ← tl_cut2] at er
        refine ⟨_, rfl, _, rfl, iteT ⟨_, rfl, 1, rfl, fr, rfl, lfs, cutS fr (some 1) none, rfl, Nat.le_trans (cutS_length _ _ _) lf', fun H2 s2 => ?_⟩⟩
        cases sb with
        | false =>
          rw [if_neg (by decide)] at er
          refine ⟨_, rfl, false, tsl, iteF ?_⟩
          have kk := k _ (s1.trans s2)
          rw [er] at kk
          generalize whole (TL.tl (cutS fr (some 1) none)) = oa at kk ⊢
          cases oa with
          | none => exact ⟨_, rfl, rfl, _, rfl, iteT (iteT kk)⟩
          | some a =>
            refine ⟨_, rfl, rfl, _, rfl, iteF ?_⟩
            change RdAt (if ((true && a == 0) || (false && (Nat.blt 1 2 || Nat.gcd a 1 != 1))) = true then none else some (if true = true then -(a : Int) else (a : Int), ((1 : Nat) : Int))) _ Q at kk
            refine ⟨_, rfl, rfl, _, rfl, iteF ⟨_, rfl, _, rfl, iteT ⟨_, rfl, rfl, _, rfl, ite2 (fun ha => ?_) (fun ha => ?_)⟩⟩⟩
            · have a0 : a = 0 := by have := int_eq ha; omega
              subst a0
              exact kk
            have a0 : (a == 0) = false := by
              rw [beq_eq_false_iff_ne]
              intro e
              exact int_ne ha (by rw [e]; rfl)
            simp only [a0, Bool.and_false, Bool.false_or] at kk
            exact ⟨_, rfl, false, tsl, iteF (iteF ⟨_, rfl, _, rfl, iteT ⟨_, rfl, _, rfl, _, rfl, by show 2 ≤ sizeLine; decide, fun t ht => kk t ht⟩⟩)⟩
        | true =>
          rw [if_pos rfl] at er
          refine ⟨_, rfl, true, tsl, iteT ⟨_, rfl, bk, rfl, lb', fun H3 s3 => ?_⟩⟩
          have kk := k _ ((s1.trans s2).trans s3)
          rw [er] at kk
          generalize whole (TL.tl (cutS fr (some 1) none)) = oa at kk ⊢
          cases oa with
          | none => exact ⟨_, rfl, rfl, _, rfl, iteT (iteT kk)⟩
          | some a =>
            refine ⟨_, rfl, rfl, _, rfl, iteF ?_⟩
            generalize whole (TL.tl bk) = ob at kk ⊢
            cases ob with
            | none => exact ⟨_, rfl, rfl, _, rfl, iteT (iteT kk)⟩
            | some b =>
              change RdAt (if ((true && a == 0) || (true && (Nat.blt b 2 || Nat.gcd a b != 1))) = true then none else some (if true = true then -(a : Int) else (a : Int), ((b : Nat) : Int))) _ Q at kk
              refine ⟨_, rfl, rfl, _, rfl, iteF ⟨_, rfl, _, rfl, iteT ⟨_, rfl, rfl, _, rfl, ite2 (fun ha => ?_) (fun ha => ?_)⟩⟩⟩
              · have a0 : a = 0 := by have := int_eq ha; omega
                subst a0
                exact kk
              have a0 : (a == 0) = false := by
                rw [beq_eq_false_iff_ne]
                intro e
                exact int_ne ha (by rw [e]; rfl)
              simp only [a0, Bool.and_false, Bool.false_or] at kk
              refine ⟨_, rfl, true, tsl, iteT ⟨_, rfl, _, _, rfl, rfl, _, rfl, ite2 (fun hb => ?_) (fun hb => ?_)⟩⟩
              · have b2 : Nat.blt b 2 = true := Nat.ble_eq.mpr (by have := of_decide_eq_true hb; show b + 1 ≤ 2; omega)
                rw [b2] at kk
                exact iteT kk
              have b2 : Nat.blt b 2 = false := by
                cases e : Nat.blt b 2 with
                | false => rfl
                | true => exact absurd (decide_eq_true (show (b : Int) < 2 by have : b + 1 ≤ 2 := Nat.ble_eq.mp e; omega)) hb
              rw [b2] at kk
              refine ⟨_, rfl, _, rfl, (a : Int), (b : Int), rfl, rfl, _, rfl, ?_⟩
              by_cases hg : Nat.gcd a b = 1
              · have g1 : (Nat.gcd a b != 1) = false := by rw [bne_eq_false_iff_eq]; exact hg
                rw [g1] at kk
                refine ite_nn (by rw [Int.natAbs_natCast, Int.natAbs_natCast, hg]; rfl) ⟨_, rfl, _, rfl, iteT ⟨_, rfl, _, rfl, _, rfl, by show 2 ≤ sizeLine; decide, fun t ht => kk t ht⟩⟩
              · have g1 : (Nat.gcd a b != 1) = true := by rw [bne_iff_ne]; exact hg
                rw [g1] at kk
                exact ite_ne (by rw [Int.natAbs_natCast, Int.natAbs_natCast]; omega) kk
end
end K00

set_option Elab.async false
set_option linter.all false
set_option maxRecDepth 100000
set_option maxHeartbeats 4000000
namespace K00
open PySem L2
/-! ### the law's own reading -/
section
variable {P : Program} {w : World} {K : PySem.W.Frag} {mg : Str → Option Value} {base : Heap} {CW : Addr}
abbrev s_digits : Stmt := top 28
theorem sc_digits : FnScope ["_law_text", "_law_mark"] ["_law_text"] (defScope s_digits) := ⟨rfl, rfl, rfl, by decide +kernel, rfl, by decide +kernel, by decide +kernel⟩
theorem ok_digits {f : Addr} {fd : FuncData} (F : Fun K "_law_digits" "_law_digits" s_digits f fd) (T : TxtW K mg) : FnOk P w K mg base CX0 1 f fd ["_law_text"] spWhole := by
  refine F.ok sc_digits (fun vs H Q E h => ?_) (fun cdv A outer s H vs Q E hr h => ?_)
  · obtain ⟨_, rfl, _⟩ := h
    rfl
  · obtain ⟨z, rfl, hz, k⟩ := h
    refine ⟨_, (pss_cons (ps_if (PW.pt (pw_or (pt_cmpR op_eq (pe_callB call_len_str (by rfl) T.len PySem.boot_len (pa_cons (pv 0) pa_nil)) pe_int (nomark _)) (pw_or (pt_cmpR op_gt (pe_callB call_len_str (by rfl) T.len PySem.boot_len (pa_cons (pv 0) pa_nil)) pe_int (nomark _)) (pw_or1 (PW.pt (pw_and (pt_cmpR op_eq (pe_ix ix_str (pv 0) pe_int (fun _ _ => rfl)) pe_str (nomark _)) (pw_and1 (pt_cmpR op_gt (pe_callB call_len_str (by rfl) T.len PySem.boot_len (pa_cons (pv 0) pa_nil)) pe_int (nomark _))))))))) (pss_one (ps_ret pe_non)) pss_nil)
  (pss_cons (ps_if (pt_cmpR op_gt (pe_callB call_len_seq (by rfl) T.len PySem.boot_len (pa_cons (pe_lc (own := [("_law_mark", 1)]) (g := gName 1) rfl sc_digits.nd (pi_str (pv 0)) (blkOk_by (own := [("_law_mark", 1)]) (N := ["_law_text", "_law_mark"]) (sc := defScope s_digits) (by decide +kernel)) (fun _ _ _ _ _ => pg_name (i := 1) sc_digits.nd rfl (Or.inl rfl)) (fun _ _ _ _ _ => (pts_one (pt_cmpR op_notIn_sign (pv 1) pe_str (by rfl)))) (fun _ _ _ _ _ => (pv 1))) pa_nil)) pe_int (nomark _)) (pss_one (ps_ret pe_non)) pss_nil)
  (pss_one (ps_ret (pe_callTy (call_int_text T.dig) (by rfl) T.int (by decide +kernel) (pa_cons (pv 0) pa_nil)))))), ?_⟩
    have ll : (TL.tl z).length = z.length := (TL.len_tl z).symm
    have hzl : z.length ≤ sizeLine := by rw [sizeLine_eq]; omega
    have bad : ∀ H', Same H H' → (canonB (TL.tl z) && Nat.ble (TL.tl z).length 400) = false → Q .non H' := fun H' s e => by
      have := k H' s
      unfold whole at this
      rw [e] at this
      exact this
    refine ⟨_, rfl, z, rfl, hzl, rfl, _, rfl, ite2 (fun h0 => ?_) (fun h0 => ?_)⟩
    · have z0 : z.length = 0 := by have := int_eq h0; omega
      refine iteT (bad _ (Same.refl H) ?_)
      have : ((TL.tl z).length != 0) = false := by rw [bne_eq_false_iff_eq]; omega
      unfold canonB
      rw [this]
      rfl
    have z0 : z.length ≠ 0 := fun e => int_ne h0 (by rw [e]; rfl)
    obtain ⟨c0, r, el⟩ : ∃ c r, TL.tl z = c :: r := by
      cases q : TL.tl z with
      | nil => rw [q] at ll; exact absurd ll.symm z0
      | cons c r => exact ⟨c, r, rfl⟩
    refine ⟨_, rfl, z, rfl, hzl, _, _, rfl, rfl, _, rfl, ite2 (fun h1 => ?_) (fun h1 => ?_)⟩
    · have z1 := of_decide_eq_true h1
      refine iteT (bad _ (Same.refl H) ?_)
      have : Nat.ble (TL.tl z).length 400 = false := by
        cases e : Nat.ble (TL.tl z).length 400 with
        | false => rfl
        | true => have := Nat.ble_eq.mp e; omega
      rw [this, Bool.and_false]
    have z1 : z.length ≤ 400 := by
      have : ¬ (400 : Int) < z.length := fun e => h1 (decide_eq_true e)
      omega
    have hle : Nat.ble (TL.tl z).length 400 = true := Nat.ble_eq.mpr (by omega)
    rw [hle, Bool.and_true] at bad
    refine ⟨_, rfl, z, 0, c0, rfl, rfl, hzl, by rw [show z.cps.toList = c0 :: r from el]; exact atI_nat (j := 0) rfl, rfl, _, rfl, ?_⟩
    have e48 : decide (V.str ⟨#[c0]⟩ = V.str "0") = (c0 == 48) := by
      have z0 : ("0" : Str) = ⟨#[48]⟩ := by decide +kernel
      rw [z0, Bool.eq_iff_iff, decide_eq_true_eq, beq_iff_eq]
      constructor
      · intro h
        cases h
        rfl
      · intro h
        rw [h]
    rw [e48]
    have ec : (c0 == 48 && (TL.tl z).length != 1) = true → canonB (TL.tl z) = false := fun e => by
      unfold canonB
      rw [el] at e ⊢
      have e2 : ((c0 :: r).head? == some 48 && (c0 :: r).length != 1) = true := e
      rw [e2, Bool.not_true, Bool.and_false, Bool.and_false]
    cases h48 : (c0 == 48) with
    | false =>
      have ch : (c0 == 48 && (TL.tl z).length != 1) = false := by rw [h48]; rfl
      refine iteF (iteF ?_)
      refine ⟨_, rfl, z, rfl, fun D0 hD => lc_signs (z := z) (fun j H' => H' = upd H D0 (.lst ((((TL.tl z).take j).filter fun c => !digB c).map fun c => V.str ⟨#[c]⟩))) rfl (fun j c Hb hc e => ?_) (fun Hb e => ?_)⟩
      · subst e
        refine ⟨rfl, _, rfl, c, "0123456789", rfl, rfl, _, rfl, ?_⟩
        rw [mem_digits]
        have et : (TL.tl z).take (j + 1) = (TL.tl z).take j ++ [c] := by rw [List.take_add_one, show (TL.tl z)[j]? = some c from hc]; rfl
        cases hg : digB c with
        | true =>
          refine iteF ?_
          show _ = _
          rw [et, List.filter_append, List.filter_cons, hg]
          simp
        | false =>
          refine iteT ⟨_, rfl, _, upd_same, ?_, ?_⟩
          · rw [List.length_map, sizeLine_eq]
            have := List.length_filter_le (fun c => !digB c) ((TL.tl z).take j)
            rw [List.length_take] at this
            omega
          · show upd (upd H D0 _) D0 _ = _
            rw [upd_upd, et, List.filter_append, List.filter_cons, hg]
            simp
      · subst e
        rw [show z.cps.toList.length = (TL.tl z).length from rfl, List.take_length]
        have sm : Same H (upd H D0 (.lst (((TL.tl z).filter fun c => !digB c).map fun c => V.str ⟨#[c]⟩))) := Same.new hD
        refine ⟨D0, _, rfl, .inl (SqL.of upd_same), _, _, rfl, rfl, _, rfl, ?_⟩
        generalize upd H D0 (.lst (((TL.tl z).filter fun c => !digB c).map fun c => V.str ⟨#[c]⟩)) = H1 at sm
        rw [List.length_map]
        cases hd : (TL.tl z).all digB with
        | true =>
          have e0 : ((TL.tl z).filter fun c => !digB c) = [] := by
            rw [List.filter_eq_nil_iff]
            intro c hc
            rw [List.all_eq_true.mp hd c hc]
            decide
          rw [e0]
          have cb : canonB (TL.tl z) = true := by
            have e1 : ((TL.tl z).length != 0) = true := by rw [bne_iff_ne]; omega
            have e2 : ((TL.tl z).all fun c => Nat.ble 48 c && Nat.ble c 57) = true := hd
            have e3 : ((TL.tl z).head? == some 48 && (TL.tl z).length != 1) = false := by rw [← ch, el]; rfl
            unfold canonB
            rw [e1, e2, e3]
            rfl
          obtain ⟨_, a2, _⟩ := canonB_iff.mp cb
          refine iteF ⟨_, rfl, z, _, rfl, PySem.intText_digits (x := z) a2 (by rw [show z.cps.toList = c0 :: r from el]; simp) (by omega), by omega, ?_⟩
          have q := k H1 sm
          have e : whole (TL.tl z) = some (PySem.NumText.digitsVal (TL.tl z)) := by
            unfold whole
            rw [cb, hle]
            rfl
          rw [e] at q
          exact q
        | false =>
          have e1 : 0 < ((TL.tl z).filter fun c => !digB c).length := by
            cases q : (TL.tl z).filter fun c => !digB c with
            | cons c r => exact Nat.succ_pos _
            | nil =>
              have : (TL.tl z).all digB = true := List.all_eq_true.mpr fun c hc => by
                have := (List.filter_eq_nil_iff.mp q) c hc
                simpa using this
              rw [this] at hd
              cases hd
          rw [decide_eq_true (show (0 : Int) < ((((TL.tl z).filter fun c => !digB c).length : Nat) : Int) by omega)]
          refine iteT (bad _ sm ?_)
          unfold canonB
          have e2 : ((TL.tl z).all fun c => Nat.ble 48 c && Nat.ble c 57) = false := hd
          rw [e2, Bool.false_and, Bool.and_false]
    | true =>
      refine iteT ⟨_, rfl, z, rfl, hzl, _, _, rfl, rfl, _, rfl, ?_⟩
      by_cases h3 : 1 < z.length
      · rw [decide_eq_true (show (1 : Int) < (z.length : Int) by omega)]
        refine iteT (bad _ (Same.refl H) (ec ?_))
        rw [h48, Bool.true_and, bne_iff_ne]
        omega
      · rw [decide_eq_false (show ¬ (1 : Int) < (z.length : Int) by omega)]
        have ch : (c0 == 48 && (TL.tl z).length != 1) = false := by rw [h48, Bool.true_and, bne_eq_false_iff_eq]; omega
        refine iteF ?_
        refine ⟨_, rfl, z, rfl, fun D0 hD => lc_signs (z := z) (fun j H' => H' = upd H D0 (.lst ((((TL.tl z).take j).filter fun c => !digB c).map fun c => V.str ⟨#[c]⟩))) rfl (fun j c Hb hc e => ?_) (fun Hb e => ?_)⟩
        · subst e
          refine ⟨rfl, _, rfl, c, "0123456789", rfl, rfl, _, rfl, ?_⟩
          rw [mem_digits]
          have et : (TL.tl z).take (j + 1) = (TL.tl z).take j ++ [c] := by rw [List.take_add_one, show (TL.tl z)[j]? = some c from hc]; rfl
          cases hg : digB c with
          | true =>
            refine iteF ?_
            show _ = _
            rw [et, List.filter_append, List.filter_cons, hg]
            simp
          | false =>
            refine iteT ⟨_, rfl, _, upd_same, ?_, ?_⟩
            · rw [List.length_map, sizeLine_eq]
              have := List.length_filter_le (fun c => !digB c) ((TL.tl z).take j)
              rw [List.length_take] at this
              omega
            · show upd (upd H D0 _) D0 _ = _
              rw [upd_upd, et, List.filter_append, List.filter_cons, hg]
              simp
        · subst e
          rw [show z.cps.toList.length = (TL.tl z).length from rfl, List.take_length]
          have sm : Same H (upd H D0 (.lst (((TL.tl z).filter fun c => !digB c).map fun c => V.str ⟨#[c]⟩))) := Same.new hD
          refine ⟨D0, _, rfl, .inl (SqL.of upd_same), _, _, rfl, rfl, _, rfl, ?_⟩
          generalize upd H D0 (.lst (((TL.tl z).filter fun c => !digB c).map fun c => V.str ⟨#[c]⟩)) = H1 at sm
          rw [List.length_map]
          cases hd : (TL.tl z).all digB with
          | true =>
            have e0 : ((TL.tl z).filter fun c => !digB c) = [] := by
              rw [List.filter_eq_nil_iff]
              intro c hc
              rw [List.all_eq_true.mp hd c hc]
              decide
            rw [e0]
            have cb : canonB (TL.tl z) = true := by
              have e1 : ((TL.tl z).length != 0) = true := by rw [bne_iff_ne]; omega
              have e2 : ((TL.tl z).all fun c => Nat.ble 48 c && Nat.ble c 57) = true := hd
              have e3 : ((TL.tl z).head? == some 48 && (TL.tl z).length != 1) = false := by rw [← ch, el]; rfl
              unfold canonB
              rw [e1, e2, e3]
              rfl
            obtain ⟨_, a2, _⟩ := canonB_iff.mp cb
            refine iteF ⟨_, rfl, z, _, rfl, PySem.intText_digits (x := z) a2 (by rw [show z.cps.toList = c0 :: r from el]; simp) (by omega), by omega, ?_⟩
            have q := k H1 sm
            have e : whole (TL.tl z) = some (PySem.NumText.digitsVal (TL.tl z)) := by
              unfold whole
              rw [cb, hle]
              rfl
            rw [e] at q
            exact q
          | false =>
            have e1 : 0 < ((TL.tl z).filter fun c => !digB c).length := by
              cases q : (TL.tl z).filter fun c => !digB c with
              | cons c r => exact Nat.succ_pos _
              | nil =>
                have : (TL.tl z).all digB = true := List.all_eq_true.mpr fun c hc => by
                  have := (List.filter_eq_nil_iff.mp q) c hc
                  simpa using this
                rw [this] at hd
                cases hd
            rw [decide_eq_true (show (0 : Int) < ((((TL.tl z).filter fun c => !digB c).length : Nat) : Int) by omega)]
            refine iteT (bad _ sm ?_)
            unfold canonB
            have e2 : ((TL.tl z).all fun c => Nat.ble 48 c && Nat.ble c 57) = false := hd
            rw [e2, Bool.false_and, Bool.and_false]
end
end K00

set_option Elab.async false
set_option linter.all false
set_option maxRecDepth 100000
set_option maxHeartbeats 4000000
namespace K00
open PySem L2
def RdAt2 (r : Option (Int × Int)) (H : Hp) (Q : VK) : Prop := match r with
  | none => ∀ H', Same H H' → Q .non H'
  | some (n, d) => ∀ t H', Same H H' → H' t = some (.tup [.int n, .int d]) → Q (.ref t) H'
def spReading : Sp := fun vs H Q _ => ∃ z : Str, vs = [.str z] ∧ z.length ≤ 19000 ∧ RdAt2 (rd (TL.tl z)) H Q
theorem eqv_low {a b : Nat} (hb : 1 ≤ b) : PyData.eqv (.tuple [.int (lowP (a : Int) (b : Int)).1, .int (lowP (a : Int) (b : Int)).2]) (.tuple [.int (a : Int), .int (b : Int)]) = decide (Nat.gcd a b = 1) := by
  have e0 : ∀ x y n m : Int, PyData.eqv (.tuple [.int x, .int y]) (.tuple [.int n, .int m]) = (decide (x = n) && decide (y = m)) := fun x y n m => by
    show ((x == n) && ((y == m) && true)) = _
    rw [Bool.and_true]
    rfl
  rw [e0]
  unfold lowP
  rw [if_neg (show ¬ (b : Int) = 0 by omega)]
  show (decide (lowN (a : Int) (b : Int) = (a : Int)) && decide (lowD (a : Int) (b : Int) = (b : Int))) = _
  by_cases c : Nat.gcd a b = 1
  · obtain ⟨e1, e2⟩ := low_self (n := (a : Int)) (d := (b : Int)) (by omega) (by rw [Int.natAbs_natCast, Int.natAbs_natCast]; exact c)
    rw [e1, e2, decide_eq_true c, decide_eq_true rfl, decide_eq_true rfl]
    rfl
  · rw [decide_eq_false c]
    by_cases z : lowN (a : Int) (b : Int) = (a : Int) ∧ lowD (a : Int) (b : Int) = (b : Int)
    · exfalso
      have := low_cop (u := (a : Int)) (d := (b : Int)) (by omega)
      rw [z.1, z.2, Int.natAbs_natCast, Int.natAbs_natCast] at this
      exact c this
    · by_cases z1 : lowN (a : Int) (b : Int) = (a : Int)
      · rw [decide_eq_false (fun y => z ⟨z1, y⟩), Bool.and_false]
      · rw [decide_eq_false z1, Bool.false_and]
theorem p400 {a : Nat} (h : a < 10 ^ 400) : ((a : Nat) : Int).natAbs < 2 ^ 9000 := by
  rw [Int.natAbs_natCast]
  have e1 : (10 : Nat) ^ 400 ≤ 16 ^ 400 := Nat.pow_le_pow_left (by decide) 400
  have e2 : (16 : Nat) ^ 400 = 2 ^ 1600 := by rw [show (16 : Nat) = 2 ^ 4 by decide, ← Nat.pow_mul]
  have e3 : (2 : Nat) ^ 1600 ≤ 2 ^ 9000 := Nat.pow_le_pow_right (by decide) (by decide)
  rw [e2] at e1
  exact Nat.lt_of_lt_of_le h (Nat.le_trans e1 e3)
theorem spl_le : ∀ {l acc x : List Nat}, x ∈ TL.spl [47] 0 acc l → x.length ≤ acc.length + l.length
  | [], acc, x, h => by
    rw [TL.spl_nil] at h
    rw [List.mem_singleton.mp h]
    exact Nat.le_add_right _ _
  | c :: r, acc, x, h => by
    cases e : TL.pre [47] (c :: r) with
    | true =>
      rw [TL.spl_hit e] at h
      rcases List.mem_cons.mp h with rfl | h
      · exact Nat.le_add_right _ _
      · have := spl_le (l := r) (acc := []) h
        rw [List.length_nil] at this
        rw [List.length_cons]
        omega
    | false =>
      rw [TL.spl_miss e] at h
      have := spl_le (l := r) h
      rw [List.length_append, List.length_singleton] at this
      rw [List.length_cons]
      omega
/-- the parts between the strokes -/
theorem split_cases (z : Str) : ∃ ps : List Str, Txt.split z "/" = ps ∧ (∀ p ∈ ps, p.length ≤ z.length) ∧ ((∃ a, ps = [a] ∧ cutAt (TL.tl z) = none ∧ TL.tl a = TL.tl z) ∨ (∃ a b, ps = [a, b] ∧ cutAt (TL.tl z) = some (TL.tl a, TL.tl b)) ∨
    (2 < ps.length ∧ ∃ p q, cutAt (TL.tl z) = some (p, q) ∧ whole q = none)) := by
  have ey : TL.tl ("/" : Str) = [47] := by decide +kernel
  have e := TL.split_spl z "/" (by rw [ey]; simp) (TL.kind_ok (by decide +kernel))
  rw [ey] at e
  generalize Txt.split z "/" = ps at e
  have hl : ∀ p ∈ ps, p.length ≤ z.length := fun p hp => by
    have m : TL.tl p ∈ TL.spl [47] 0 [] (TL.tl z) := by rw [← e]; exact List.mem_map_of_mem hp
    have := spl_le m
    rw [List.length_nil, Nat.zero_add] at this
    rw [TL.len_tl, TL.len_tl z]
    exact this
  refine ⟨ps, rfl, hl, ?_⟩
  rcases cut_cases (TL.tl z) with ⟨h, c⟩ | ⟨p, q, hp, el, c⟩
  · rw [TL.spl_last1 h, List.nil_append] at e
    obtain ⟨a, rfl, ea⟩ := List.map_eq_singleton_iff.mp e
    exact .inl ⟨a, rfl, c, ea⟩
  · have e1 : TL.spl [47] 0 [] (TL.tl z) = ([] ++ p) :: TL.spl [47] 0 [] q := by
      rw [el]
      exact TL.spl_part1 (s := 47) (S := []) (rest := q) (acc := []) hp
    rw [e1, List.nil_append] at e
    rcases cut_cases q with ⟨h2, _⟩ | ⟨p2, q2, hp2, el2, _⟩
    · rw [TL.spl_last1 h2, List.nil_append] at e
      match ps, e with
      | [a, b], e =>
        simp only [List.map_cons, List.map_nil, List.cons.injEq, and_true] at e
        exact .inr (.inl ⟨a, b, rfl, by rw [c, e.1, e.2]⟩)
    · have e2 : TL.spl [47] 0 [] q = ([] ++ p2) :: TL.spl [47] 0 [] q2 := by
        rw [el2]
        exact TL.spl_part1 (s := 47) (S := []) (rest := q2) (acc := []) hp2
      rw [e2] at e
      have n2 : TL.spl [47] 0 [] q2 ≠ [] := by
        rcases cut_cases q2 with ⟨h3, _⟩ | ⟨p3, q3, hp3, el3, _⟩
        · rw [TL.spl_last1 h3]; simp
        · rw [el3, show TL.spl [47] 0 [] (p3 ++ 47 :: q3) = ([] ++ p3) :: TL.spl [47] 0 [] q3 from TL.spl_part1 (s := 47) (S := []) (rest := q3) (acc := []) hp3]; simp
      have e3 := congrArg List.length e
      rw [List.length_map, List.length_cons, List.length_cons] at e3
      have := List.length_pos_iff.mpr n2
      refine .inr (.inr ⟨by omega, p, q, c, ?_⟩)
      cases w : whole q with
      | none => rfl
      | some n =>
        have := (whole_some w).1
        have m : 47 ∈ TL.numL n := by rw [← this, el2]; simp
        exact absurd m (TL.numL_free (.inl (by decide)))
theorem tl_cut0 (z : Str) : TL.tl (cutS z (some 0) none) = TL.tl z := by
  unfold cutS
  rw [TL.tl_mk]
  have e0 : HT.sIx z.length z.length none = z.length := rfl
  have e1 : HT.sIx z.length 0 (some 0) = min 0 z.length := HT.sIx_nat z.length 0 0
  rw [e0, e1, Nat.zero_min, List.drop_zero, Nat.sub_zero, TL.len_tl]
  exact List.take_of_length_le (Nat.le_refl _)
theorem tl_cutm (z : Str) (m : Bool) : TL.tl (cutS z (some (if m = true then 1 else 0)) none) = (TL.tl z).drop m.toNat := by
  cases m with
  | true => exact tl_cut2 z
  | false => exact tl_cut0 z
theorem minus_read {z : Str} {ρ : L2.St} {H : Hp} {Q : VK} (h0 : ρ[0]? = some (some (.str z))) (hz : z.length ≤ sizeLine) (q : Q (.bl (minusB (TL.tl z))) H) :
    tAndV (tOp (rI0 fun i j => V.bl (decide (j < i))) (tCB (fun xs H Q => ∃ z, xs = [V.str z] ∧ z.length ≤ sizeLine ∧ Q (V.int (z.length : Nat)) H) (tCons (tVar 0) tNil)) (tC (V.int 0)))
      (tOp rEq (tOp rIxS (tVar 0) (tC (V.int 0))) (tC (V.str "-"))) ρ H Q := by
  refine ⟨_, h0, z, rfl, hz, _, _, rfl, rfl, _, rfl, ?_⟩
  have ll : (TL.tl z).length = z.length := (TL.len_tl z).symm
  cases e : TL.tl z with
  | nil =>
    rw [e] at ll q
    rw [decide_eq_false (show ¬ (0 : Int) < ((z.length : Nat) : Int) by rw [← ll]; decide)]
    exact iteF q
  | cons c r =>
    rw [e] at ll q
    rw [List.length_cons] at ll
    rw [decide_eq_true (show (0 : Int) < ((z.length : Nat) : Int) by omega)]
    refine iteT ⟨_, h0, z, 0, c, rfl, rfl, hz, by rw [show z.cps.toList = c :: r from e]; exact atI_nat (j := 0) rfl, rfl, ?_⟩
    have em : decide (V.str ⟨#[c]⟩ = V.str "-") = minusB (c :: r) := by
      have z0 : ("-" : Str) = ⟨#[45]⟩ := by decide +kernel
      unfold minusB
      rw [z0, Bool.eq_iff_iff, decide_eq_true_eq, beq_iff_eq]
      constructor
      · intro h
        cases h
        rfl
      · intro h
        cases h
        rfl
    rw [em]
    exact q
section
variable {P : Program} {w : World} {K : PySem.W.Frag} {mg : Str → Option Value} {base : Heap} {CW : Addr}
abbrev s_reading : Stmt := top 29
theorem sc_reading : FnScope ["_law_text", "_law_minus", "_law_parts", "_law_up", "_law_down", "_law_got"] ["_law_text"] (defScope s_reading) := ⟨rfl, rfl, rfl, by decide +kernel, rfl, by decide +kernel, by decide +kernel⟩
theorem ok_reading {f : Addr} {fd : FuncData} (F : Fun K "_law_reading" "_law_reading" s_reading f fd) (T : TxtW K mg) (c_digits : Callee P w K mg base CX0 1 "_law_digits" ["_law_text"] spWhole) (c_low : Callee P w K mg base CX0 1 "_law_low" psL spLow) :
    FnOk P w K mg base CX0 2 f fd ["_law_text"] spReading := by
  refine F.ok sc_reading (fun vs H Q E h => ?_) (fun cdv A outer s H vs Q E hr h => ?_)
  · obtain ⟨_, rfl, _⟩ := h
    rfl
  · obtain ⟨z, rfl, hz, k⟩ := h
    refine ⟨_, (pss_cons (ps_set (i := 1) sc_reading.nd rfl (Or.inl rfl) (pe_and (pe_cmpR op_gt (pe_callB call_len_str (by rfl) T.len PySem.boot_len (pa_cons (pv 0) pa_nil)) pe_int (nomark _)) (pe_one (pe_cmpR op_eq (pe_ix ix_str (pv 0) pe_int (fun _ _ => rfl)) pe_str (nomark _)))))
  (pss_cons (ps_set (i := 2) sc_reading.nd rfl (Or.inl rfl) (pe_split (pe_slice sl_str (pv 0) (po_some (pe_callTy call_int1 (by rfl) T.int (by decide +kernel) (pa_cons (pv 1) pa_nil))) po_none) pe_str))
  (pss_cons (ps_if (pt_cmpR op_gt (pe_callB call_len_seq (by rfl) T.len PySem.boot_len (pa_cons (pv 2) pa_nil)) pe_int (nomark _)) (pss_one (ps_ret pe_non)) pss_nil)
  (pss_cons (ps_set (i := 3) sc_reading.nd rfl (Or.inl rfl) (pe_fn c_digits (hr.mono (by decide)) (by rfl) pass0 (pa_cons (pe_ix ix_list (pv 2) pe_int (fun _ _ => rfl)) pa_nil)))
  (pss_cons (ps_set (i := 4) sc_reading.nd rfl (Or.inl rfl) pe_int)
  (pss_cons (ps_if (pt_cmpR op_eq (pe_callB call_len_seq (by rfl) T.len PySem.boot_len (pa_cons (pv 2) pa_nil)) pe_int (nomark _)) (pss_one (ps_set (i := 4) sc_reading.nd rfl (Or.inl rfl) (pe_fn c_digits (hr.mono (by decide)) (by rfl) pass0 (pa_cons (pe_ix ix_list (pv 2) pe_int (fun _ _ => rfl)) pa_nil)))) pss_nil)
  (pss_cons (ps_if (PW.pt (pw_or (pt_cmpR op_isN (pv 3) pe_non (nomark _)) (pw_or (pt_cmpR op_isN (pv 4) pe_non (nomark _)) (pw_or (PW.pt (pw_and (pt_cmpR op_eq (pe_callB call_len_seq (by rfl) T.len PySem.boot_len (pa_cons (pv 2) pa_nil)) pe_int (nomark _)) (pw_and1 (pt_cmpR op_lt (pv 4) pe_int (nomark _))))) (pw_or1 (PW.pt (pw_and (pt_val (pv 1)) (pw_and1 (pt_cmpR op_eq (pv 3) pe_int (nomark _)))))))))) (pss_one (ps_ret pe_non)) pss_nil)
  (pss_cons (ps_set (i := 5) sc_reading.nd rfl (Or.inl rfl) (pe_tup (pa_cons (pv 3) (pa_cons (pv 4) pa_nil))))
  (pss_cons (ps_if (pt_cmpR (op_neD hr.units) (pe_fn c_low (hr.mono (by decide)) (by rfl) pass0 (pa_cons (pv 3) (pa_cons (pv 4) pa_nil))) (pv 5) (nomark _)) (pss_one (ps_ret pe_non)) pss_nil)
  (pss_one (ps_ret (pe_ix ix_list (pe_lst (pa_cons (pv 5) (pa_cons (pe_tup (pa_cons (pe_un un_neg (pv 3)) (pa_cons (pv 4) pa_nil))) pa_nil))) (pe_callTy call_int1 (by rfl) T.int (by decide +kernel) (pa_cons (pv 1) pa_nil)) (fun _ _ => rfl))))))))))))), ?_⟩
    have hzl : z.length ≤ sizeLine := by rw [sizeLine_eq]; omega
    refine minus_read rfl hzl ?_
    generalize hm : minusB (TL.tl z) = m
    have ty := tl_cutm z m
    have ly : (cutS z (some (if m = true then 1 else 0)) none).length ≤ z.length := cutS_length _ _ _
    refine ⟨_, rfl, _, rfl, .inr ⟨m, rfl, _, rfl, z, rfl, hzl, ⟨_, rfl⟩, cutS z (some (if m = true then 1 else 0)) none, "/", rfl, rfl, by decide +kernel, by rw [sizeLine_eq]; omega, fun p hp => ?_⟩⟩
    generalize cutS z (some (if m = true then 1 else 0)) none = y at ty ly ⊢
    obtain ⟨ps, ep, lps, cs⟩ := split_cases y
    rw [ep]
    have s1 : Same H (upd H p (.lst (ps.map V.str))) := Same.new hp
    have hp1 : upd H p (.lst (ps.map V.str)) p = some (.lst (ps.map V.str)) := upd_same
    generalize upd H p (.lst (ps.map V.str)) = H1 at s1 hp1 ⊢
    have er : rd (TL.tl z) = (match cutAt (TL.tl y) with
      | none => rdP m (whole (TL.tl y)) (some 1) false
      | some (p, q) => rdP m (whole p) (whole q) true) := by
      unfold rd
      rw [hm, ← ty]
      first | done | (cases cutAt (TL.tl y) <;> rfl)
    rcases cs with ⟨a, rfl, c, ea⟩ | ⟨a, b, rfl, c⟩ | ⟨h2, pp, qq, c, wq⟩
    · rw [c] at er
      simp only at er
      refine ⟨_, rfl, p, _, rfl, .inl (SqL.of hp1), _, _, rfl, rfl, _, rfl, iteF ?_⟩
      refine ⟨_, rfl, p, _, _, _, rfl, rfl, SqL.of hp1, atI_nat (j := 0) rfl, a, rfl, by have := lps a (List.mem_singleton.mpr rfl); omega, fun H2 s2 => ?_⟩
      have hp2 := s2 _ _ hp1
      have s12 := s1.trans s2
      refine ⟨_, rfl, p, _, rfl, .inl (SqL.of hp2), rfl, _, rfl, iteF ?_⟩
      rw [← ea] at er
      rw [er] at k
      cases ha : whole (TL.tl a) with
      | none =>
        rw [ha] at k
        exact ⟨_, rfl, rfl, _, rfl, iteT (iteT (k _ s12))⟩
      | some a' =>
      rw [ha] at k
      obtain ⟨_, ba⟩ := whole_some ha
      refine ⟨_, rfl, rfl, _, rfl, iteF ⟨_, rfl, rfl, _, rfl, iteF ⟨_, rfl, p, _, rfl, .inl (SqL.of hp2), rfl, _, rfl, iteF (iteF ⟨_, rfl, m, rfl, ?_⟩)⟩⟩⟩
      have one400 : 1 < 10 ^ 400 := Nat.one_lt_pow (by decide) (by decide)
      change RdAt2 (if ((m && a' == 0) || (false && (Nat.blt 1 2 || Nat.gcd a' 1 != 1))) = true then none else some (if m = true then -(a' : Int) else (a' : Int), ((1 : Nat) : Int))) H Q at k
      rw [Bool.false_and, Bool.or_false] at k
      have fine : (m && a' == 0) = false → RdAt2 (if Nat.gcd a' 1 = 1 then some (if m = true then -(a' : Int) else (a' : Int), ((1 : Nat) : Int)) else none) H Q := fun e => by
        rw [if_pos (Nat.gcd_one_right a')]
        rw [e] at k
        exact k
      cases hm2 : m with
      | false =>
        subst hm2
        refine iteF (iteF ?_)
        have rdy : RdAt2 (if Nat.gcd a' 1 = 1 then some (if false = true then -(a' : Int) else (a' : Int), ((1 : Nat) : Int)) else none) H Q := (fine rfl)
        refine ⟨_, rfl, _, rfl, by show 2 ≤ sizeLine; decide, fun g hg => ?_⟩
        have sg := s12.trans (Same.new (o := .tup [.int (a' : Int), .int ((1 : Nat) : Int)]) hg)
        refine ⟨_, rfl, _, rfl, (a' : Int), ((1 : Nat) : Int), rfl, p400 ba, p400 one400, fun q hq => ?_⟩
        refine ⟨_, rfl, .tuple [.int (lowP (a' : Int) ((1 : Nat) : Int)).1, .int (lowP (a' : Int) ((1 : Nat) : Int)).2], .tuple [.int (a' : Int), .int ((1 : Nat) : Int)], .tup (SqT.of upd_same) (.cons (.int _) (.cons (.int _) .nil)), .tup (SqT.of (Same.new hq _ _ upd_same)) (.cons (.int _) (.cons (.int _) .nil)), by rfl, by rfl, _, rfl, ?_⟩
        have s6 := sg.trans (Same.new (o := .tup [.int (lowP (a' : Int) ((1 : Nat) : Int)).1, .int (lowP (a' : Int) ((1 : Nat) : Int)).2]) hq)
        have hg2 := Same.new (o := .tup [.int (lowP (a' : Int) ((1 : Nat) : Int)).1, .int (lowP (a' : Int) ((1 : Nat) : Int)).2]) hq _ _ (upd_same (H := _) (a := g) (o := HO.tup [.int (a' : Int), .int ((1 : Nat) : Int)]))
        rw [eqv_low (Nat.le_refl 1)]
        by_cases hgc : Nat.gcd a' 1 = 1
        · rw [if_pos hgc] at rdy
          rw [decide_eq_true hgc]
          refine iteF ⟨_, rfl, _, rfl, _, rfl, _, rfl, by show 2 ≤ sizeLine; decide, fun n hn => ⟨by show 2 ≤ sizeLine; decide, fun L hL => ⟨_, rfl, .inr ?_⟩⟩⟩
          first
            | exact ⟨false, rfl, L, _, _, _, rfl, rfl, SqL.of upd_same, atI_nat (j := 0) rfl, rdy g _ ((s6.trans (Same.new hn)).trans (Same.new hL)) (Same.new hL _ _ (Same.new hn _ _ hg2))⟩
            | exact ⟨false, rfl, L, _, _, _, rfl, rfl, SqL.of upd_same, atI_nat (j := 1) rfl, rdy n _ ((s6.trans (Same.new hn)).trans (Same.new hL)) (Same.new hL _ _ upd_same)⟩
        · rw [if_neg hgc] at rdy
          rw [decide_eq_false hgc]
          exact iteT (rdy _ s6)
      | true =>
        subst hm2
        refine iteT ⟨_, rfl, rfl, _, rfl, ite2 (fun hz0 => ?_) (fun hz0 => ?_)⟩
        · have a0 : a' = 0 := by have := int_eq hz0; omega
          rw [a0] at k
          exact k _ s12
        · have a0 : (a' == 0) = false := by
            rw [beq_eq_false_iff_ne]
            intro e
            exact int_ne hz0 (by rw [e]; rfl)
          have rdy : RdAt2 (if Nat.gcd a' 1 = 1 then some (if true = true then -(a' : Int) else (a' : Int), ((1 : Nat) : Int)) else none) H Q := (fine (by rw [a0]; rfl))
          refine ⟨_, rfl, _, rfl, by show 2 ≤ sizeLine; decide, fun g hg => ?_⟩
          have sg := s12.trans (Same.new (o := .tup [.int (a' : Int), .int ((1 : Nat) : Int)]) hg)
          refine ⟨_, rfl, _, rfl, (a' : Int), ((1 : Nat) : Int), rfl, p400 ba, p400 one400, fun q hq => ?_⟩
          refine ⟨_, rfl, .tuple [.int (lowP (a' : Int) ((1 : Nat) : Int)).1, .int (lowP (a' : Int) ((1 : Nat) : Int)).2], .tuple [.int (a' : Int), .int ((1 : Nat) : Int)], .tup (SqT.of upd_same) (.cons (.int _) (.cons (.int _) .nil)), .tup (SqT.of (Same.new hq _ _ upd_same)) (.cons (.int _) (.cons (.int _) .nil)), by rfl, by rfl, _, rfl, ?_⟩
          have s6 := sg.trans (Same.new (o := .tup [.int (lowP (a' : Int) ((1 : Nat) : Int)).1, .int (lowP (a' : Int) ((1 : Nat) : Int)).2]) hq)
          have hg2 := Same.new (o := .tup [.int (lowP (a' : Int) ((1 : Nat) : Int)).1, .int (lowP (a' : Int) ((1 : Nat) : Int)).2]) hq _ _ (upd_same (H := _) (a := g) (o := HO.tup [.int (a' : Int), .int ((1 : Nat) : Int)]))
          rw [eqv_low (Nat.le_refl 1)]
          by_cases hgc : Nat.gcd a' 1 = 1
          · rw [if_pos hgc] at rdy
            rw [decide_eq_true hgc]
            refine iteF ⟨_, rfl, _, rfl, _, rfl, _, rfl, by show 2 ≤ sizeLine; decide, fun n hn => ⟨by show 2 ≤ sizeLine; decide, fun L hL => ⟨_, rfl, .inr ?_⟩⟩⟩
            first
              | exact ⟨true, rfl, L, _, _, _, rfl, rfl, SqL.of upd_same, atI_nat (j := 0) rfl, rdy g _ ((s6.trans (Same.new hn)).trans (Same.new hL)) (Same.new hL _ _ (Same.new hn _ _ hg2))⟩
              | exact ⟨true, rfl, L, _, _, _, rfl, rfl, SqL.of upd_same, atI_nat (j := 1) rfl, rdy n _ ((s6.trans (Same.new hn)).trans (Same.new hL)) (Same.new hL _ _ upd_same)⟩
          · rw [if_neg hgc] at rdy
            rw [decide_eq_false hgc]
            exact iteT (rdy _ s6)
    · rw [c] at er
      simp only at er
      refine ⟨_, rfl, p, _, rfl, .inl (SqL.of hp1), _, _, rfl, rfl, _, rfl, iteF ?_⟩
      refine ⟨_, rfl, p, _, _, _, rfl, rfl, SqL.of hp1, atI_nat (j := 0) rfl, a, rfl, by have := lps a (by simp); omega, fun H2 s2 => ?_⟩
      have hp2 := s2 _ _ hp1
      refine ⟨_, rfl, p, _, rfl, .inl (SqL.of hp2), rfl, _, rfl, iteT ?_⟩
      refine ⟨_, rfl, p, _, _, _, rfl, rfl, SqL.of hp2, atI_nat (j := 1) rfl, b, rfl, by have := lps b (by simp); omega, fun H3 s3 => ?_⟩
      have hp3 := s3 _ _ hp2
      have s13 := (s1.trans s2).trans s3
      rw [er] at k
      cases ha : whole (TL.tl a) with
      | none =>
        rw [ha] at k
        exact ⟨_, rfl, rfl, _, rfl, iteT (iteT (k _ s13))⟩
      | some a' =>
      rw [ha] at k
      obtain ⟨_, ba⟩ := whole_some ha
      refine ⟨_, rfl, rfl, _, rfl, iteF ?_⟩
      cases hb : whole (TL.tl b) with
      | none =>
        rw [hb] at k
        exact ⟨_, rfl, rfl, _, rfl, iteT (iteT (k _ s13))⟩
      | some b' =>
      rw [hb] at k
      obtain ⟨_, bb⟩ := whole_some hb
      change RdAt2 (if ((m && a' == 0) || (true && (Nat.blt b' 2 || Nat.gcd a' b' != 1))) = true then none else some (if m = true then -(a' : Int) else (a' : Int), ((b' : Nat) : Int))) H Q at k
      refine ⟨_, rfl, rfl, _, rfl, iteF ⟨_, rfl, p, _, rfl, .inl (SqL.of hp3), rfl, _, rfl, iteT ⟨_, rfl, _, _, rfl, rfl, _, rfl, ite2 (fun hb2 => ?_) (fun hb2 => ?_)⟩⟩⟩
      · have b2 : Nat.blt b' 2 = true := Nat.ble_eq.mpr (by have := of_decide_eq_true hb2; show b' + 1 ≤ 2; omega)
        rw [b2, Bool.true_or, Bool.true_and, Bool.or_true, if_pos rfl] at k
        exact iteT (k _ s13)
      have b2 : Nat.blt b' 2 = false := by
        cases e : Nat.blt b' 2 with
        | false => rfl
        | true => exact absurd (decide_eq_true (show (b' : Int) < 2 by have : b' + 1 ≤ 2 := Nat.ble_eq.mp e; omega)) hb2
      have b1 : 1 ≤ b' := by
        cases Nat.lt_or_ge b' 1 with
        | inl y => exact absurd (decide_eq_true (show (b' : Int) < 2 by omega)) hb2
        | inr y => exact y
      rw [b2, Bool.false_or, Bool.true_and] at k
      refine ⟨_, rfl, m, rfl, ?_⟩
      have fine : (m && a' == 0) = false → RdAt2 (if Nat.gcd a' b' = 1 then some (if m = true then -(a' : Int) else (a' : Int), ((b' : Nat) : Int)) else none) H Q := fun e => by
        rw [e, Bool.false_or] at k
        by_cases g : Nat.gcd a' b' = 1
        · rw [if_pos g]
          rw [g] at k
          exact k
        · rw [if_neg g]
          rw [if_pos (bne_iff_ne.mpr g)] at k
          exact k
      cases hm2 : m with
      | false =>
        subst hm2
        refine iteF (iteF ?_)
        have rdy : RdAt2 (if Nat.gcd a' b' = 1 then some (if false = true then -(a' : Int) else (a' : Int), ((b' : Nat) : Int)) else none) H Q := (fine rfl)
        refine ⟨_, rfl, _, rfl, by show 2 ≤ sizeLine; decide, fun g hg => ?_⟩
        have sg := s13.trans (Same.new (o := .tup [.int (a' : Int), .int ((b' : Nat) : Int)]) hg)
        refine ⟨_, rfl, _, rfl, (a' : Int), ((b' : Nat) : Int), rfl, p400 ba, p400 bb, fun q hq => ?_⟩
        refine ⟨_, rfl, .tuple [.int (lowP (a' : Int) ((b' : Nat) : Int)).1, .int (lowP (a' : Int) ((b' : Nat) : Int)).2], .tuple [.int (a' : Int), .int ((b' : Nat) : Int)], .tup (SqT.of upd_same) (.cons (.int _) (.cons (.int _) .nil)), .tup (SqT.of (Same.new hq _ _ upd_same)) (.cons (.int _) (.cons (.int _) .nil)), by rfl, by rfl, _, rfl, ?_⟩
        have s6 := sg.trans (Same.new (o := .tup [.int (lowP (a' : Int) ((b' : Nat) : Int)).1, .int (lowP (a' : Int) ((b' : Nat) : Int)).2]) hq)
        have hg2 := Same.new (o := .tup [.int (lowP (a' : Int) ((b' : Nat) : Int)).1, .int (lowP (a' : Int) ((b' : Nat) : Int)).2]) hq _ _ (upd_same (H := _) (a := g) (o := HO.tup [.int (a' : Int), .int ((b' : Nat) : Int)]))
        rw [eqv_low b1]
        by_cases hgc : Nat.gcd a' b' = 1
        · rw [if_pos hgc] at rdy
          rw [decide_eq_true hgc]
          refine iteF ⟨_, rfl, _, rfl, _, rfl, _, rfl, by show 2 ≤ sizeLine; decide, fun n hn => ⟨by show 2 ≤ sizeLine; decide, fun L hL => ⟨_, rfl, .inr ?_⟩⟩⟩
          first
            | exact ⟨false, rfl, L, _, _, _, rfl, rfl, SqL.of upd_same, atI_nat (j := 0) rfl, rdy g _ ((s6.trans (Same.new hn)).trans (Same.new hL)) (Same.new hL _ _ (Same.new hn _ _ hg2))⟩
            | exact ⟨false, rfl, L, _, _, _, rfl, rfl, SqL.of upd_same, atI_nat (j := 1) rfl, rdy n _ ((s6.trans (Same.new hn)).trans (Same.new hL)) (Same.new hL _ _ upd_same)⟩
        · rw [if_neg hgc] at rdy
          rw [decide_eq_false hgc]
          exact iteT (rdy _ s6)
      | true =>
        subst hm2
        refine iteT ⟨_, rfl, rfl, _, rfl, ite2 (fun hz0 => ?_) (fun hz0 => ?_)⟩
        · have a0 : a' = 0 := by have := int_eq hz0; omega
          rw [a0] at k
          exact k _ s13
        · have a0 : (a' == 0) = false := by
            rw [beq_eq_false_iff_ne]
            intro e
            exact int_ne hz0 (by rw [e]; rfl)
          have rdy : RdAt2 (if Nat.gcd a' b' = 1 then some (if true = true then -(a' : Int) else (a' : Int), ((b' : Nat) : Int)) else none) H Q := (fine (by rw [a0]; rfl))
          refine ⟨_, rfl, _, rfl, by show 2 ≤ sizeLine; decide, fun g hg => ?_⟩
          have sg := s13.trans (Same.new (o := .tup [.int (a' : Int), .int ((b' : Nat) : Int)]) hg)
          refine ⟨_, rfl, _, rfl, (a' : Int), ((b' : Nat) : Int), rfl, p400 ba, p400 bb, fun q hq => ?_⟩
          refine ⟨_, rfl, .tuple [.int (lowP (a' : Int) ((b' : Nat) : Int)).1, .int (lowP (a' : Int) ((b' : Nat) : Int)).2], .tuple [.int (a' : Int), .int ((b' : Nat) : Int)], .tup (SqT.of upd_same) (.cons (.int _) (.cons (.int _) .nil)), .tup (SqT.of (Same.new hq _ _ upd_same)) (.cons (.int _) (.cons (.int _) .nil)), by rfl, by rfl, _, rfl, ?_⟩
          have s6 := sg.trans (Same.new (o := .tup [.int (lowP (a' : Int) ((b' : Nat) : Int)).1, .int (lowP (a' : Int) ((b' : Nat) : Int)).2]) hq)
          have hg2 := Same.new (o := .tup [.int (lowP (a' : Int) ((b' : Nat) : Int)).1, .int (lowP (a' : Int) ((b' : Nat) : Int)).2]) hq _ _ (upd_same (H := _) (a := g) (o := HO.tup [.int (a' : Int), .int ((b' : Nat) : Int)]))
          rw [eqv_low b1]
          by_cases hgc : Nat.gcd a' b' = 1
          · rw [if_pos hgc] at rdy
            rw [decide_eq_true hgc]
            refine iteF ⟨_, rfl, _, rfl, _, rfl, _, rfl, by show 2 ≤ sizeLine; decide, fun n hn => ⟨by show 2 ≤ sizeLine; decide, fun L hL => ⟨_, rfl, .inr ?_⟩⟩⟩
            first
              | exact ⟨true, rfl, L, _, _, _, rfl, rfl, SqL.of upd_same, atI_nat (j := 0) rfl, rdy g _ ((s6.trans (Same.new hn)).trans (Same.new hL)) (Same.new hL _ _ (Same.new hn _ _ hg2))⟩
              | exact ⟨true, rfl, L, _, _, _, rfl, rfl, SqL.of upd_same, atI_nat (j := 1) rfl, rdy n _ ((s6.trans (Same.new hn)).trans (Same.new hL)) (Same.new hL _ _ upd_same)⟩
          · rw [if_neg hgc] at rdy
            rw [decide_eq_false hgc]
            exact iteT (rdy _ s6)
    · rw [c] at er
      simp only at er
      have e0 : rd (TL.tl z) = none := by
        rw [er, wq]
        unfold rdP
        cases whole pp <;> rfl
      rw [e0] at k
      refine ⟨_, rfl, p, _, rfl, .inl (SqL.of hp1), _, _, rfl, rfl, _, rfl, ?_⟩
      rw [List.length_map, decide_eq_true (show (2 : Int) < ((ps.length : Nat) : Int) by omega)]
      exact iteT (k _ s1)
end
end K00

set_option Elab.async false
set_option linter.all false
set_option maxRecDepth 100000
set_option maxHeartbeats 4000000
namespace K00
open PySem L2
/-! ### alike -/
theorem seT {K : PySem.W.Frag} {H H' : Hp} {a : Addr} {xs : List V} (s : Same H H') (h : SqT K H a xs) : SqL K H' a xs ∨ SqT K H' a xs := .inr (sqT_same s h)
theorem seL {K : PySem.W.Frag} {H H' : Hp} {a : Addr} {xs : List V} (s : Same H H') (h : SqL K H a xs) : SqL K H' a xs ∨ SqT K H' a xs := .inl (s.seq h)
section
variable {P : Program} {w : World} {K : PySem.W.Frag} {mg : Str → Option Value} {base : Heap}
abbrev s_alike : Stmt := top 25
theorem sc_alike : FnScope ["_law_got", "_law_due", "_law_k"] ["_law_got", "_law_due"] (defScope s_alike) := ⟨rfl, rfl, rfl, by decide +kernel, rfl, by decide +kernel, by decide +kernel⟩
theorem ok_alike_step {n : Nat} {f : Addr} {fd : FuncData} (F : Fun K "_law_alike" "_law_alike" s_alike f fd) (T : TxtW K mg) (c_alike : Callee P w K mg base CX0 (n + 1) "_law_alike" ["_law_got", "_law_due"] (spSame K n)) :
    FnOk P w K mg base CX0 (n + 2) f fd ["_law_got", "_law_due"] (spSame K (n + 1)) := by
  refine F.ok sc_alike (fun vs H Q E h => ?_) (fun cdv A outer s H vs Q E hr h => ?_)
  · obtain ⟨_, _, _, _, rfl, _⟩ := h
    rfl
  · obtain ⟨st, g, e, d, rfl, hg, he, hf, k⟩ := h
    refine ⟨_, (pss_cons (ps_if (pt_val (pe_callB call_isiT (by rfl) T.isinstance (by decide +kernel) (pa_cons (pv 1) (pa_cons (pe_tup (pa_cons (pe_bltn (v := .ty "list") (by rfl) T.list (by decide +kernel) rfl) (pa_cons (pe_bltn (v := .ty "tuple") (by rfl) T.tuple (by decide +kernel) rfl) pa_nil))) pa_nil)))) (pss_cons (ps_if (PW.pt (pw_or (pt_cmpR op_ne (pe_callB call_isi (by rfl) T.isinstance (by decide +kernel) (pa_cons (pv 0) (pa_cons (pe_bltn (v := .ty "list") (by rfl) T.list (by decide +kernel) rfl) pa_nil))) (pe_callB call_isi (by rfl) T.isinstance (by decide +kernel) (pa_cons (pv 1) (pa_cons (pe_bltn (v := .ty "list") (by rfl) T.list (by decide +kernel) rfl) pa_nil))) (nomark _)) (pw_or1 (pt_cmpR op_ne (pe_callB call_isi (by rfl) T.isinstance (by decide +kernel) (pa_cons (pv 0) (pa_cons (pe_bltn (v := .ty "tuple") (by rfl) T.tuple (by decide +kernel) rfl) pa_nil))) (pe_callB call_isi (by rfl) T.isinstance (by decide +kernel) (pa_cons (pv 1) (pa_cons (pe_bltn (v := .ty "tuple") (by rfl) T.tuple (by decide +kernel) rfl) pa_nil))) (nomark _))))) (pss_one (ps_ret pe_bl)) pss_nil)
  (pss_one (ps_ret (pe_and (pe_cmpR op_eq (pe_callB call_len_seq (by rfl) T.len PySem.boot_len (pa_cons (pv 0) pa_nil)) (pe_callB call_len_seq (by rfl) T.len PySem.boot_len (pa_cons (pv 1) pa_nil)) (nomark _)) (pe_one (pe_cmpR op_eq (pe_callB call_len_seq (by rfl) T.len PySem.boot_len (pa_cons (pe_lc (own := [("_law_k", 2)]) (g := gName 2) rfl sc_alike.nd (pi_range1 rfl T.range (pa_cons (pe_callB call_len_seq (by rfl) T.len PySem.boot_len (pa_cons (pv 1) pa_nil)) pa_nil)) (blkOk_by (own := [("_law_k", 2)]) (N := ["_law_got", "_law_due", "_law_k"]) (sc := defScope s_alike) (by decide +kernel)) (fun _ _ _ _ _ => pg_name (i := 2) sc_alike.nd rfl (Or.inl rfl)) (fun _ _ _ _ _ => (pts_one (pt_not (pt_val (pe_fn c_alike hr (by rfl) pass0 (pa_cons (pe_ix (show IxR _ (rIx K) from ix_seq) (pv 0) (pv 2) (fun _ _ => rfl)) (pa_cons (pe_ix (show IxR _ (rIx K) from ix_seq) (pv 1) (pv 2) (fun _ _ => rfl)) pa_nil))))))) (fun _ _ _ _ _ => (pv 2))) pa_nil)) pe_int (nomark _))))))) pss_nil)
  (pss_cons (ps_if (PW.pt (pw_or (pt_cmpR op_ne (pe_callB call_isi (by rfl) T.isinstance (by decide +kernel) (pa_cons (pv 0) (pa_cons (pe_bltn (v := .ty "bool") (by rfl) T.bool (by decide +kernel) rfl) pa_nil))) (pe_callB call_isi (by rfl) T.isinstance (by decide +kernel) (pa_cons (pv 1) (pa_cons (pe_bltn (v := .ty "bool") (by rfl) T.bool (by decide +kernel) rfl) pa_nil))) (nomark _)) (pw_or1 (pt_cmpR op_ne (pe_callB call_isi (by rfl) T.isinstance (by decide +kernel) (pa_cons (pv 0) (pa_cons (pe_bltn (v := .ty "int") (by rfl) T.int (by decide +kernel) rfl) pa_nil))) (pe_callB call_isi (by rfl) T.isinstance (by decide +kernel) (pa_cons (pv 1) (pa_cons (pe_bltn (v := .ty "int") (by rfl) T.int (by decide +kernel) rfl) pa_nil))) (nomark _))))) (pss_one (ps_ret pe_bl)) pss_nil)
  (pss_one (ps_ret (pe_and (pe_cmpR op_eq (pe_callB call_isi (by rfl) T.isinstance (by decide +kernel) (pa_cons (pv 0) (pa_cons (pe_bltn (v := .ty "str") (by rfl) T.str (by decide +kernel) rfl) pa_nil))) (pe_callB call_isi (by rfl) T.isinstance (by decide +kernel) (pa_cons (pv 1) (pa_cons (pe_bltn (v := .ty "str") (by rfl) T.str (by decide +kernel) rfl) pa_nil))) (nomark _)) (pe_and (pe_cmpR op_eq (pe_cmpR op_isN (pv 0) pe_non (nomark _)) (pe_cmpR op_isN (pv 1) pe_non (nomark _)) (nomark _)) (pe_one (pe_cmpR op_eq (pv 0) (pv 1) (nomark _))))))))), ?_⟩
    have fin : ∀ (x : V) (H1 : Hp), Same H H1 → Q (.bl (decide (x = x))) H1 := fun x H1 s => by
      rw [decide_eq_true rfl]
      exact k H1 s
    cases d with
    | dct => cases n <;> exact hf.elim
    | non =>
      cases hg; cases he
      refine ⟨_, rfl, by show 2 ≤ sizeLine; decide, fun tp htp => ?_⟩
      have s1 : Same H (upd H tp (.tup [.ty "list", .ty "tuple"])) := Same.new htp
      refine ⟨_, tp, _, _, _, false, rfl, upd_same, .cons (.ty _) (.cons (.ty _) .nil), ((Val.non (K := K) (st := st) (H := upd H tp (.tup [.ty "list", .ty "tuple"])))).ty, kitAny_cons (isC_kit .list .non) (fun _ => kitAny_cons (isC_kit .tuple .non) (fun _ => rfl) (fun h => by cases h)) (fun h => by cases h), _, rfl, iteF ?_⟩
      have ti := ((Val.non (K := K) (st := st) (H := upd H tp (.tup [.ty "list", .ty "tuple"])))).ty
      generalize upd H tp (.tup [.ty "list", .ty "tuple"]) = H1 at s1 ti ⊢
      refine ⟨_, rfl, _, _, _, _, _, rfl, .ty _, ti, isC_kit .bool .non, _, rfl, _, _, _, _, _, rfl, .ty _, ti, isC_kit .bool .non, rfl, _, rfl, iteF ?_⟩
      refine ⟨_, rfl, _, _, _, _, _, rfl, .ty _, ti, isC_kit .int .non, _, rfl, _, _, _, _, _, rfl, .ty _, ti, isC_kit .int .non, rfl, _, rfl, iteF ?_⟩
      refine ⟨_, rfl, _, _, _, _, _, rfl, .ty _, ti, isC_kit .str .non, _, rfl, _, _, _, _, _, rfl, .ty _, ti, isC_kit .str .non, rfl, _, rfl, iteT ?_⟩
      refine ⟨_, rfl, rfl, _, rfl, rfl, rfl, _, rfl, iteT ⟨_, rfl, _, rfl, rfl, ?_⟩⟩
      exact fin _ _ s1
    | bl b =>
      cases hg; cases he
      refine ⟨_, rfl, by show 2 ≤ sizeLine; decide, fun tp htp => ?_⟩
      have s1 : Same H (upd H tp (.tup [.ty "list", .ty "tuple"])) := Same.new htp
      refine ⟨_, tp, _, _, _, false, rfl, upd_same, .cons (.ty _) (.cons (.ty _) .nil), ((Val.bl (K := K) (st := st) (H := upd H tp (.tup [.ty "list", .ty "tuple"])) b)).ty, kitAny_cons (isC_kit .list (.bl b)) (fun _ => kitAny_cons (isC_kit .tuple (.bl b)) (fun _ => rfl) (fun h => by cases h)) (fun h => by cases h), _, rfl, iteF ?_⟩
      have ti := ((Val.bl (K := K) (st := st) (H := upd H tp (.tup [.ty "list", .ty "tuple"])) b)).ty
      generalize upd H tp (.tup [.ty "list", .ty "tuple"]) = H1 at s1 ti ⊢
      refine ⟨_, rfl, _, _, _, _, _, rfl, .ty _, ti, isC_kit .bool (.bl b), _, rfl, _, _, _, _, _, rfl, .ty _, ti, isC_kit .bool (.bl b), rfl, _, rfl, iteF ?_⟩
      refine ⟨_, rfl, _, _, _, _, _, rfl, .ty _, ti, isC_kit .int (.bl b), _, rfl, _, _, _, _, _, rfl, .ty _, ti, isC_kit .int (.bl b), rfl, _, rfl, iteF ?_⟩
      refine ⟨_, rfl, _, _, _, _, _, rfl, .ty _, ti, isC_kit .str (.bl b), _, rfl, _, _, _, _, _, rfl, .ty _, ti, isC_kit .str (.bl b), rfl, _, rfl, iteT ?_⟩
      refine ⟨_, rfl, rfl, _, rfl, rfl, rfl, _, rfl, iteT ⟨_, rfl, _, rfl, rfl, ?_⟩⟩
      exact fin _ _ s1
    | int i =>
      cases hg; cases he
      refine ⟨_, rfl, by show 2 ≤ sizeLine; decide, fun tp htp => ?_⟩
      have s1 : Same H (upd H tp (.tup [.ty "list", .ty "tuple"])) := Same.new htp
      refine ⟨_, tp, _, _, _, false, rfl, upd_same, .cons (.ty _) (.cons (.ty _) .nil), ((Val.int (K := K) (st := st) (H := upd H tp (.tup [.ty "list", .ty "tuple"])) i)).ty, kitAny_cons (isC_kit .list (.int i)) (fun _ => kitAny_cons (isC_kit .tuple (.int i)) (fun _ => rfl) (fun h => by cases h)) (fun h => by cases h), _, rfl, iteF ?_⟩
      have ti := ((Val.int (K := K) (st := st) (H := upd H tp (.tup [.ty "list", .ty "tuple"])) i)).ty
      generalize upd H tp (.tup [.ty "list", .ty "tuple"]) = H1 at s1 ti ⊢
      refine ⟨_, rfl, _, _, _, _, _, rfl, .ty _, ti, isC_kit .bool (.int i), _, rfl, _, _, _, _, _, rfl, .ty _, ti, isC_kit .bool (.int i), rfl, _, rfl, iteF ?_⟩
      refine ⟨_, rfl, _, _, _, _, _, rfl, .ty _, ti, isC_kit .int (.int i), _, rfl, _, _, _, _, _, rfl, .ty _, ti, isC_kit .int (.int i), rfl, _, rfl, iteF ?_⟩
      refine ⟨_, rfl, _, _, _, _, _, rfl, .ty _, ti, isC_kit .str (.int i), _, rfl, _, _, _, _, _, rfl, .ty _, ti, isC_kit .str (.int i), rfl, _, rfl, iteT ?_⟩
      refine ⟨_, rfl, rfl, _, rfl, rfl, rfl, _, rfl, iteT ⟨_, rfl, _, rfl, rfl, ?_⟩⟩
      exact fin _ _ s1
    | str z =>
      cases hg; cases he
      refine ⟨_, rfl, by show 2 ≤ sizeLine; decide, fun tp htp => ?_⟩
      have s1 : Same H (upd H tp (.tup [.ty "list", .ty "tuple"])) := Same.new htp
      refine ⟨_, tp, _, _, _, false, rfl, upd_same, .cons (.ty _) (.cons (.ty _) .nil), ((Val.str (K := K) (st := st) (H := upd H tp (.tup [.ty "list", .ty "tuple"])) z)).ty, kitAny_cons (isC_kit .list (.str z)) (fun _ => kitAny_cons (isC_kit .tuple (.str z)) (fun _ => rfl) (fun h => by cases h)) (fun h => by cases h), _, rfl, iteF ?_⟩
      have ti := ((Val.str (K := K) (st := st) (H := upd H tp (.tup [.ty "list", .ty "tuple"])) z)).ty
      generalize upd H tp (.tup [.ty "list", .ty "tuple"]) = H1 at s1 ti ⊢
      refine ⟨_, rfl, _, _, _, _, _, rfl, .ty _, ti, isC_kit .bool (.str z), _, rfl, _, _, _, _, _, rfl, .ty _, ti, isC_kit .bool (.str z), rfl, _, rfl, iteF ?_⟩
      refine ⟨_, rfl, _, _, _, _, _, rfl, .ty _, ti, isC_kit .int (.str z), _, rfl, _, _, _, _, _, rfl, .ty _, ti, isC_kit .int (.str z), rfl, _, rfl, iteF ?_⟩
      refine ⟨_, rfl, _, _, _, _, _, rfl, .ty _, ti, isC_kit .str (.str z), _, rfl, _, _, _, _, _, rfl, .ty _, ti, isC_kit .str (.str z), rfl, _, rfl, iteT ?_⟩
      refine ⟨_, rfl, rfl, _, rfl, rfl, rfl, _, rfl, iteT ⟨_, rfl, _, rfl, rfl, ?_⟩⟩
      exact fin _ _ s1
    | tup ds =>
      cases n with
      | zero => exact hf.elim
      | succ n =>
      obtain ⟨hlen, hf⟩ := hf
      refine ⟨_, rfl, by show 2 ≤ sizeLine; decide, fun tp htp => ?_⟩
      have s1 : Same H (upd H tp (.tup [.ty "list", .ty "tuple"])) := Same.new htp
      have hg1 := hg.same s1
      have he1 := he.same s1
      refine ⟨_, tp, _, _, _, true, rfl, upd_same, .cons (.ty _) (.cons (.ty _) .nil), he1.ty, (kitAny_cons (isC_kit .list (.tup ds)) (fun _ => kitAny_cons (isC_kit .tuple (.tup ds)) (fun h => by cases h) (fun _ => rfl)) (fun h => by cases h)), _, rfl, iteT ?_⟩
      have tg := hg1.ty
      have td := he1.ty
      clear hg1 he1
      generalize upd H tp (.tup [.ty "list", .ty "tuple"]) = H1 at s1 tg td ⊢
      cases hg with
      | @tup a xs _ hxa rxa =>
      cases he with
      | @tup b ys _ hyb ryb =>
      refine ⟨_, rfl, _, _, _, _, _, rfl, .ty _, tg, isC_kit .list (.tup ds), _, rfl, _, _, _, _, _, rfl, .ty _, td, isC_kit .list (.tup ds), rfl, _, rfl, iteF ?_⟩
      refine ⟨_, rfl, _, _, _, _, _, rfl, .ty _, tg, isC_kit .tuple (.tup ds), _, rfl, _, _, _, _, _, rfl, .ty _, td, isC_kit .tuple (.tup ds), rfl, _, rfl, iteF ?_⟩
      refine ⟨_, rfl, _, _, rfl, seT s1 hxa, _, rfl, _, _, rfl, seT s1 hyb, rfl, _, rfl, ?_⟩
      rw [decide_eq_true (show V.int ((xs.length : Nat) : Int) = V.int ((ys.length : Nat) : Int) by rw [rxa.length, ryb.length])]
      refine iteT ⟨_, rfl, _, _, rfl, seT s1 hyb, _, rfl, by omega, ?_, fun D0 hD => ?_⟩
      · have := ryb.length
        omega
      refine lc_range (lo := 0) (n := ((ys.length : Int)).toNat) (fun _ H' => H' D0 = some (.lst []) ∧ Same H1 H') ⟨upd_same, Same.new hD⟩ ?_ ?_
      · rintro i H' hi ⟨h0, sm0⟩
        have sm := s1.trans sm0
        have hiy : i < ys.length := by omega
        have hix : i < xs.length := by rw [rxa.length, ← ryb.length]; exact hiy
        obtain ⟨dx, hdx, vx⟩ := rxa.get (List.getElem?_eq_getElem hix)
        obtain ⟨dy, hdy, vy⟩ := ryb.get (List.getElem?_eq_getElem hiy)
        rw [hdx] at hdy
        cases hdy
        have ei : (0 : Int) + (i : Int) = (i : Int) := by omega
        refine ⟨rfl, _, rfl, _, rfl, ?_⟩
        rw [ei]
        refine rIx_at (seT sm hxa) (List.getElem?_eq_getElem hix) ?_
        refine ⟨_, rfl, _, rfl, ?_⟩
        refine rIx_at (seT sm hyb) (List.getElem?_eq_getElem hiy) ?_
        exact ⟨st, _, _, dx, rfl, vx.same sm, vy.same sm, hf _ (List.mem_of_getElem? hdx), fun H2 s2 => ⟨_, rfl, iteF ⟨s2 _ _ h0, sm0.trans s2⟩⟩⟩
      · rintro H' ⟨h0, sm0⟩
        exact ⟨D0, _, rfl, .inl (SqL.of h0), rfl, k _ (s1.trans sm0)⟩
    | lst ds =>
      cases n with
      | zero => exact hf.elim
      | succ n =>
      obtain ⟨hlen, hf⟩ := hf
      refine ⟨_, rfl, by show 2 ≤ sizeLine; decide, fun tp htp => ?_⟩
      have s1 : Same H (upd H tp (.tup [.ty "list", .ty "tuple"])) := Same.new htp
      have hg1 := hg.same s1
      have he1 := he.same s1
      refine ⟨_, tp, _, _, _, true, rfl, upd_same, .cons (.ty _) (.cons (.ty _) .nil), he1.ty, (kitAny_cons (isC_kit .list (.lst ds)) (fun h => by cases h) (fun _ => rfl)), _, rfl, iteT ?_⟩
      have tg := hg1.ty
      have td := he1.ty
      clear hg1 he1
      generalize upd H tp (.tup [.ty "list", .ty "tuple"]) = H1 at s1 tg td ⊢
      cases hg with
      | @lst a xs _ na hxa rxa =>
      cases he with
      | @lst b ys _ nb hyb ryb =>
      refine ⟨_, rfl, _, _, _, _, _, rfl, .ty _, tg, isC_kit .list (.lst ds), _, rfl, _, _, _, _, _, rfl, .ty _, td, isC_kit .list (.lst ds), rfl, _, rfl, iteF ?_⟩
      refine ⟨_, rfl, _, _, _, _, _, rfl, .ty _, tg, isC_kit .tuple (.lst ds), _, rfl, _, _, _, _, _, rfl, .ty _, td, isC_kit .tuple (.lst ds), rfl, _, rfl, iteF ?_⟩
      refine ⟨_, rfl, _, _, rfl, seL s1 hxa, _, rfl, _, _, rfl, seL s1 hyb, rfl, _, rfl, ?_⟩
      rw [decide_eq_true (show V.int ((xs.length : Nat) : Int) = V.int ((ys.length : Nat) : Int) by rw [rxa.length, ryb.length])]
      refine iteT ⟨_, rfl, _, _, rfl, seL s1 hyb, _, rfl, by omega, ?_, fun D0 hD => ?_⟩
      · have := ryb.length
        omega
      refine lc_range (lo := 0) (n := ((ys.length : Int)).toNat) (fun _ H' => H' D0 = some (.lst []) ∧ Same H1 H') ⟨upd_same, Same.new hD⟩ ?_ ?_
      · rintro i H' hi ⟨h0, sm0⟩
        have sm := s1.trans sm0
        have hiy : i < ys.length := by omega
        have hix : i < xs.length := by rw [rxa.length, ← ryb.length]; exact hiy
        obtain ⟨dx, hdx, vx⟩ := rxa.get (List.getElem?_eq_getElem hix)
        obtain ⟨dy, hdy, vy⟩ := ryb.get (List.getElem?_eq_getElem hiy)
        rw [hdx] at hdy
        cases hdy
        have ei : (0 : Int) + (i : Int) = (i : Int) := by omega
        refine ⟨rfl, _, rfl, _, rfl, ?_⟩
        rw [ei]
        refine rIx_at (seL sm hxa) (List.getElem?_eq_getElem hix) ?_
        refine ⟨_, rfl, _, rfl, ?_⟩
        refine rIx_at (seL sm hyb) (List.getElem?_eq_getElem hiy) ?_
        exact ⟨st, _, _, dx, rfl, vx.same sm, vy.same sm, hf _ (List.mem_of_getElem? hdx), fun H2 s2 => ⟨_, rfl, iteF ⟨s2 _ _ h0, sm0.trans s2⟩⟩⟩
      · rintro H' ⟨h0, sm0⟩
        exact ⟨D0, _, rfl, .inl (SqL.of h0), rfl, k _ (s1.trans sm0)⟩
theorem ok_alike {f : Addr} {fd : FuncData} (F : Fun K "_law_alike" "_law_alike" s_alike f fd) (T : TxtW K mg) (hm : mg "_law_alike" = some (.ref f)) (hb : Binds K fd ["_law_got", "_law_due"] []) : ∀ n, FnOk P w K mg base CX0 (n + 1) f fd ["_law_got", "_law_due"] (spSame K n)
  | 0 => ⟨fun _ _ _ _ h => h.elim, fun _ _ _ _ _ _ _ _ _ _ _ _ _ h => h.elim⟩
  | n + 1 => ok_alike_step F T ⟨f, fd, ok_alike F T hm hb n, hm, F.kp, hb⟩
end
end K00

set_option Elab.async false
set_option linter.all false
set_option maxRecDepth 100000
set_option maxHeartbeats 4000000
namespace K00
open PySem L2
/-! ### drawn numbers -/
theorem St.ne {st p : Addr} {H : Hp} (hs : StAt H st) (hp : H p = none) : p ≠ st := fun e => by
  obtain ⟨_, _, _, _, _, _, _, q, _⟩ := hs
  rw [e, q] at hp
  cases hp
theorem Ext.new {st p : Addr} {H : Hp} {o : HO} (hs : StAt H st) (hp : H p = none) : Ext st H (upd H p o) := Ext.ofSame hs (Same.new hp)
/-- the bits of a number of 1000 digits -/
theorem bits1000 {n : Nat} (h : n < 10 ^ 1000) : n.log2 < 4001 := by
  by_cases z : n = 0
  · subst z; decide
  · rw [Nat.log2_lt z]
    have e1 : (10 : Nat) ^ 1000 ≤ 16 ^ 1000 := Nat.pow_le_pow_left (by decide) 1000
    have e2 : (16 : Nat) ^ 1000 = 2 ^ 4000 := by rw [show (16 : Nat) = 2 ^ 4 by decide, ← Nat.pow_mul]
    have e3 : (2 : Nat) ^ 4000 ≤ 2 ^ 4001 := Nat.pow_le_pow_right (by decide) (by decide)
    rw [e2] at e1
    exact Nat.lt_of_lt_of_le h (Nat.le_trans e1 e3)
theorem mul1000 {c : Int} {n : Nat} (hc : c.natAbs.log2 < 900000) (h : n < 10 ^ 1000) : CMulW c (n : Int) := by
  have := bits1000 h
  unfold CMulW
  rw [Int.natAbs_natCast]
  omega
def spPart : Sp := fun vs H Q _ => ∃ (st : Addr), vs = [.ref st] ∧ StAt H st ∧ ∀ (r : Int) (H' : Hp), 0 ≤ r → r < ((10 ^ 1000 : Nat) : Int) → Ext st H H' → Q (.int r) H'
section
variable {P : Program} {w : World} {K : PySem.W.Frag} {mg : Str → Option Value} {base : Heap}
abbrev s_part : Stmt := top 26
theorem sc_part : FnScope ["_law_store_here", "_law_size", "_law_low_here"] ["_law_store_here"] (defScope s_part) := ⟨rfl, rfl, rfl, by decide +kernel, rfl, by decide +kernel, by decide +kernel⟩
theorem ok_part {f : Addr} {fd : FuncData} (F : Fun K "_law_part" "_law_part" s_part f fd) (T : TxtW K mg) (c_take : Callee P w K mg base CX0 126 "_law_take" psT (spTake 125)) (c_tens : Callee P w K mg base CX0 1 "_law_tens" ["_law_figures"] spTens) :
    FnOk P w K mg base CX0 127 f fd ["_law_store_here"] spPart := by
  refine F.ok sc_part (fun vs H Q E h => ?_) (fun cdv A outer s H vs Q E hr h => ?_)
  · obtain ⟨_, rfl, _⟩ := h
    rfl
  · obtain ⟨st, rfl, hS, k⟩ := h
    refine ⟨_, (pss_cons (ps_if (pt_cmpR op_eq (pe_fn c_take (hr.mono (by decide)) (by rfl) pass0 (pa_cons (pv 0) (pa_cons pe_int pa_nil))) pe_int (nomark _)) (pss_one (ps_ret (pe_fn c_take (hr.mono (by decide)) (by rfl) pass0 (pa_cons (pv 0) (pa_cons pe_int pa_nil))))) pss_nil)
  (pss_cons (ps_set (i := 1) sc_part.nd rfl (Or.inl rfl) (pe_ix ix_list (pe_lst (pa_cons pe_int (pa_cons pe_int (pa_cons pe_int (pa_cons pe_int (pa_cons pe_int (pa_cons pe_int (pa_cons pe_int (pa_cons pe_int pa_nil))))))))) (pe_fn c_take (hr.mono (by decide)) (by rfl) pass0 (pa_cons (pv 0) (pa_cons pe_int pa_nil))) (fun _ _ => rfl)))
  (pss_cons (ps_set (i := 2) sc_part.nd rfl (Or.inl rfl) (pe_fn c_tens (hr.mono (by decide)) (by rfl) pass0 (pa_cons (pe_op op_sub (pv 1) pe_int) pa_nil)))
  (pss_one (ps_ret (pe_ix ix_list (pe_lst (pa_cons (pv 2) (pa_cons (pe_op op_sub (pe_op op_mulW pe_int (pv 2)) pe_int) (pa_cons (pe_op op_add (pv 2) (pe_fn c_take (hr.mono (by decide)) (by rfl) pass0 (pa_cons (pv 0) (pa_cons (pe_op op_mulW pe_int (pv 2)) pa_nil)))) (pa_cons (pe_op op_mulW pe_int (pv 2)) pa_nil))))) (pe_fn c_take (hr.mono (by decide)) (by rfl) pass0 (pa_cons (pv 0) (pa_cons pe_int pa_nil))) (fun _ _ => rfl))))))), ?_⟩
    refine ⟨_, rfl, st, 2, rfl, hS, lim124s (by decide), fun r H1 r1 x1 => ⟨rfl, _, rfl, ite2 (fun _ => ?_) (fun _ => ?_)⟩⟩
    · refine ⟨_, rfl, st, 13, rfl, x1.at_, lim124s (by decide), fun r2 H2 r2' x2 => k r2 H2 r2'.1 ?_ (x1.trans x2)⟩
      have := r2'.2
      have : (13 : Int) ≤ ((10 ^ 1000 : Nat) : Int) := Int.ofNat_le.mpr (Nat.le_trans (show 13 ≤ 10 ^ 2 by decide) (Nat.pow_le_pow_right (by decide) (by decide)))
      omega
    · refine ⟨by show 8 ≤ sizeLine; decide, fun L hL => ⟨_, rfl, st, 8, rfl, (x1.trans (Ext.new x1.at_ hL)).at_, lim124s (by decide), fun r2 H2 r2' x2 => ?_⟩⟩
      have nL := St.ne x1.at_ hL
      have eL := x2.old _ _ nL upd_same
      have x12 := (x1.trans (Ext.new x1.at_ hL)).trans x2
      obtain ⟨j, rfl, hj⟩ : ∃ j : Nat, r2 = (j : Int) ∧ j < 8 := ⟨r2.toNat, by have := r2'.1; omega, by have := r2'.1; have := r2'.2; omega⟩
      obtain ⟨sz, hs1, hs2, hj2⟩ : ∃ s : Int, 1 ≤ s ∧ s ≤ 1000 ∧ ([.int 1, .int 2, .int 9, .int 30, .int 399, .int 400, .int 401, .int 1000] : List V)[j]? = some (.int s) := match j, hj with
        | 0, _ => ⟨1, by decide, by decide, rfl⟩
        | 1, _ => ⟨2, by decide, by decide, rfl⟩
        | 2, _ => ⟨9, by decide, by decide, rfl⟩
        | 3, _ => ⟨30, by decide, by decide, rfl⟩
        | 4, _ => ⟨399, by decide, by decide, rfl⟩
        | 5, _ => ⟨400, by decide, by decide, rfl⟩
        | 6, _ => ⟨401, by decide, by decide, rfl⟩
        | 7, _ => ⟨1000, by decide, by decide, rfl⟩
      refine ⟨L, _, _, _, rfl, rfl, SqL.of eL, atI_nat hj2, ?_⟩
      refine ⟨_, rfl, _, _, rfl, rfl, sz - 1, rfl, by omega, by omega, ?_⟩
      have t10 : 10 * 10 ^ (sz - 1).toNat ≤ 10 ^ 1000 := by
        have : 10 ^ ((sz - 1).toNat + 1) ≤ 10 ^ 1000 := Nat.pow_le_pow_right (by decide) (by omega)
        rw [Nat.pow_succ] at this
        omega
      have t1 : 1 ≤ 10 ^ (sz - 1).toNat := Nat.pow_pos (by decide)
      have l1000 := lim124
      generalize (10 : Nat) ^ (sz - 1).toNat = N at t10 t1 ⊢
      generalize hB : (10 : Nat) ^ 1000 = B at *
      have cm : ∀ c : Int, c.natAbs.log2 < 900000 → CMulW c (N : Int) := fun c hc => mul1000 hc (by rw [hB]; omega)
      refine ⟨_, rfl, _, rfl, _, _, rfl, rfl, cm 10 (by decide), _, _, rfl, rfl, _, rfl, _, rfl, _, rfl, _, _, rfl, rfl, cm 9 (by decide), st, _, rfl, x12.at_, Int.le_trans (show (9 : Int) * (N : Int) ≤ (B : Int) by omega) l1000, fun r3 H3 r3' x3 => ?_⟩
      have g0 := r3'.1
      have g1 := r3'.2
      refine ⟨_, _, rfl, rfl, _, rfl, _, _, rfl, rfl, cm 2 (by decide), by show 4 ≤ sizeLine; decide, fun M hM => ?_⟩
      have x13 := x12.trans x3
      have xM := Ext.new (o := .lst [.int (N : Int), .int (10 * (N : Int) - 1), .int ((N : Int) + r3), .int (2 * (N : Int))]) x13.at_ hM
      have nM := St.ne x13.at_ hM
      refine ⟨_, rfl, st, 4, rfl, (x13.trans xM).at_, lim124s (by decide), fun r4 H4 r4' x4 => ?_⟩
      have eM := x4.old _ _ nM upd_same
      obtain ⟨i, rfl, hi⟩ : ∃ i : Nat, r4 = (i : Int) ∧ i < 4 := ⟨r4.toNat, by have := r4'.1; omega, by have := r4'.1; have := r4'.2; omega⟩
      obtain ⟨v, hv1, hv2, hv3⟩ : ∃ s : Int, 0 ≤ s ∧ s < (B : Int) ∧ ([.int (N : Int), .int (10 * (N : Int) - 1), .int ((N : Int) + r3), .int (2 * (N : Int))] : List V)[i]? = some (.int s) := match i, hi with
        | 0, _ => ⟨_, by omega, by omega, rfl⟩
        | 1, _ => ⟨_, by omega, by omega, rfl⟩
        | 2, _ => ⟨(N : Int) + r3, by omega, by omega, rfl⟩
        | 3, _ => ⟨_, by omega, by omega, rfl⟩
      exact ⟨M, _, _, _, rfl, rfl, SqL.of eM, atI_nat hv3, k v H4 hv1 hv2 ((x13.trans xM).trans x4)⟩
end
end K00

set_option Elab.async false
set_option linter.all false
set_option maxRecDepth 100000
set_option maxHeartbeats 4000000
namespace K00
open PySem L2
/-! ### a drawn ratio -/
theorem lowP_lo {u d : Int} : Lo (lowP u d).1 (lowP u d).2 := by
  unfold lowP
  by_cases h : d = 0
  · rw [if_pos h]; exact ⟨by decide, by decide⟩
  · rw [if_neg h]; exact lo_low h
theorem lowP_n {u d : Int} : (lowP u d).1.natAbs ≤ u.natAbs := by
  unfold lowP
  by_cases h : d = 0
  · rw [if_pos h]; exact Nat.zero_le _
  · rw [if_neg h]; exact low_le_n
theorem lowP_d {u d : Int} (h : d ≠ 0) : (lowP u d).2.natAbs ≤ d.natAbs := by
  unfold lowP
  rw [if_neg h]
  exact low_le_d h
theorem RatV.new {K : PySem.W.Frag} {H : Hp} {p : Addr} {n d : Int} : RatV K (upd H p (.tup [.int n, .int d])) (.ref p) n d := ⟨p, rfl, SqT.of upd_same⟩
theorem b9000 {n : Nat} (h : n < 10 ^ 1000) : n < 2 ^ 9000 := by
  have e1 : (10 : Nat) ^ 1000 ≤ 16 ^ 1000 := Nat.pow_le_pow_left (by decide) 1000
  have e2 : (16 : Nat) ^ 1000 = 2 ^ 4000 := by rw [show (16 : Nat) = 2 ^ 4 by decide, ← Nat.pow_mul]
  have e3 : (2 : Nat) ^ 4000 ≤ 2 ^ 9000 := Nat.pow_le_pow_right (by decide) (by decide)
  rw [e2] at e1
  exact Nat.lt_of_lt_of_le h (Nat.le_trans e1 e3)
def spNumber (K : PySem.W.Frag) : Sp := fun vs H Q _ => ∃ (st : Addr), vs = [.ref st] ∧ StAt H st ∧ ∀ (v : V) (H' : Hp) (n d : Int), Ext st H H' → RatV K H' v n d → Lo n d → n.natAbs < 10 ^ 1000 → d.natAbs < 10 ^ 1000 → Q v H'
section
variable {P : Program} {w : World} {K : PySem.W.Frag} {mg : Str → Option Value} {base : Heap}
abbrev s_number : Stmt := top 27
theorem sc_number : FnScope ["_law_store_here", "_law_up"] ["_law_store_here"] (defScope s_number) := ⟨rfl, rfl, rfl, by decide +kernel, rfl, by decide +kernel, by decide +kernel⟩
theorem ok_number {f : Addr} {fd : FuncData} (F : Fun K "_law_number" "_law_number" s_number f fd) (T : TxtW K mg) (c_take : Callee P w K mg base CX0 126 "_law_take" psT (spTake 125)) (c_part : Callee P w K mg base CX0 127 "_law_part" ["_law_store_here"] spPart) (c_low : Callee P w K mg base CX0 1 "_law_low" psL spLow) :
    FnOk P w K mg base CX0 128 f fd ["_law_store_here"] (spNumber K) := by
  refine F.ok sc_number (fun vs H Q E h => ?_) (fun cdv A outer s H vs Q E hr h => ?_)
  · obtain ⟨_, rfl, _⟩ := h
    rfl
  · obtain ⟨st, rfl, hS, k⟩ := h
    refine ⟨_, (pss_cons (ps_set (i := 1) sc_number.nd rfl (Or.inl rfl) (pe_op op_mulW (pe_fn c_part (hr.mono (by decide)) (by rfl) pass0 (pa_cons (pv 0) pa_nil)) (pe_ix ix_list (pe_lst (pa_cons pe_int (pa_cons (pe_un un_neg pe_int) pa_nil))) (pe_fn c_take (hr.mono (by decide)) (by rfl) pass0 (pa_cons (pv 0) (pa_cons pe_int pa_nil))) (fun _ _ => rfl))))
  (pss_one (ps_ret (pe_fn c_low (hr.mono (by decide)) (by rfl) pass0 (pa_cons (pv 1) (pa_cons (pe_callB (call_max2 rfl) (by rfl) T.max (by decide +kernel) (pa_cons pe_int (pa_cons (pe_fn c_part (hr.mono (by decide)) (by rfl) pass0 (pa_cons (pv 0) pa_nil)) pa_nil))) pa_nil)))))), ?_⟩
    refine ⟨_, rfl, st, rfl, hS, fun u H1 u0 u1 x1 => ⟨_, rfl, by show 2 ≤ sizeLine; decide, fun L hL => ?_⟩⟩
    have xL := Ext.new (o := .lst [.int 1, .int (-1)]) x1.at_ hL
    have nL := St.ne x1.at_ hL
    refine ⟨_, rfl, st, 2, rfl, xL.at_, lim124s (by decide), fun r H2 r' x2 => ?_⟩
    have eL := x2.old _ _ nL upd_same
    obtain ⟨i, rfl, hi⟩ : ∃ i : Nat, r = (i : Int) ∧ i < 2 := ⟨r.toNat, by have := r'.1; omega, by have := r'.1; have := r'.2; omega⟩
    obtain ⟨sg, hs, hv⟩ : ∃ s : Int, (s = 1 ∨ s = -1) ∧ ([.int 1, .int (-1)] : List V)[i]? = some (.int s) := match i, hi with
      | 0, _ => ⟨1, .inl rfl, rfl⟩
      | 1, _ => ⟨-1, .inr rfl, rfl⟩
    have un : u.natAbs < 10 ^ 1000 := by omega
    have ub := bits1000 un
    have cm : CMulW u sg := by
      unfold CMulW
      have : sg.natAbs = 1 := by omega
      rw [this]
      have : Nat.log2 1 = 0 := by decide
      omega
    have x12 := (x1.trans xL).trans x2
    refine ⟨L, _, _, _, rfl, rfl, SqL.of eL, atI_nat hv, _, _, rfl, rfl, cm, ?_⟩
    refine ⟨_, rfl, _, rfl, st, rfl, x12.at_, fun d H3 d0 d1 x3 => ⟨_, _, rfl, u * sg, if d > 1 then d else 1, rfl, b9000 ?_, b9000 ?_, fun q hq => ?_⟩⟩
    · have : (u * sg).natAbs = u.natAbs := by rcases hs with rfl | rfl <;> omega
      rw [this]
      exact un
    · have t : 1 < 10 ^ 1000 := Nat.one_lt_pow (by decide) (by decide)
      split <;> omega
    · have x13 := x12.trans x3
      have t : 1 < 10 ^ 1000 := Nat.one_lt_pow (by decide) (by decide)
      have dn : (if d > 1 then d else 1) ≠ 0 := by split <;> omega
      refine k _ _ _ _ (x13.trans (Ext.new x13.at_ hq)) RatV.new lowP_lo (Nat.lt_of_le_of_lt lowP_n ?_) (Nat.lt_of_le_of_lt (lowP_d dn) ?_)
      · have : (u * sg).natAbs = u.natAbs := by rcases hs with rfl | rfl <;> omega
        rw [this]
        exact un
      · split <;> omega
end
end K00

set_option Elab.async false
set_option linter.all false
set_option maxRecDepth 100000
set_option maxHeartbeats 4000000
namespace K00
open PySem L2
/-! ### drawn texts -/
/-- a new object changed: all else stands -/
theorem Ext.upd {st p : Addr} {H H1 : Hp} {o : HO} (hs : StAt H st) (x : Ext st H H1) (hp : H p = none) : Ext st H (L2.upd H1 p o) := by
  have nps := St.ne hs hp
  refine ⟨fun b u nb e => ?_, ?_, fun l r e => ?_⟩
  · rw [upd_ne (ne_of_none e hp)]
    exact x.old b u nb e
  · obtain ⟨l0, ns0, i0, b0, c0, d0, e0, g1, g2, _⟩ := hs
    obtain ⟨l, ns, i, b, c, d, e, h1, h2, h3, h4, h5⟩ := x.at_
    obtain ⟨r', hr'⟩ := x.keep _ _ g1
    rw [h1] at hr'
    have el : l = l0 := by cases hr'; rfl
    exact ⟨l, ns, i, b, c, d, e, by rw [upd_ne nps.symm]; exact h1, by rw [upd_ne (by rw [el]; exact ne_of_none g2 hp)]; exact h2, h3, h4, h5⟩
  · obtain ⟨r', h⟩ := x.keep l r e
    exact ⟨r', by rw [upd_ne nps.symm]; exact h⟩
theorem Ext.back {st p : Addr} {H H1 : Hp} (x : Ext st H H1) (hp : H1 p = none) : H p = none := by
  cases e : H p with
  | none => rfl
  | some o => exact absurd (x.old p o (St.ne x.at_ hp) e) (by rw [hp]; intro z; cases z)
/-- the texts of a list of texts, so far -/
def Grown (ok : Nat → Prop) (D0 st : Addr) (H2 : Hp) (i : Nat) (H3 : Hp) : Prop := Ext st H2 H3 ∧ ∃ ys : List Str, H3 D0 = some (.lst (ys.map V.str)) ∧ ys.length = i ∧ ∀ y ∈ ys, ∃ c, y = ⟨#[c]⟩ ∧ ok c
theorem grown_step {ok : Nat → Prop} {D0 st : Addr} {H2 H3 H4 : Hp} {i : Nat} {c : Nat} (hS : StAt H2 st) (hD : H2 D0 = none) (h : Grown ok D0 st H2 i H3) (x : Ext st H3 H4) (hc : ok c) (hi : i < 1000) :
    ∃ acc, H4 D0 = some (.lst acc) ∧ acc.length < sizeLine ∧ Grown ok D0 st H2 (i + 1) (upd H4 D0 (.lst (acc ++ [.str ⟨#[c]⟩]))) := by
  obtain ⟨x3, ys, hy, hl, hal⟩ := h
  have nD := St.ne hS hD
  refine ⟨ys.map V.str, x.old _ _ nD hy, by rw [List.length_map, hl, sizeLine_eq]; omega, (x3.trans x).upd hS hD, ys ++ [⟨#[c]⟩], by rw [List.map_append]; exact upd_same, by rw [List.length_append, hl]; rfl, fun y hm => ?_⟩
  rcases List.mem_append.mp hm with q | q
  · exact hal y q
  · rw [List.mem_singleton.mp q]
    exact ⟨c, rfl, hc⟩
theorem joined_signs {ok : Nat → Prop} : ∀ {ys : List Str}, (∀ y ∈ ys, ∃ c, y = (⟨#[c]⟩ : Str) ∧ ok c) → (TL.joinL [] (ys.map TL.tl)).length = ys.length ∧ ∀ c ∈ TL.joinL [] (ys.map TL.tl), ok c
  | [], _ => ⟨rfl, fun c h => by cases h⟩
  | [y], h => by
    obtain ⟨c, rfl, hc⟩ := h y (List.mem_singleton.mpr rfl)
    exact ⟨rfl, fun d hd => by rw [List.mem_singleton.mp (show d ∈ [c] from hd)]; exact hc⟩
  | y :: z :: r, h => by
    obtain ⟨c, rfl, hc⟩ := h y (List.mem_cons_self ..)
    obtain ⟨e1, e2⟩ := joined_signs (ys := z :: r) fun x hx => h x (List.mem_cons_of_mem _ hx)
    have e : TL.joinL [] (((⟨#[c]⟩ : Str) :: z :: r).map TL.tl) = c :: TL.joinL [] ((z :: r).map TL.tl) := rfl
    rw [e]
    refine ⟨congrArg (· + 1) e1, fun d hd => ?_⟩
    rcases List.mem_cons.mp hd with rfl | q
    · exact hc
    · exact e2 d q
theorem sum_ones {ok : Nat → Prop} : ∀ {ys : List Str}, (∀ y ∈ ys, ∃ c, y = (⟨#[c]⟩ : Str) ∧ ok c) → (ys.map (·.length)).sum = ys.length
  | [], _ => rfl
  | y :: r, h => by
    obtain ⟨c, rfl, _⟩ := h y (List.mem_cons_self ..)
    rw [List.map_cons, List.sum_cons, sum_ones fun x hx => h x (List.mem_cons_of_mem _ hx), List.length_cons]
    show 1 + r.length = r.length + 1
    omega
theorem join_signs {ok : Nat → Prop} {ys : List Str} (h : ∀ y ∈ ys, ∃ c, y = (⟨#[c]⟩ : Str) ∧ ok c) : (Txt.join "" ys).length = ys.length ∧ ∀ c ∈ (Txt.join "" ys).cps.toList, ok c := by
  have e : TL.tl (Txt.join "" ys) = TL.joinL [] (ys.map TL.tl) := by rw [TL.join_eq, TL.tl_join]; rfl
  obtain ⟨e1, e2⟩ := joined_signs h
  refine ⟨by rw [TL.len_tl, e, e1], fun c hc => e2 c ?_⟩
  rw [← e]
  exact hc
/-- some text, not too long -/
def spWord (m : Nat) : Sp := fun vs H Q _ => ∃ (st : Addr), vs = [.ref st] ∧ StAt H st ∧ ∀ (z : Str) (H' : Hp), Ext st H H' → z.length ≤ m → Q (.str z) H'
abbrev mkShort : Str := "0112346/-"
section
variable {P : Program} {w : World} {K : PySem.W.Frag} {mg : Str → Option Value} {base : Heap}
abbrev s_short : Stmt := top 31
theorem sc_short : FnScope ["_law_store_here", "_law_marks", "_law_k"] ["_law_store_here"] (defScope s_short) := ⟨rfl, rfl, rfl, by decide +kernel, rfl, by decide +kernel, by decide +kernel⟩
theorem ok_short {f : Addr} {fd : FuncData} (F : Fun K "_law_short" "_law_short" s_short f fd) (T : TxtW K mg) (c_take : Callee P w K mg base CX0 126 "_law_take" psT (spTake 125)) : FnOk P w K mg base CX0 127 f fd ["_law_store_here"] (spWord 10) := by
  refine F.ok sc_short (fun vs H Q E h => ?_) (fun cdv A outer s H vs Q E hr h => ?_)
  · obtain ⟨_, rfl, _⟩ := h
    rfl
  · obtain ⟨st, rfl, hS, k⟩ := h
    refine ⟨_, (pss_cons (ps_set (i := 1) sc_short.nd rfl (Or.inr rfl) pe_str)
  (pss_one (ps_ret (pe_join pe_str (pe_lc (own := [("_law_k", 2)]) (g := gName 2) rfl sc_short.nd (pi_range1 rfl T.range (pa_cons (pe_fn c_take (hr.mono (by decide)) (by rfl) pass0 (pa_cons (pv 0) (pa_cons pe_int pa_nil))) pa_nil)) (blkOk_by (own := [("_law_k", 2)]) (N := ["_law_store_here", "_law_marks", "_law_k"]) (sc := defScope s_short) (by decide +kernel)) (fun _ _ _ _ _ => pg_name (i := 2) sc_short.nd rfl (Or.inl rfl)) (fun _ _ _ _ _ => pts_nil) (fun _ _ _ _ _ => (pe_ix ix_str (pv 1) (pe_fn c_take (hr.mono (by decide)) (by rfl) pass0 (pa_cons (pv 0) (pa_cons pe_int pa_nil))) (fun _ _ => rfl)))))))), ?_⟩
    refine ⟨⟨_, rfl⟩, _, rfl, st, 7, rfl, hS, lim124s (by decide), fun n H1 n' x1 => ⟨_, rfl, by have := n'.1; omega, by have := n'.2; omega, fun D0 hD0 => ?_⟩⟩
    have hS1 := x1.at_
    have n0 := n'.1
    have n7 : n < 7 := by have := n'.2; omega
    refine lc_range (fun i H' => Grown (fun _ => True) D0 st H1 i H') ⟨Ext.new hS1 hD0, [], upd_same, rfl, fun y hy => by cases hy⟩ (fun i H' hi hd => ⟨rfl, lcYes ⟨_, rfl, ?_⟩⟩) (fun H' hd => ?_)
    · refine ⟨_, rfl, st, 9, rfl, hd.1.at_, lim124s (by decide), fun r H4 r4 x4 => ?_⟩
      have r0 := r4.1
      obtain ⟨j, rfl⟩ : ∃ j : Nat, r = (j : Int) := ⟨r.toNat, by omega⟩
      have hj : j < (mkShort : Str).cps.toList.length := by
        have : (mkShort : Str).cps.toList.length = 9 := by decide +kernel
        have := r4.2
        omega
      exact ⟨mkShort, _, _, rfl, rfl, by decide +kernel, atI_nat (j := j) (List.getElem?_eq_getElem hj), grown_step hS1 hD0 hd x4 trivial (by omega)⟩
    · obtain ⟨x3, ys, hy, hl, hal⟩ := hd
      obtain ⟨j1, j2⟩ := join_signs hal
      refine ⟨_, D0, ys, rfl, rfl, .inl (SqL.of hy), ?_, k _ H' (x1.trans x3) (by rw [j1, hl]; omega)⟩
      rw [sum_ones hal, hl]
      show n.toNat + n.toNat * 0 ≤ 16777216
      omega
end
end K00

set_option Elab.async false
set_option linter.all false
set_option maxRecDepth 100000
set_option maxHeartbeats 4000000
namespace K00
open PySem L2
/-! ### long texts -/
theorem op_rep_txt {X : Cx} : OpR X (binaryOp .Mult) (fun x y H Q => ∃ (z : Str) (n : Int), x = .str z ∧ y = .int n ∧ 2 ≤ n ∧ n ≤ 6000 ∧ 1 ≤ z.length ∧ z.length ≤ 1000 ∧ ∀ r : Str, r.cps.toList = (List.replicate n.toNat z.cps.toList).flatten → r.length = z.length * n.toNat → Q (.str r) H) := by
  intro pins s σ H x y v u Q I rx ry h
  obtain ⟨z, n, rfl, rfl, h0, h1, z0, z1, q⟩ := h
  obtain ⟨t, rfl⟩ := rx
  obtain ⟨t', rfl⟩ := ry
  have fold : ∀ (k : Nat) (acc : Array Nat), ((List.replicate k z.cps).foldl (· ++ ·) acc).toList = acc.toList ++ (List.replicate k z.cps.toList).flatten := fun k => by
    induction k with
    | zero => intro acc; simp
    | succ k ih =>
      intro acc
      rw [List.replicate_succ, List.foldl_cons, ih, List.replicate_succ]
      simp
  have ml : z.length * n.toNat ≤ 6000000 := Nat.le_trans (Nat.mul_le_mul z1 (show n.toNat ≤ 6000 by omega)) (by decide)
  refine PySem.P.mul_str (by rw [decide_eq_false (by omega), decide_eq_false (by omega)]; rfl) (fun hn hx => ?_) (fun hn hx => ?_) ?_
  · show ¬ ((z.length : Nat) : Int) > (2 ^ 63 - 1) / n
    have : ((z.length : Nat) : Int) ≤ (2 ^ 63 - 1) / n := Int.le_ediv_of_mul_le (by omega) (by
      have e : ((z.length : Nat) : Int) * n = ((z.length * n.toNat : Nat) : Int) := by
        rw [Int.natCast_mul, Int.toNat_of_nonneg (by omega)]
      rw [e]
      omega)
    omega
  · exact decide_eq_false (by show ¬ z.length * n.toNat > sizeLine; rw [sizeLine_eq]; omega)
  · rw [if_neg (show ¬ n < 1 by omega)]
    rw [if_neg (show ¬ ((n == 1 || z.length == 0) = true) by
      rw [Bool.or_eq_true, beq_iff_eq, beq_iff_eq]
      omega)]
    have e := fold n.toNat #[]
    have el : ((List.replicate n.toNat z.cps).foldl (· ++ ·) #[]).toList.length = z.length * n.toNat := by
      rw [e]
      simp [List.length_flatten, Str.length, Nat.mul_comm]
    refine ⟨?_, ⟨.str ⟨(List.replicate n.toNat z.cps).foldl (· ++ ·) #[]⟩, H, I.tok _, ⟨_, rfl⟩, q _ (by rw [e]; simp) ?_⟩⟩
    · show ((List.replicate n.toNat z.cps).foldl (· ++ ·) #[]).size ≤ sizeLine
      rw [← Array.length_toList, el, sizeLine_eq]
      omega
    · show ((List.replicate n.toNat z.cps).foldl (· ++ ·) #[]).size = _
      rw [← Array.length_toList, el]
theorem cut_le {z : Str} {s : Int} (h : 0 ≤ s) : (cutS z none (some s)).length ≤ s.toNat := by
  have e1 : HT.sIx z.length z.length (some s) = min s.toNat z.length := if_neg (by omega)
  show (((z.cps.toList.drop (HT.sIx z.length 0 none)).take (HT.sIx z.length z.length (some s) - HT.sIx z.length 0 none)).toArray).size ≤ _
  rw [List.size_toArray, List.length_take, e1]
  omega
theorem len_app (a b : Str) : (a ++ b).length = a.length + b.length := by rw [TL.len_tl, TL.tl_append, List.length_append, ← TL.len_tl, ← TL.len_tl]
section
variable {P : Program} {w : World} {K : PySem.W.Frag} {mg : Str → Option Value} {base : Heap}
abbrev s_long : Stmt := top 32
theorem sc_long : FnScope ["_law_store_here", "_law_size", "_law_text"] ["_law_store_here"] (defScope s_long) := ⟨rfl, rfl, rfl, by decide +kernel, rfl, by decide +kernel, by decide +kernel⟩
theorem ok_long {f : Addr} {fd : FuncData} (F : Fun K "_law_long" "_law_long" s_long f fd) (T : TxtW K mg) (c_take : Callee P w K mg base CX0 126 "_law_take" psT (spTake 125)) : FnOk P w K mg base CX0 127 f fd ["_law_store_here"] (spWord 18000) := by
  refine F.ok sc_long (fun vs H Q E h => ?_) (fun cdv A outer s H vs Q E hr h => ?_)
  · obtain ⟨_, rfl, _⟩ := h
    rfl
  · obtain ⟨st, rfl, hS, k⟩ := h
    refine ⟨_, (pss_cons (ps_set (i := 1) sc_long.nd rfl (Or.inl rfl) (pe_ix ix_list (pe_lst (pa_cons pe_int (pa_cons pe_int (pa_cons pe_int (pa_cons pe_int (pa_cons pe_int (pa_cons pe_int (pa_cons pe_int pa_nil)))))))) (pe_fn c_take (hr.mono (by decide)) (by rfl) pass0 (pa_cons (pv 0) (pa_cons pe_int pa_nil))) (fun _ _ => rfl)))
  (pss_cons (ps_set (i := 2) sc_long.nd rfl (Or.inl rfl) (pe_op op_rep_txt (pe_ix ix_list (pe_lst (pa_cons pe_str (pa_cons pe_str (pa_cons pe_str (pa_cons pe_str pa_nil))))) (pe_fn c_take (hr.mono (by decide)) (by rfl) pass0 (pa_cons (pv 0) (pa_cons pe_int pa_nil))) (fun _ _ => rfl)) (pv 1)))
  (pss_cons (ps_set (i := 2) sc_long.nd rfl (Or.inl rfl) (pe_slice sl_str (pv 2) po_none (po_some (pv 1))))
  (pss_one (ps_ret (pe_ix ix_list (pe_lst (pa_cons (pv 2) (pa_cons (pe_op op_add_str pe_str (pv 2)) (pa_cons (pe_op op_add_str pe_str (pv 2)) (pa_cons (pe_op op_add_str (pv 2) pe_str) (pa_cons (pe_op op_add_str (pe_op op_add_str (pv 2) pe_str) (pv 2)) pa_nil)))))) (pe_fn c_take (hr.mono (by decide)) (by rfl) pass0 (pa_cons (pv 0) (pa_cons pe_int pa_nil))) (fun _ _ => rfl))))))), ?_⟩
    refine ⟨by show 7 ≤ sizeLine; decide, fun L hL => ?_⟩
    have xL := Ext.new (o := .lst [.int 399, .int 400, .int 401, .int 1000, .int 4300, .int 4301, .int 5000]) hS hL
    have nL := St.ne hS hL
    refine ⟨_, rfl, st, 7, rfl, xL.at_, lim124s (by decide), fun r H2 r' x2 => ?_⟩
    have eL := x2.old _ _ nL upd_same
    obtain ⟨j, rfl, hj⟩ : ∃ j : Nat, r = (j : Int) ∧ j < 7 := ⟨r.toNat, by have := r'.1; omega, by have := r'.1; have := r'.2; omega⟩
    obtain ⟨sz, hs1, hs2, hj2⟩ : ∃ s : Int, 2 ≤ s ∧ s ≤ 5000 ∧ ([.int 399, .int 400, .int 401, .int 1000, .int 4300, .int 4301, .int 5000] : List V)[j]? = some (.int s) := match j, hj with
      | 0, _ => ⟨399, by decide, by decide, rfl⟩
      | 1, _ => ⟨400, by decide, by decide, rfl⟩
      | 2, _ => ⟨401, by decide, by decide, rfl⟩
      | 3, _ => ⟨1000, by decide, by decide, rfl⟩
      | 4, _ => ⟨4300, by decide, by decide, rfl⟩
      | 5, _ => ⟨4301, by decide, by decide, rfl⟩
      | 6, _ => ⟨5000, by decide, by decide, rfl⟩
    have x12 := xL.trans x2
    refine ⟨L, _, _, _, rfl, rfl, SqL.of eL, atI_nat hj2, ?_⟩
    refine ⟨by show 4 ≤ sizeLine; decide, fun M hM => ?_⟩
    have xM := Ext.new (o := .lst [.str "1", .str "7", .str "0", .str "12"]) x12.at_ hM
    have nM := St.ne x12.at_ hM
    refine ⟨_, rfl, st, 4, rfl, xM.at_, lim124s (by decide), fun r3 H3 r3' x3 => ?_⟩
    have eM := x3.old _ _ nM upd_same
    have x13 := (x12.trans xM).trans x3
    obtain ⟨i, rfl, hi⟩ : ∃ j : Nat, r3 = (j : Int) ∧ j < 4 := ⟨r3.toNat, by have := r3'.1; omega, by have := r3'.1; have := r3'.2; omega⟩
    obtain ⟨y, hy1, hy2, hy3⟩ : ∃ s : Str, 1 ≤ s.length ∧ s.length ≤ 1000 ∧ ([.str "1", .str "7", .str "0", .str "12"] : List V)[i]? = some (.str s) := match i, hi with
      | 0, _ => ⟨"1", by decide +kernel, by decide +kernel, rfl⟩
      | 1, _ => ⟨"7", by decide +kernel, by decide +kernel, rfl⟩
      | 2, _ => ⟨"0", by decide +kernel, by decide +kernel, rfl⟩
      | 3, _ => ⟨"12", by decide +kernel, by decide +kernel, rfl⟩
    refine ⟨M, _, _, _, rfl, rfl, SqL.of eM, atI_nat hy3, ?_⟩
    refine ⟨_, rfl, y, sz, rfl, rfl, hs1, by omega, hy1, hy2, fun z _ hzl => ?_⟩
    have zl : z.length ≤ sizeLine := by
      rw [hzl, sizeLine_eq]
      exact Nat.le_trans (Nat.mul_le_mul hy2 (show sz.toNat ≤ 5000 by omega)) (by decide)
    refine ⟨_, rfl, _, rfl, sz, rfl, z, rfl, zl, ?_⟩
    have tl' := cut_le (z := z) (s := sz) (by omega)
    generalize cutS z none (some sz) = t at tl' ⊢
    have t5 : t.length ≤ 5000 := by omega
    have c1 : ("-" : Str).length = 1 := by decide +kernel
    have c2 : ("1/" : Str).length = 2 := by decide +kernel
    have c3 : ("/3" : Str).length = 2 := by decide +kernel
    have c4 : ("/" : Str).length = 1 := by decide +kernel
    refine ⟨_, rfl, _, rfl, _, _, rfl, rfl, by rw [c1, sizeLine_eq]; omega, _, rfl, _, _, rfl, rfl, by rw [c2, sizeLine_eq]; omega, _, rfl, _, _, rfl, rfl, by rw [c3, sizeLine_eq]; omega, _, rfl, _, _, rfl, rfl, by rw [c4, sizeLine_eq]; omega, _, rfl, _, _, rfl, rfl, by rw [len_app, c4, sizeLine_eq]; omega, by show 5 ≤ sizeLine; decide, fun N hN => ?_⟩
    have xN := Ext.new (o := .lst [.str t, .str ("-" ++ t), .str ("1/" ++ t), .str (t ++ "/3"), .str (t ++ "/" ++ t)]) x13.at_ hN
    have nN := St.ne x13.at_ hN
    refine ⟨_, rfl, st, 5, rfl, xN.at_, lim124s (by decide), fun r4 H4 r4' x4 => ?_⟩
    have eN := x4.old _ _ nN upd_same
    obtain ⟨l, rfl, hl⟩ : ∃ j : Nat, r4 = (j : Int) ∧ j < 5 := ⟨r4.toNat, by have := r4'.1; omega, by have := r4'.1; have := r4'.2; omega⟩
    obtain ⟨w', hw1, hw2⟩ : ∃ s : Str, s.length ≤ 18000 ∧ ([.str t, .str ("-" ++ t), .str ("1/" ++ t), .str (t ++ "/3"), .str (t ++ "/" ++ t)] : List V)[l]? = some (.str s) := match l, hl with
      | 0, _ => ⟨_, by omega, rfl⟩
      | 1, _ => ⟨_, by rw [len_app, c1]; omega, rfl⟩
      | 2, _ => ⟨_, by rw [len_app, c2]; omega, rfl⟩
      | 3, _ => ⟨_, by rw [len_app, c3]; omega, rfl⟩
      | 4, _ => ⟨_, by rw [len_app, len_app, c4]; omega, rfl⟩
    exact ⟨N, _, _, _, rfl, rfl, SqL.of eN, atI_nat hw2, k w' H4 ((x13.trans xN).trans x4) hw1⟩
end
end K00

set_option Elab.async false
set_option linter.all false
set_option maxRecDepth 100000
set_option maxHeartbeats 4000000
namespace K00
open PySem L2
/-! ### bent texts -/
def spBent : Sp := fun vs H Q _ => ∃ (st : Addr) (z : Str), vs = [.ref st, .str z] ∧ StAt H st ∧ z.length ≤ 5000 ∧ ∀ (y : Str) (H' : Hp), Ext st H H' → y.length ≤ 2 * z.length + 4 → Q (.str y) H'
/-- t gives a text of at most B signs and leaves the heap -/
def Gs (ρ : L2.St) (t : TE) (B : Nat) : Prop := ∀ (H : Hp) (Q : VK), (∀ y : Str, y.length ≤ B → Q (.str y) H) → t ρ H Q
def GsA (ρ : L2.St) (t : TA) (n B : Nat) : Prop := ∀ (H : Hp) (Q : List V → Hp → Prop), (∀ ys : List Str, ys.length = n → (∀ y ∈ ys, y.length ≤ B) → Q (ys.map V.str) H) → t ρ H Q
section
variable {ρ : L2.St} {z : Str} {i : Int} {A B : Nat}
theorem Gs.str {y : Str} (h : y.length ≤ B) : Gs ρ (tC (.str y)) B := fun _ _ k => k y h
theorem Gs.var {j : Nat} {y : Str} (h : ρ[j]? = some (some (.str y))) (hb : y.length ≤ B) : Gs ρ (tVar j) B := fun _ _ k => ⟨_, h, k y hb⟩
theorem Gs.cat {ta tb : TE} (ha : Gs ρ ta A) (hb : Gs ρ tb B) (hs : A + B ≤ 1000000) : Gs ρ (tOp (fun x y H Q => ∃ i j, x = V.str i ∧ y = V.str j ∧ i.length + j.length ≤ sizeLine ∧ Q (V.str (i ++ j)) H) ta tb) (A + B) := fun H Q k =>
  ha H _ fun y hy => hb H _ fun x hx => ⟨y, x, rfl, rfl, by rw [sizeLine_eq]; omega, k _ (by rw [len_app]; omega)⟩
theorem Gs.hi (h1 : ρ[1]? = some (some (.str z))) (h2 : ρ[2]? = some (some (.int i))) (hz : z.length ≤ sizeLine) : Gs ρ (tSl rSlS (tVar 1) tNoPart (tPart (tVar 2))) z.length := fun H Q k => ⟨_, h1, _, h2, i, rfl, z, rfl, hz, k _ (cutS_length _ _ _)⟩
theorem Gs.lo (h1 : ρ[1]? = some (some (.str z))) (h2 : ρ[2]? = some (some (.int i))) (hz : z.length ≤ sizeLine) : Gs ρ (tSl rSlS (tVar 1) (tPart (tVar 2)) tNoPart) z.length := fun H Q k => ⟨_, h1, _, h2, i, rfl, z, rfl, hz, k _ (cutS_length _ _ _)⟩
theorem Gs.lo1 (h1 : ρ[1]? = some (some (.str z))) (h2 : ρ[2]? = some (some (.int i))) (hz : z.length ≤ sizeLine) : Gs ρ (tSl rSlS (tVar 1) (tPart (tOp (rI0 fun i j => V.int (i + j)) (tVar 2) (tC (V.int 1)))) tNoPart) z.length := fun H Q k => ⟨_, h1, _, h2, _, _, rfl, rfl, _, rfl, z, rfl, hz, k _ (cutS_length _ _ _)⟩
theorem GsA.nil : GsA ρ tNil 0 B := fun _ _ k => k [] rfl (fun y h => by cases h)
theorem GsA.cons {t : TE} {ts : TA} {n : Nat} (h : Gs ρ t A) (w : A ≤ B) (r : GsA ρ ts n B) : GsA ρ (tCons t ts) (n + 1) B := fun H Q k =>
  h H _ fun y hy => r H _ fun ys e al => k (y :: ys) (by rw [List.length_cons, e]) fun x hx => by
    rcases List.mem_cons.mp hx with rfl | hx
    · exact Nat.le_trans hy w
    · exact al x hx
theorem GsA.lst {t : TA} {n : Nat} {H : Hp} {Q : VK} (h : GsA ρ t n B) (hn : n ≤ 1000) (k : ∀ (ys : List Str) (p : Addr), ys.length = n → (∀ y ∈ ys, y.length ≤ B) → H p = none → Q (.ref p) (upd H p (.lst (ys.map V.str)))) : tLst t ρ H Q :=
  h H _ fun ys e al => ⟨by rw [List.length_map, e, sizeLine_eq]; omega, fun p hp => k ys p e al hp⟩
end
end K00

set_option Elab.async false
set_option linter.all false
set_option maxRecDepth 100000
set_option maxHeartbeats 4000000
namespace K00
open PySem L2
theorem asg_of' {te : TE} {i : Nat} {u : TS} {D : Ends} {σ : L2.St} {H : Hp} (h : te σ H fun v H1 => u D (σ.set i (some v)) H1) : tSeq (tAsg te (gName i)) u D σ H := h
abbrev mkBent : Str := "0123456789-+/. _eE,\n"
section
variable {P : Program} {w : World} {K : PySem.W.Frag} {mg : Str → Option Value} {base : Heap}
abbrev s_bent : Stmt := top 30
theorem sc_bent : FnScope ["_law_store_here", "_law_text", "_law_at", "_law_marks", "_law_mark", "_law_ways"] ["_law_store_here", "_law_text"] (defScope s_bent) := ⟨rfl, rfl, rfl, by decide +kernel, rfl, by decide +kernel, by decide +kernel⟩
theorem ok_bent {f : Addr} {fd : FuncData} (F : Fun K "_law_bent" "_law_bent" s_bent f fd) (T : TxtW K mg) (c_take : Callee P w K mg base CX0 126 "_law_take" psT (spTake 125)) : FnOk P w K mg base CX0 127 f fd ["_law_store_here", "_law_text"] spBent := by
  refine F.ok sc_bent (fun vs H Q E h => ?_) (fun cdv A outer s H vs Q E hr h => ?_)
  · obtain ⟨_, _, rfl, _⟩ := h
    rfl
  · obtain ⟨st, z, rfl, hS, zl, k⟩ := h
    have zs : z.length ≤ sizeLine := by rw [sizeLine_eq]; omega
    refine ⟨_, (pss_cons (ps_set (i := 2) sc_bent.nd rfl (Or.inl rfl) (pe_fn c_take (hr.mono (by decide)) (by rfl) pass0 (pa_cons (pv 0) (pa_cons (pe_op op_add (pe_callB call_len_str (by rfl) T.len PySem.boot_len (pa_cons (pv 1) pa_nil)) pe_int) pa_nil))))
  (pss_cons (ps_set (i := 3) sc_bent.nd rfl (Or.inl rfl) pe_str)
  (pss_cons (ps_set (i := 4) sc_bent.nd rfl (Or.inl rfl) (pe_ix ix_str (pv 3) (pe_fn c_take (hr.mono (by decide)) (by rfl) pass0 (pa_cons (pv 0) (pa_cons (pe_callB call_len_str (by rfl) T.len PySem.boot_len (pa_cons (pv 3) pa_nil)) pa_nil))) (fun _ _ => rfl)))
  (pss_cons (ps_set (i := 5) sc_bent.nd rfl (Or.inl rfl) (pe_lst (pa_cons (pe_op op_add_str (pe_op op_add_str (pe_slice sl_str (pv 1) po_none (po_some (pv 2))) (pv 4)) (pe_slice sl_str (pv 1) (po_some (pv 2)) po_none)) (pa_cons (pe_op op_add_str (pe_slice sl_str (pv 1) po_none (po_some (pv 2))) (pe_slice sl_str (pv 1) (po_some (pe_op op_add (pv 2) pe_int)) po_none)) (pa_cons (pe_op op_add_str (pe_op op_add_str (pe_slice sl_str (pv 1) po_none (po_some (pv 2))) (pv 4)) (pe_slice sl_str (pv 1) (po_some (pe_op op_add (pv 2) pe_int)) po_none)) (pa_cons (pe_op op_add_str (pv 1) (pv 4)) pa_nil))))))
  (pss_cons (ps_set (i := 5) sc_bent.nd rfl (Or.inl rfl) (pe_op op_cat (pv 5) (pe_lst (pa_cons (pe_op op_add_str (pv 4) (pv 1)) (pa_cons (pe_op op_add_str pe_str (pv 1)) (pa_cons (pe_op op_add_str (pv 1) pe_str) (pa_cons (pe_op op_add_str (pe_op op_add_str (pv 1) pe_str) (pv 1)) (pa_cons (pe_op op_add_str pe_str (pv 1)) (pa_cons (pe_op op_add_str (pv 1) pe_str) (pa_cons (pe_op op_add_str pe_str (pv 1)) (pa_cons pe_str pa_nil)))))))))))
  (pss_cons (ps_set (i := 5) sc_bent.nd rfl (Or.inl rfl) (pe_op op_cat (pv 5) (pe_lst (pa_cons (pe_op op_add_str (pv 1) pe_str) (pa_cons (pe_slice sl_str (pv 1) po_none (po_some (pv 2))) (pa_cons (pe_slice sl_str (pv 1) (po_some (pv 2)) po_none) (pa_cons pe_str (pa_cons pe_str (pa_cons pe_str (pa_cons pe_str (pa_cons pe_str (pa_cons pe_str (pa_cons pe_str (pa_cons pe_str (pa_cons pe_str (pa_cons pe_str pa_nil))))))))))))))))
  (pss_one (ps_ret (pe_ix ix_list (pv 5) (pe_fn c_take (hr.mono (by decide)) (by rfl) pass0 (pa_cons (pv 0) (pa_cons (pe_callB call_len_seq (by rfl) T.len PySem.boot_len (pa_cons (pv 5) pa_nil)) pa_nil))) (fun _ _ => rfl)))))))))), ?_⟩
    refine ⟨_, rfl, _, rfl, z, rfl, zs, _, _, rfl, rfl, st, _, rfl, hS, lim124s (by omega), fun at_ H1 ra x1 => ?_⟩
    refine ⟨_, rfl, _, rfl, _, rfl, mkBent, rfl, by decide +kernel, st, _, rfl, x1.at_, lim124s (by decide +kernel), fun m H2 rm x2 => ?_⟩
    have m0 := rm.1
    obtain ⟨j, rfl⟩ : ∃ j : Nat, m = (j : Int) := ⟨m.toNat, by omega⟩
    have hj : j < (mkBent : Str).cps.toList.length := by
      have : (mkBent : Str).cps.toList.length = 20 := by decide +kernel
      have e : (mkBent : Str).length = 20 := by decide +kernel
      have := rm.2
      rw [e] at this
      omega
    refine ⟨mkBent, _, _, rfl, rfl, by decide +kernel, atI_nat (j := j) (List.getElem?_eq_getElem hj), ?_⟩
    generalize (mkBent : Str).cps.toList[j] = c
    have cl : (⟨#[c]⟩ : Str).length ≤ 1 := Nat.le_refl _
    generalize (⟨#[c]⟩ : Str) = mk at cl ⊢
    have x12 := x1.trans x2
    try dsimp only [gName]
    refine asg_of' ?_
    refine GsA.lst (B := 2 * z.length + 4) (n := 4) (GsA.cons (A := z.length + 1 + z.length) ?_ (by omega) (GsA.cons (A := z.length + z.length) ?_ (by omega) (GsA.cons (A := z.length + 1 + z.length) ?_ (by omega) (GsA.cons (A := z.length + 1) ?_ (by omega) GsA.nil)))) (by decide) (fun ys1 L1 e1 b1 n1 => ?_)
    · exact Gs.cat (Gs.cat (Gs.hi rfl rfl zs) (Gs.var rfl cl) (by omega)) (Gs.lo rfl rfl zs) (by omega)
    · exact Gs.cat (Gs.hi rfl rfl zs) (Gs.lo1 rfl rfl zs) (by omega)
    · exact Gs.cat (Gs.cat (Gs.hi rfl rfl zs) (Gs.var rfl cl) (by omega)) (Gs.lo1 rfl rfl zs) (by omega)
    · exact Gs.cat (Gs.var rfl (Nat.le_refl _)) (Gs.var rfl cl) (by omega)
    have x3 := x12.trans (Ext.new (o := .lst (ys1.map V.str)) x12.at_ n1)
    have h3 : upd H2 L1 (.lst (ys1.map V.str)) L1 = some (.lst (ys1.map V.str)) := upd_same
    generalize upd H2 L1 (.lst (ys1.map V.str)) = H3 at x3 h3 ⊢
    try dsimp only [gName]
    refine asg_of' ?_
    refine ⟨_, rfl, ?_⟩
    refine GsA.lst (B := 2 * z.length + 4) (n := 8) (GsA.cons (A := 1 + z.length) ?_ (by omega) (GsA.cons (A := 1 + z.length) ?_ (by omega) (GsA.cons (A := z.length + 2) ?_ (by omega) (GsA.cons (A := z.length + 1 + z.length) ?_ (by omega)
      (GsA.cons (A := 1 + z.length) ?_ (by omega) (GsA.cons (A := z.length + 1) ?_ (by omega) (GsA.cons (A := 1 + z.length) ?_ (by omega) (GsA.cons (A := 0) (Gs.str (by decide +kernel)) (by omega) GsA.nil)))))))) (by decide) (fun ys2 L2 e2 b2 n2 => ?_)
    · exact Gs.cat (Gs.var rfl cl) (Gs.var rfl (Nat.le_refl _)) (by omega)
    · exact Gs.cat (Gs.str (by decide +kernel)) (Gs.var rfl (Nat.le_refl _)) (by omega)
    · exact Gs.cat (Gs.var rfl (Nat.le_refl _)) (Gs.str (by decide +kernel)) (by omega)
    · exact Gs.cat (Gs.cat (Gs.var rfl (Nat.le_refl _)) (Gs.str (by decide +kernel)) (by omega)) (Gs.var rfl (Nat.le_refl _)) (by omega)
    · exact Gs.cat (Gs.str (by decide +kernel)) (Gs.var rfl (Nat.le_refl _)) (by omega)
    · exact Gs.cat (Gs.var rfl (Nat.le_refl _)) (Gs.str (by decide +kernel)) (by omega)
    · exact Gs.cat (Gs.str (by decide +kernel)) (Gs.var rfl (Nat.le_refl _)) (by omega)
    refine ⟨L1, L2, _, _, rfl, rfl, Same.new n2 _ _ h3, upd_same, by rw [List.length_map, List.length_map, e1, e2]; decide, fun M1 m1 => ?_⟩
    have x4 := x3.trans (Ext.new (o := .lst (ys2.map V.str)) x3.at_ n2)
    have x5 := x4.trans (Ext.new (o := .lst (ys1.map V.str ++ ys2.map V.str)) x4.at_ m1)
    have h5 : upd (upd H3 L2 (.lst (ys2.map V.str))) M1 (.lst (ys1.map V.str ++ ys2.map V.str)) M1 = some (.lst (ys1.map V.str ++ ys2.map V.str)) := upd_same
    generalize upd (upd H3 L2 (.lst (ys2.map V.str))) M1 (.lst (ys1.map V.str ++ ys2.map V.str)) = H5 at x5 h5 ⊢
    try dsimp only [gName]
    refine asg_of' ?_
    refine ⟨_, rfl, ?_⟩
    refine GsA.lst (B := 2 * z.length + 4) (n := 13) (GsA.cons (A := z.length + 1) ?_ (by omega) (GsA.cons (A := z.length) ?_ (by omega) (GsA.cons (A := z.length) ?_ (by omega)
      (GsA.cons (A := 4) (Gs.str (by decide +kernel)) (by omega) (GsA.cons (A := 4) (Gs.str (by decide +kernel)) (by omega) (GsA.cons (A := 4) (Gs.str (by decide +kernel)) (by omega) (GsA.cons (A := 4) (Gs.str (by decide +kernel)) (by omega) (GsA.cons (A := 4) (Gs.str (by decide +kernel)) (by omega)
      (GsA.cons (A := 4) (Gs.str (by decide +kernel)) (by omega) (GsA.cons (A := 4) (Gs.str (by decide +kernel)) (by omega) (GsA.cons (A := 4) (Gs.str (by decide +kernel)) (by omega) (GsA.cons (A := 4) (Gs.str (by decide +kernel)) (by omega) (GsA.cons (A := 4) (Gs.str (by decide +kernel)) (by omega) GsA.nil))))))))))))) (by decide) (fun ys3 L3 e3 b3 n3 => ?_)
    · exact Gs.cat (Gs.var rfl (Nat.le_refl _)) (Gs.str (by decide +kernel)) (by omega)
    · exact Gs.hi rfl rfl zs
    · exact Gs.lo rfl rfl zs
    refine ⟨M1, L3, _, _, rfl, rfl, Same.new n3 _ _ h5, upd_same, by rw [List.length_append, List.length_map, List.length_map, List.length_map, e1, e2, e3]; decide, fun M2 m2 => ?_⟩
    have x6 := x5.trans (Ext.new (o := .lst (ys3.map V.str)) x5.at_ n3)
    have nM := St.ne x6.at_ m2
    have x7 := x6.trans (Ext.new (o := .lst (ys1.map V.str ++ ys2.map V.str ++ ys3.map V.str)) x6.at_ m2)
    have h7 : upd (upd H5 L3 (.lst (ys3.map V.str))) M2 (.lst (ys1.map V.str ++ ys2.map V.str ++ ys3.map V.str)) M2 = some (.lst (ys1.map V.str ++ ys2.map V.str ++ ys3.map V.str)) := upd_same
    generalize upd (upd H5 L3 (.lst (ys3.map V.str))) M2 (.lst (ys1.map V.str ++ ys2.map V.str ++ ys3.map V.str)) = H7 at x7 h7 ⊢
    have ey : ys1.map V.str ++ ys2.map V.str ++ ys3.map V.str = (ys1 ++ ys2 ++ ys3).map V.str := by rw [List.map_append, List.map_append]
    rw [ey] at h7
    have el : (ys1 ++ ys2 ++ ys3).length = 25 := by rw [List.length_append, List.length_append, e1, e2, e3]
    have eb : ∀ y ∈ ys1 ++ ys2 ++ ys3, y.length ≤ 2 * z.length + 4 := fun y hy => by
      rcases List.mem_append.mp hy with q | q
      · rcases List.mem_append.mp q with q | q
        · exact b1 y q
        · exact b2 y q
      · exact b3 y q
    generalize ys1 ++ ys2 ++ ys3 = ys at h7 el eb
    refine ⟨_, rfl, _, rfl, _, rfl, M2, _, rfl, .inl (SqL.of h7), st, _, rfl, x7.at_, lim124s (by rw [List.length_map, el]; decide), fun r H9 r9 x9 => ?_⟩
    have h9 := x9.old _ _ nM h7
    have r0 := r9.1
    obtain ⟨i, rfl⟩ : ∃ i : Nat, r = (i : Int) := ⟨r.toNat, by omega⟩
    have hi : i < ys.length := by
      have := r9.2
      rw [List.length_map, el] at this
      omega
    exact ⟨M2, _, _, _, rfl, rfl, SqL.of h9, atI_nat (j := i) (by rw [List.getElem?_map, List.getElem?_eq_getElem hi]; rfl), k _ H9 (x7.trans x9) (eb _ (List.getElem_mem hi))⟩
end
end K00

set_option Elab.async false
set_option linter.all false
set_option maxRecDepth 100000
set_option maxHeartbeats 4000000
namespace K00
open PySem L2
section
open PyProof.Rows
/-! ### the handled exception is asked: its class, its fields -/
/-- an own exception of class C, its dict at dd -/
structure Its (p : Addr × Obj) (C dd : Addr) : Prop where
  cls : p.2.cls = .ref C
  dict : p.2.dict = some dd
  dat : ∃ vs, p.2.data = .fields vs
theorem Its.inst {X : Cx} {pins : List (Addr × Obj)} {σ : L2.St} {H : Hp} {s : Shared} {p : Addr × Obj} {C dd : Addr} {fs : List (Str × V)} (t : Its p C dd) (hp : p ∈ X.pn) (I : L2.Inv X pins σ H s) (hd : H dd = some (.xd fs)) :
    ∃ (mA : Str → Option Value) (od : Obj), PySem.W.InstAt s.heap p.1 p.2 C (some od) ∧ (∀ f, RelO (fs.lookup f) (mA f)) ∧ ∀ f, PySem.W.lookIn f od = some (mA f) := by
  obtain ⟨ha, _⟩ := I.pin p (List.mem_append_left _ hp)
  obtain ⟨vs, hdat⟩ := t.dat
  have hx : ObjOk X.prog X.w H s.heap dd (.xd fs) := I.hok dd _ hd
  obtain ⟨mA, hns, hr⟩ := hx
  obtain ⟨od, ho, hl⟩ := lookIn_ns hns
  exact ⟨mA, od, ⟨ha, t.cls, by unfold PySem.W.notCls; rw [hdat] <;> rfl, by rw [t.dict]; exact ho⟩, hr, hl⟩
def rIsP (K : PySem.W.Frag) (p : Addr × Obj) (C dd : Addr) : List V → Hp → VK → Prop := fun xs H Q => ∃ (c : V) (cv : Value) (b : Bool) (fs : List (Str × V)), xs = [.ref p.1, c] ∧ (∀ u, RelV c u → u = cv) ∧ PySem.W.kitOne K (.ref C) cv = some b ∧ H dd = some (.xd fs) ∧ Q (.bl b) H
theorem cr_isP {X : Cx} {p : Addr × Obj} {C dd : Addr} (hp : p ∈ X.pn) (t : Its p C dd) (T : L2.ExcC X.K C) : CallR X (.builtin "isinstance") (rIsP X.K p C dd) := by
  intro pins s σ H xs us Q I r h
  obtain ⟨c, cv, b, fs, rfl, hcv, e, hd, q⟩ := h
  cases r with
  | cons rx rr =>
    cases rr with
    | cons rt rr =>
      cases rr
      cases rx
      cases hcv _ rt
      obtain ⟨mA, od, J, _, _⟩ := t.inst hp I hd
      have hcl : (PySem.W.clsIn X.K C).isSome = true := by
        obtain ⟨cd, hc, _⟩ := PySem.W.any_some T.hd
        rw [hc]
        rfl
      refine PySem.W.kia_one (PySem.W.kitx_exc hcl T.hg T.hk T.hs T.ha T.hn T.ht T.hm) I.kIn J e (fun z => nomatch z) fun tk => ?_
      exact ⟨.bl b, H, I.tok _, rfl, q⟩
/-- e.f of the handled exception -/
theorem pe_xfP {X : Cx} {p : Addr × Obj} {C dd : Addr} {e : Expr} {te : TE} {pos : Pos} {n : Str} (hp : p ∈ X.pn) (t : Its p C dd) (T : XfC X.K C) (hno : PySem.W.findIn X.K (.ref C) n = some none) (he : PE X e te)
    (hb : attributeBase e n X.env (eval e X.env) = eval e X.env := by rfl) :
    PE X (.Attribute e n pos) (fun σ H Q => te σ H fun x H1 => x = .ref p.1 ∧ ∃ (fs : List (Str × V)) (v : V), H1 dd = some (.xd fs) ∧ fs.lookup n = some v ∧ Q v H1) := by
  refine ⟨fun pins s σ H Q I h => attr_of hb (thn (he.run pins s σ H _ I h) fun u s1 ⟨x, H1, I1, rx, ex, fs, v, hd, l, q⟩ => ?_)⟩
  subst ex
  cases rx
  obtain ⟨mA, od, J, hr, hl⟩ := t.inst hp I1 hd
  have hr := hr n
  rw [l] at hr
  obtain ⟨u, hu, ru⟩ := RelO.some_of (v := v) (o := mA n) hr
  refine HandSPX.exc_get I1.kIn J T.ga T.gg T.exC (PySem.W.findObj_own T.hdC hno rfl (by rw [hl, hu])) (handed_of ru) ?_
  exact ⟨v, H1, I1.tok _, ru, q⟩
end
/-- x names a class of the module, C's instances are its (b) -/
def Kd (K : PySem.W.Frag) (mg : Str → Option Value) (C : Addr) (x : Str) (b : Bool) : Prop := ∃ D : Addr, mg x = some (.ref D) ∧ PySem.W.kitOne K (.ref C) (.ref D) = some b
section
open PyProof.Rows
theorem pe_isP {X : Cx} {p : Addr × Obj} {C dd : Addr} {j : Nat} {e : Expr} {x : Str} {b : Bool} {p1 p2 pos : Pos} (hp : p ∈ X.pn) (t : Its p C dd) (T : L2.ExcC X.K C) (hg : Gl X "isinstance") (hm : X.mg "isinstance" = none) (he : PE X e (tVar j)) (hgx : Gl X x) (hk : Kd X.K X.mg C x b)
    (hd : (x == ("__debug__" : Str)) = false := by decide) (hst : starEach [e, .Name x p2] X.env = (false, eval e X.env) :: starEach [.Name x p2] X.env := by rfl) (hpl : (backTo pos (starEach [.Name x p2] X.env)).any (·.1) = false := by rfl) (hs2 : starEach [Expr.Name x p2] X.env = (false, eval (.Name x p2) X.env) :: starEach [] X.env := by rfl) :
    PE X (.Call (.Name "isinstance" p1) [e, .Name x p2] [] pos) (fun σ H Q => σ[j]? = some (some (.ref p.1)) ∧ (∃ fs, H dd = some (.xd fs)) ∧ Q (.bl b) H) := by
  obtain ⟨D, hD, hb⟩ := hk
  have q := pe_callB (p := p1) (pos := pos) (cr_isP hp t T) hg hm (by decide +kernel) (pa_cons (hs := hst) he (pa_cons (hs := hs2) (pe_glob (v := .ref D) (pos := p2) hgx hD rfl hd) pa_nil)) (he := hst) (hpl := hpl)
  exact ⟨fun pins s σ H Q I ⟨h1, ⟨fs, h2⟩, h3⟩ => q.run pins s σ H Q I ⟨_, h1, .ref D, .ref D, b, fs, rfl, fun u hu => hu, hb, h2, h3⟩⟩
theorem pe_isPT {X : Cx} {p : Addr × Obj} {C dd : Addr} {j : Nat} {e : Expr} {b : Bool} {p1 p2 pos : Pos} {T1 : String} {x : Str} (hp : p ∈ X.pn) (t : Its p C dd) (T : L2.ExcC X.K C) (hg : Gl X "isinstance") (hm : X.mg "isinstance" = none) (he : PE X e (tVar j)) (hgx : Gl X x) (hx : X.mg x = none)
    (hv : bootBuiltins x = some (.type T1)) (hk : PySem.W.kitOne X.K (.ref C) (.type T1) = some b) (hn : x ≠ "__name__" := by decide)
    (hd : (x == ("__debug__" : Str)) = false := by decide) (hst : starEach [e, .Name x p2] X.env = (false, eval e X.env) :: starEach [.Name x p2] X.env := by rfl) (hpl : (backTo pos (starEach [.Name x p2] X.env)).any (·.1) = false := by rfl) (hs2 : starEach [Expr.Name x p2] X.env = (false, eval (.Name x p2) X.env) :: starEach [] X.env := by rfl) :
    PE X (.Call (.Name "isinstance" p1) [e, .Name x p2] [] pos) (fun σ H Q => σ[j]? = some (some (.ref p.1)) ∧ (∃ fs, H dd = some (.xd fs)) ∧ Q (.bl b) H) := by
  have q := pe_callB (p := p1) (pos := pos) (cr_isP hp t T) hg hm (by decide +kernel) (pa_cons (hs := hst) he (pa_cons (hs := hs2) (pe_bltn (v := .ty T1) (pos := p2) hgx hx hv rfl hn hd) pa_nil)) (he := hst) (hpl := hpl)
  exact ⟨fun pins s σ H Q I ⟨h1, ⟨fs, h2⟩, h3⟩ => q.run pins s σ H Q I ⟨_, h1, .ty T1, .type T1, b, fs, rfl, fun u hu => hu, hk, h2, h3⟩⟩
end
/-- a def that may raise, some of its parameters left to their defaults -/
structure CalleeR (P : Program) (w : World) (K : PySem.W.Frag) (mg : Str → Option Value) (base : Heap) (k : Nat) (x : Str) (ps : List Str) (dvs : List V) (sp : Sp) : Prop where
  go : ∃ (f : Addr) (fd : FuncData) (ds : List Value), FnOk P w K mg base (L2N.CX P w) k f fd ps sp ∧ mg x = some (.ref f) ∧ PySem.W.keepIn K (.ref f) = true ∧ Vals dvs ds ∧ Binds K fd ps ds
section
open PyProof.Rows
theorem pe_fnS {X : Cx} {k : Nat} {x : Str} {ps : List Str} {dvs : List V} {sp : Sp} {W : WX} {e : Expr} {es : List Expr} {t : TA} {p pos : Pos} (C : CalleeR X.prog X.w X.K X.mg X.base k x ps dvs sp) (hr : Room k X.A) (hg : Gl X x) (tk : L2N.Takes X W)
    (hb : PA X (e :: es) t) (hd : (x == ("__debug__" : Str)) = false := by decide) (hst : starEach (e :: es) X.env = (false, eval e X.env) :: starEach es X.env := by rfl) (hpl : (backTo pos (starEach es X.env)).any (·.1) = false := by rfl) :
    PE X (.Call (.Name x p) (e :: es) [] pos) (tCallSD sp dvs (WE W) t) := by
  obtain ⟨f, fd, ds, F, hm, hk, hv, hbd⟩ := C.go
  exact pe_callSD F hr hg hm hk hbd hv (fun σ => L2N.passAt tk σ) hb hd hst hpl
theorem tk0 {X : Cx} : L2N.Takes X (fun _ _ _ _ => False) := fun _ _ x => by
  obtain ⟨_, _, _, _, _, _, _, _, _, _, _, _, _, _, _, _, z⟩ := x
  exact z.elim
end
theorem Room.u65 {k : Nat} {A : Around} (r : L2.Room k A) : A.units + 65 < cLine := by
  have := r.un
  omega
/-! ### what a written value gives: new objects alone are laid -/
section
variable {K : PySem.W.Frag} {st : Addr} {σ : L2.St} {H : Hp}
/-- the expression gives a value that is d -/
def Gv (K : PySem.W.Frag) (st : Addr) (σ : L2.St) (H : Hp) (t : TE) (d : D) : Prop := ∀ H1, Same H H1 → ∀ Q : VK, (∀ v H2, Same H1 H2 → Val K st H2 v d → Q v H2) → t σ H1 Q
def GvA (K : PySem.W.Frag) (st : Addr) (σ : L2.St) (H : Hp) (t : TA) (ds : List D) : Prop := ∀ H1, Same H H1 → ∀ Q : List V → Hp → Prop, (∀ vs H2, Same H1 H2 → ValAll K st H2 vs ds → Q vs H2) → t σ H1 Q
/-- .. a list that may be written -/
def GvL (K : PySem.W.Frag) (st : Addr) (σ : L2.St) (H : Hp) (t : TE) (ds : List D) : Prop := ∀ H1, Same H H1 → ∀ Q : VK, (∀ p vs H2, Same H1 H2 → p ≠ st → H2 p = some (.lst vs) → ValAll K st H2 vs ds → Q (.ref p) H2) → t σ H1 Q
theorem Gv.pure {t : TE} {v : V} {d : D} (hv : ∀ H', Val K st H' v d) (h : ∀ H1 Q, Q v H1 → t σ H1 Q) : Gv K st σ H t d := fun H1 _ Q k => h H1 Q (k v H1 (Same.refl _) (hv H1))
theorem Gv.int {i : Int} : Gv K st σ H (tC (.int i)) (.int i) := .pure (fun _ => .int i) fun _ _ q => q
theorem Gv.bl {b : Bool} : Gv K st σ H (tC (.bl b)) (.bl b) := .pure (fun _ => .bl b) fun _ _ q => q
theorem Gv.str {z : Str} : Gv K st σ H (tC (.str z)) (.str z) := .pure (fun _ => .str z) fun _ _ q => q
theorem Gv.non : Gv K st σ H (tC .non) .non := .pure (fun _ => .non) fun _ _ q => q
theorem Gv.neg {i : Int} : Gv K st σ H (tUn (rU fun i => .int (-i)) (tC (.int i))) (.int (-i)) := .pure (fun _ => .int (-i)) fun _ _ q => ⟨_, rfl, q⟩
theorem Gv.var {i : Nat} {v : V} {d : D} (h : σ[i]? = some (some v)) (hv : ∀ H', Val K st H' v d) : Gv K st σ H (tVar i) d := .pure hv fun _ _ q => ⟨_, h, q⟩
theorem Gv.varH {i : Nat} {v : V} {d : D} (h : σ[i]? = some (some v)) (hv : Val K st H v d) : Gv K st σ H (tVar i) d := fun H1 s1 Q k => ⟨_, h, k v H1 (Same.refl _) (hv.same s1)⟩
theorem GvA.nil : GvA K st σ H tNil [] := fun H1 _ Q k => k [] H1 (Same.refl _) .nil
theorem GvA.cons {te : TE} {t : TA} {d : D} {ds : List D} (h : Gv K st σ H te d) (r : GvA K st σ H t ds) : GvA K st σ H (tCons te t) (d :: ds) := fun H1 s1 Q k =>
  h H1 s1 _ fun v H2 s2 hv => r H2 (s1.trans s2) _ fun vs H3 s3 hvs => k (v :: vs) H3 (s2.trans s3) (.cons (hv.same s3) hvs)
theorem Gv.tup {t : TA} {ds : List D} (h : GvA K st σ H t ds) (hl : ds.length ≤ 1000) : Gv K st σ H (tTup t) (.tup ds) := fun H1 s1 Q k =>
  h H1 s1 _ fun vs H2 s2 hvs => ⟨by rw [hvs.length, sizeLine_eq]; omega, fun p hp => k _ _ (s2.trans (Same.new hp)) (.tup (SqT.of upd_same) (hvs.same (Same.new hp)))⟩
theorem GvL.lst {t : TA} {ds : List D} (hs : StAt H st) (h : GvA K st σ H t ds) (hl : ds.length ≤ 1000) : GvL K st σ H (tLst t) ds := fun H1 s1 Q k =>
  h H1 s1 _ fun vs H2 s2 hvs => ⟨by rw [hvs.length, sizeLine_eq]; omega, fun p hp => k p vs _ (s2.trans (Same.new hp)) (fun e => by
    obtain ⟨_, _, _, _, _, _, _, q, _⟩ := hs
    rw [e, (s1.trans s2) _ _ q] at hp
    cases hp) upd_same (hvs.same (Same.new hp))⟩
theorem GvL.gv {t : TE} {ds : List D} (h : GvL K st σ H t ds) : Gv K st σ H t (.lst ds) := fun H1 s1 Q k =>
  h H1 s1 Q fun p vs H2 s2 n hp hvs => k _ _ s2 (.lst n (SqL.of hp) hvs)
theorem Gv.lst {t : TA} {ds : List D} (hs : StAt H st) (h : GvA K st σ H t ds) (hl : ds.length ≤ 1000) : Gv K st σ H (tLst t) (.lst ds) := (GvL.lst hs h hl).gv
theorem Gv.dct (hs : StAt H st) : Gv K st σ H tDNewK .dct := fun H1 s1 Q k d hd => k _ _ (Same.new hd) (.dct (fun e => by
    obtain ⟨_, _, _, _, _, _, _, q, _⟩ := hs
    rw [e, s1 _ _ q] at hd
    cases hd) upd_same)
theorem GvL.var {i : Nat} {p : Addr} {vs : List V} {ds : List D} (h : σ[i]? = some (some (.ref p))) (n : p ≠ st) (hp : H p = some (.lst vs)) (hv : ValAll K st H vs ds) : GvL K st σ H (tVar i) ds := fun H1 s1 Q k =>
  ⟨_, h, k p vs H1 (Same.refl _) n (s1 _ _ hp) (hv.same s1)⟩
theorem ValAll.append : ∀ {xs ys : List V} {ds es : List D}, ValAll K st H xs ds → ValAll K st H ys es → ValAll K st H (xs ++ ys) (ds ++ es)
  | _, _, _, _, .nil, s => s
  | _, _, _, _, .cons h r, s => .cons h (r.append s)
theorem GvL.cat {ta tb : TE} {ds es : List D} (hs : StAt H st) (ha : GvL K st σ H ta ds) (hb : GvL K st σ H tb es) (hl : ds.length + es.length ≤ 1000) : GvL K st σ H (tOp rCat ta tb) (ds ++ es) := fun H1 s1 Q k =>
  ha H1 s1 _ fun p vs H2 s2 n hp hv => hb H2 (s1.trans s2) _ fun q ws H3 s3 m hq hw => ⟨p, q, vs, ws, rfl, rfl, s3 _ _ hp, hq, by rw [hv.length, hw.length, sizeLine_eq]; omega, fun r hr =>
    k r _ _ ((s2.trans s3).trans (Same.new hr)) (fun e => by
      obtain ⟨_, _, _, _, _, _, _, y, _⟩ := hs
      rw [e, ((s1.trans s2).trans s3) _ _ y] at hr
      cases hr) upd_same ((((hv.same s3)).append hw).same (Same.new hr))⟩
end
theorem asg_of {te : TE} {i : Nat} {u : TS} {D : Ends} {σ : L2.St} {H : Hp} (h : te σ H fun x H1 => u D (σ.set i (some x)) H1) : tSeq (tAsg te (gName i)) u D σ H := h
end K00

set_option Elab.async false
set_option linter.all false
set_option maxRecDepth 100000
set_option maxHeartbeats 4000000
namespace K00
open PySem L2
/-! ### what the program tells, its errors among it -/
structure AskW (K : PySem.W.Frag) (mg : Str → Option Value) (C : Addr) : Prop where
  WrongKind : Kd K mg C "WrongKind" true
  OutOfBounds : Kd K mg C "OutOfBounds" false
  RepeatedName : Kd K mg C "RepeatedName" false
  UnknownName : Kd K mg C "UnknownName" false
  BadText : Kd K mg C "BadText" false
  UnfitError : Kd K mg C "UnfitError" false
  ValueError : PySem.W.kitOne K (.ref C) (.type "ValueError") = some true
  hVE : mg "ValueError" = none
def tsW (K : PySem.W.Frag) (CW : Addr) : Addr → Value → Option Addr → TS := fun a cls d D σ H => cls = .ref CW ∧ ∃ (dd : Addr) (z : Str), d = some dd ∧ H dd = some (.xd [("argument", .str z)]) ∧ (∃ w v, σ = [w, v, some (.ref a), none]) ∧
  ∀ (t : Addr) (H' : Hp), Same H H' → H' t = some (.tup [.str "WrongKind", .str z]) → D.rt (.ref t) H'
def wrD : D → D
  | .tup [.int n, .int m] => .str (wrS n m)
  | _ => .non
def rdD : Option (Int × Int) → D
  | none => .non
  | some (n, m) => .tup [.int n, .int m]
def toldD (way : Int) (d : D) : D := if way = 0 then (if isRatioD d = true then .tup [.str "told", wrD d] else .tup [.str "WrongKind", .str "one"])
  else match d with
    | .str z => .tup [.str "told", rdD (rd (TL.tl z))]
    | _ => .tup [.str "WrongKind", .str "word"]
theorem told_odd {way : Int} {d : D} (h : way ≠ 0) (n : ∀ z, d ≠ .str z) : toldD way d = .tup [.str "WrongKind", .str "word"] := by
  unfold toldD
  rw [if_neg h]
  cases d with
  | str z => exact absurd rfl (n z)
  | _ => rfl
def okT (way : Int) (d : D) : Prop := (way = 0 → Bt d) ∧ (way ≠ 0 → ∀ z, d = .str z → z.length ≤ 19000)
def spTold2 (K : PySem.W.Frag) : Sp := fun vs H Q _ => ∃ (st : Addr) (way : Int) (v : V) (d : D), vs = [.int way, v] ∧ Val K st H v d ∧ okT way d ∧ ∀ (x : V) (H' : Hp), Same H H' → Val K st H' x (toldD way d) → Q x H'
section
variable {P : Program} {w : World} {K : PySem.W.Frag} {mg : Str → Option Value} {base : Heap} {CW CF : Addr}
abbrev s_told : Stmt := top 33
theorem sc_told : FnScope ["_law_way", "_law_thing", "e", "_law_flags"] ["_law_way", "_law_thing"] (defScope s_told) := ⟨rfl, rfl, rfl, by decide +kernel, rfl, by decide +kernel, by decide +kernel⟩
theorem ok_told2 {f : Addr} {fd : FuncData} (F : Fun K "_law_told" "_law_told" s_told f fd) (T : TxtW K mg) (gF : mg "FrameError" = some (.ref CF)) (tW : PySem.W.exmOne K (.ref CW) (.ref CF) = some true) (A : AskW K mg CW) (TC : L2.ExcC K CW) (XC : XfC K CW) (hno : PySem.W.findIn K (.ref CW) "argument" = some none)
    (c_p_write_ratio : CalleeR P w K mg base 6 "write_ratio" ["one"] [] (spWrite K CW)) (c_p_read_ratio : CalleeR P w K mg base 5 "read_ratio" ["word"] [] (spRead K CW)) : FnOk P w K mg base CX0 8 f fd ["_law_way", "_law_thing"] (spTold2 K) := by
  refine F.ok sc_told (fun vs H Q E h => ?_) (fun cdv A' outer s H vs Q E hr h => ?_)
  · obtain ⟨_, _, _, _, rfl, _⟩ := h
    rfl
  · obtain ⟨st, way, v, d, rfl, hv, ⟨o1, o2⟩, k⟩ := h
    have hu := Room.u65 hr
    refine ⟨_, (pss_one (L2N.ps_try_as (i := 2) (c := .ref CF) (ts := tsW K CW) (Wout := fun _ _ _ _ => False) rfl rfl sc_told.nd rfl rfl ⟨rfl, by decide, .inl gF⟩ tk0 (fun W pn xe tk _ => (pss_cons (ps_if (pt_cmpR op_eq (pv 0) pe_int (nomark _)) (pss_one (ps_ret (pe_tup (pa_cons pe_str (pa_cons (pe_fnS c_p_write_ratio (hr.mono (by decide)) (by rfl) tk (pa_cons (pv 1) pa_nil)) pa_nil))))) pss_nil)
  (pss_one (ps_ret (pe_tup (pa_cons pe_str (pa_cons (pe_fnS c_p_read_ratio (hr.mono (by decide)) (by rfl) tk (pa_cons (pv 1) pa_nil)) pa_nil))))))) (fun a oe cls d pn hz hf => ⟨fun pins s σ H D I h => by
      obtain ⟨rfl, dd, z, rfl, hd, hσ, hk⟩ := h
      have t : Its (a, oe) CW dd := ⟨hz.1, hz.2.1, hf⟩
      have hp := List.Mem.head (a := (a, oe)) pn
      refine PSs.run (pss_cons (ps_set (i := 3) sc_told.nd rfl (Or.inl rfl) (pe_lst (pa_cons (pe_isP hp t TC (by rfl) T.isinstance (pv 2) (by rfl) A.OutOfBounds) (pa_cons (pe_isP hp t TC (by rfl) T.isinstance (pv 2) (by rfl) A.RepeatedName) (pa_cons (pe_isP hp t TC (by rfl) T.isinstance (pv 2) (by rfl) A.UnknownName) pa_nil)))))
  (pss_cons (ps_set (i := 3) sc_told.nd rfl (Or.inl rfl) (pe_op op_cat (pv 3) (pe_lst (pa_cons (pe_isP hp t TC (by rfl) T.isinstance (pv 2) (by rfl) A.UnfitError) (pa_cons (pe_isP hp t TC (by rfl) T.isinstance (pv 2) (by rfl) A.BadText) pa_nil)))))
  (pss_cons (ps_if (PW.pt (pw_or (pt_not (pt_val (pe_isP hp t TC (by rfl) T.isinstance (pv 2) (by rfl) A.WrongKind))) (pw_or (pt_not (pt_val (pe_isPT hp t TC (by rfl) T.isinstance (pv 2) (by rfl) A.hVE (by decide +kernel) A.ValueError))) (pw_or1 (pt_cmpR (op_inD hu) pe_bl (pv 3) (by rfl)))))) (pss_one ps_never) pss_nil)
  (pss_one (ps_ret (pe_tup (pa_cons pe_str (pa_cons (pe_xfP hp t XC hno (pv 2)) pa_nil)))))))) pins s σ H D I ?_
      obtain ⟨w0, v0, rfl⟩ := hσ
      refine ⟨rfl, ⟨_, hd⟩, rfl, ⟨_, hd⟩, rfl, ⟨_, hd⟩, by show 3 ≤ sizeLine; decide, fun l hl => ?_⟩
      have hd1 := Same.new (o := .lst [.bl false, .bl false, .bl false]) hl _ _ hd
      refine ⟨_, rfl, rfl, ⟨_, hd1⟩, rfl, ⟨_, hd1⟩, by show 2 ≤ sizeLine; decide, fun l2 hl2 => ⟨l, l2, _, _, rfl, rfl, Same.new hl2 _ _ upd_same, upd_same, by show 3 + 2 ≤ sizeLine; decide, fun l3 hl3 => ?_⟩⟩
      generalize hH2 : upd (upd (upd H l (.lst [.bl false, .bl false, .bl false])) l2 (.lst [.bl false, .bl false])) l3 (.lst ([.bl false, .bl false, .bl false] ++ [.bl false, .bl false])) = H2
      have sH : Same H H2 := by rw [← hH2]; exact ((Same.new hl).trans (Same.new hl2)).trans (Same.new hl3)
      have hd2 := sH _ _ hd
      have hl4 : H2 l3 = some (.lst [.bl false, .bl false, .bl false, .bl false, .bl false]) := by rw [← hH2]; exact upd_same
      refine ⟨rfl, ⟨_, hd2⟩, _, rfl, iteF ⟨rfl, ⟨_, hd2⟩, _, rfl, iteF ⟨_, rfl, .bool true, [.bool false, .bool false, .bool false, .bool false, .bool false], .bl true, .lst (SqL.of hl4) (.cons (.bl _) (.cons (.bl _) (.cons (.bl _) (.cons (.bl _) (.cons (.bl _) .nil))))), rfl, rfl, _, rfl, iteF ?_⟩⟩⟩
      exact ⟨_, rfl, rfl, _, .str z, hd2, rfl, by show 2 ≤ sizeLine; decide, fun c hc => hk c _ (sH.trans (Same.new hc)) upd_same⟩⟩))), ?_⟩
    refine ⟨_, rfl, rfl, _, rfl, ite2 (fun c => ?_) (fun c => ?_)⟩
    · have c : way = 0 := V.int.inj (of_decide_eq_true c)
      refine ⟨_, rfl, st, v, d, rfl, hv, o1 c, fun n m hr' e => ⟨by show 2 ≤ sizeLine; decide, fun t ht => ?_⟩, fun hb H' dd s1 hd => ⟨true, tW, fun _ a0 na => ?_, fun q => Bool.noConfusion q⟩⟩
      · refine k _ _ (Same.new ht) ?_
        unfold toldD
        rw [if_pos c, if_pos hr', e]
        exact .tup (SqT.of upd_same) (.cons (.str _) (.cons (.str _) .nil))
      · refine ⟨rfl, dd, "one", rfl, upd_same, ⟨_, _, rfl⟩, fun t H2 s2 e2 => k _ _ ((s1.trans (Same.new hd)).trans s2) ?_⟩
        unfold toldD
        rw [if_pos c, if_neg (by rw [hb]; exact Bool.false_ne_true)]
        exact .tup (SqT.of e2) (.cons (.str _) (.cons (.str _) .nil))
    · have c : way ≠ 0 := fun e => c (decide_eq_true (congrArg V.int e))
      refine ⟨_, rfl, st, v, d, rfl, hv, fun z ez => ⟨o2 c z ez, fun H1 s1 => ?_⟩, fun hn H' dd s1 hd => ⟨true, tW, fun _ a0 na => ?_, fun q => Bool.noConfusion q⟩⟩
      · subst ez
        have e : toldD way (.str z) = .tup [.str "told", rdD (rd (TL.tl z))] := if_neg c
        rw [e] at k
        generalize rd (TL.tl z) = r at k ⊢
        cases r with
        | none => exact ⟨by show 2 ≤ sizeLine; decide, fun t ht => k _ _ (s1.trans (Same.new ht)) (.tup (SqT.of upd_same) (.cons (.str _) (.cons .non .nil)))⟩
        | some q =>
          obtain ⟨n, m⟩ := q
          exact fun p hp => ⟨by show 2 ≤ sizeLine; decide, fun t ht => k _ _ ((s1.trans (Same.new hp)).trans (Same.new ht)) (.tup (SqT.of upd_same) (.cons (.str _) (.cons (.tup (SqT.of (Same.new ht _ _ upd_same)) (.cons (.int _) (.cons (.int _) .nil))) .nil)))⟩
      · refine ⟨rfl, dd, "word", rfl, upd_same, ⟨_, _, rfl⟩, fun t H2 s2 e2 => k _ _ ((s1.trans (Same.new hd)).trans s2) ?_⟩
        rw [told_odd c hn]
        exact .tup (SqT.of e2) (.cons (.str _) (.cons (.str _) .nil))
end
end K00

set_option Elab.async false
set_option linter.all false
set_option maxRecDepth 100000
set_option maxHeartbeats 4000000
namespace K00
open PySem L2
/-! ### what the law rests on -/
theorem str_len {n : Int} {k : Nat} (hk : 0 < k) (h : n.natAbs < 10 ^ k) : (Str.ofString (toString n)).length ≤ k + 1 := by
  rw [TL.len_tl, tl_int]
  have := TL.numL_len hk h
  unfold intL
  split
  · rw [List.length_cons]; omega
  · omega
theorem txt1 {n : Int} : Str.ofString (toString n) = wrS n 1 := TL.ext_tl (by rw [tl_int]; unfold wrS wr; rw [TL.tl_mk, if_pos rfl])
theorem txt2 {n m : Int} (h1 : 0 < m) (nm : m ≠ 1) : (Str.ofString (toString n) ++ "/") ++ Str.ofString (toString m) = wrS n m := TL.ext_tl (by
  have e2 : TL.tl (Str.ofString (toString m)) = TL.numL m.natAbs := by
    rw [tl_int]
    exact if_neg (by omega)
  rw [TL.tl_append, TL.tl_append, tl_int, e2]
  unfold wrS wr
  rw [TL.tl_mk, if_neg nm]
  show (intL n ++ [47]) ++ TL.numL m.natAbs = _
  rw [List.append_assoc]
  rfl)
theorem wrS_len {n m : Int} (h1 : 0 < m) (hn : n.natAbs < 10 ^ 1000) (hm : m.natAbs < 10 ^ 1000) : (wrS n m).length ≤ 2003 := by
  have a := str_len (by decide) hn
  have b := str_len (by decide) hm
  by_cases e : m = 1
  · subst e
    rw [← txt1]
    omega
  · rw [← txt2 h1 e, len_app, len_app]
    have : ("/" : Str).length = 1 := by decide +kernel
    omega
theorem tl_wrS {n m : Int} : TL.tl (wrS n m) = wr n m := TL.tl_mk _
theorem rd_small {l : List Nat} {n d : Int} (h : rd l = some (n, d)) : n.natAbs < 10 ^ 400 ∧ d.natAbs < 10 ^ 400 := by
  obtain ⟨e, h1, h2⟩ := wr_rd h
  rw [e, rd_wr h1 h2] at h
  by_cases c : n.natAbs < 10 ^ 400 ∧ d.natAbs < 10 ^ 400
  · exact c
  · rw [if_neg c] at h
    cases h
theorem wrS_rd {z : Str} {n d : Int} (h : rd (TL.tl z) = some (n, d)) : wrS n d = z := TL.ext_tl (by rw [tl_wrS]; exact (wr_rd h).1.symm)
theorem rat_lo {n d : Int} (h : Lo n d) : isRatioD (.tup [.int n, .int d]) = true := by
  show (decide (1 ≤ d) && decide (Nat.gcd n.natAbs d.natAbs = 1)) = true
  have := h.pos
  rw [decide_eq_true (by omega), decide_eq_true h.cop]
  rfl
theorem lo_rd {l : List Nat} {n d : Int} (h : rd l = some (n, d)) : Lo n d := ⟨by have := (wr_rd h).2.1; omega, (wr_rd h).2.2⟩
theorem told_wr {n d : Int} (lo : Lo n d) : toldD 0 (.tup [.int n, .int d]) = .tup [.str "told", .str (wrS n d)] := by
  unfold toldD
  rw [if_pos rfl, if_pos (rat_lo lo)]
  rfl
theorem told_rd {z : Str} : toldD 1 (.str z) = .tup [.str "told", rdD (rd (TL.tl z))] := rfl
theorem told_bad {d : D} (h : isRatioD d = false) : toldD 0 d = .tup [.str "WrongKind", .str "one"] := by
  unfold toldD
  rw [if_pos rfl, if_neg (by rw [h]; exact Bool.false_ne_true)]
theorem log_of {n k : Nat} (hk : k ≤ 1000) (h : n < 10 ^ k) : n.log2 < 11000 := Nat.lt_trans (bits1000 (Nat.lt_of_lt_of_le h (Nat.pow_le_pow_right (by decide) hk))) (by decide)
theorem bt_pair {n m : Int} (hn : n.natAbs.log2 < 11000) (hm : m.natAbs.log2 < 11000) : Bt (.tup [.int n, .int m]) := fun a b e => by
  cases e
  exact ⟨hn, hm⟩
theorem okT0 {d : D} (h : Bt d) : okT 0 d := ⟨fun _ => h, fun h => absurd rfl h⟩
theorem okT1 {z : Str} (h : z.length ≤ 19000) : okT 1 (.str z) := ⟨fun e => absurd e (by decide), fun _ y e => by cases e; exact h⟩
theorem okT1' {d : D} (h : ∀ z, d = .str z → z.length ≤ 19000) : okT 1 d := ⟨fun e => absurd e (by decide), fun _ => h⟩
theorem fit_str (z : Str) : Fit 3 (.tup [.str "told", .str z]) := ⟨by show 2 ≤ 100000; decide, fun d h => by
  simp only [List.mem_cons, List.not_mem_nil, or_false] at h
  rcases h with rfl | rfl <;> trivial⟩
theorem fit_rd (r : Option (Int × Int)) : Fit 3 (.tup [.str "told", rdD r]) := ⟨by show 2 ≤ 100000; decide, fun d h => by
  simp only [List.mem_cons, List.not_mem_nil, or_false] at h
  rcases h with rfl | rfl
  · trivial
  · cases r with
    | none => trivial
    | some q =>
      exact ⟨by show 2 ≤ 100000; decide, fun d h => by
        simp only [List.mem_cons, List.not_mem_nil, or_false] at h
        rcases h with rfl | rfl <;> trivial⟩⟩
theorem fit_two (y z : Str) : Fit 3 (.tup [.str y, .str z]) := ⟨by show 2 ≤ 100000; decide, fun d h => by
  simp only [List.mem_cons, List.not_mem_nil, or_false] at h
  rcases h with rfl | rfl <;> trivial⟩
/-- what is read of a text, at hand as a value -/
def RdV (K : PySem.W.Frag) (H : Hp) (x : V) (r : Option (Int × Int)) : Prop := match r with
  | none => x = .non
  | some (n, d) => RatV K H x n d
theorem RdV.val {K : PySem.W.Frag} {st : Addr} {H : Hp} {x : V} {r : Option (Int × Int)} (h : RdV K H x r) : Val K st H x (rdD r) := by
  cases r with
  | none =>
    cases (show x = .non from h)
    exact .non
  | some q =>
    obtain ⟨n, d⟩ := q
    exact RatV.val h
theorem RdV.same {K : PySem.W.Frag} {H H' : Hp} {x : V} {r : Option (Int × Int)} (s : Same H H') (h : RdV K H x r) : RdV K H' x r := by
  cases r with
  | none => exact h
  | some q =>
    obtain ⟨n, d⟩ := q
    exact RatV.same s h
/-- what is read, wished by its value alone -/
theorem rdAt2_of {K : PySem.W.Frag} {r : Option (Int × Int)} {H : Hp} {Q : VK} (k : ∀ x H', Same H H' → RdV K H' x r → Q x H') : RdAt2 r H Q := by
  cases r with
  | none => exact fun H' s => k _ _ s rfl
  | some q =>
    obtain ⟨n, d⟩ := q
    exact fun t H' s e => k _ _ s ⟨t, rfl, SqT.of e⟩
theorem RdV.ext {K : PySem.W.Frag} {st : Addr} {H H' : Hp} {x : V} {r : Option (Int × Int)} (hs : StAt H st) (s : Ext st H H') (h : RdV K H x r) : RdV K H' x r := by
  cases r with
  | none => exact h
  | some q =>
    obtain ⟨n, d⟩ := q
    exact RatV.ext hs s h
theorem log1001 {n : Nat} (h : n < 10 ^ 1001) : n.log2 < 12000 := by
  by_cases z : n = 0
  · subst z; decide
  · refine Nat.lt_of_lt_of_le ((Nat.log2_lt (k := 4004) z).mpr (Nat.lt_of_lt_of_le h ?_)) (by decide)
    have e1 : (10 : Nat) ^ 1001 ≤ 16 ^ 1001 := Nat.pow_le_pow_left (by decide) 1001
    have e2 : (16 : Nat) ^ 1001 = 2 ^ 4004 := by rw [show (16 : Nat) = 2 ^ 4 by decide, ← Nat.pow_mul]
    rw [e2] at e1
    exact e1
theorem mulU {n u : Int} (hn : n.natAbs < 10 ^ 1000) (h0 : 2 ≤ u) (h1 : u ≤ 5) : CMulW n u ∧ (n * u).natAbs < 10 ^ 1001 := by
  constructor
  · have := bits1000 hn
    have : u.natAbs.log2 < 3 := (Nat.log2_lt (by omega)).mpr (show u.natAbs < 2 ^ 3 by omega)
    unfold CMulW
    omega
  · rw [Int.natAbs_mul, Nat.pow_succ]
    exact Nat.lt_of_lt_of_le ((Nat.mul_lt_mul_right (by omega)).mpr hn) (Nat.mul_le_mul_left _ (by omega))
theorem cm2u {u : Int} (h0 : 2 ≤ u) (h1 : u ≤ 5) : CMulW 2 u := by
  have : u.natAbs.log2 < 3 := (Nat.log2_lt (by omega)).mpr (show u.natAbs < 2 ^ 3 by omega)
  have : (2 : Int).natAbs.log2 < 3 := by decide
  unfold CMulW
  omega
def odds1 (u : Int) : List D := [.tup [.int (2 * u), .int 4], .tup [.int u, .int 0], .tup [.int 1, .int (-u)], .lst [.int u, .int 1], .tup [.int u], .tup [.bl true, .int 1], .tup [.int u, .bl true], .non, .int u, .str "1/2", .tup [.int u, .int 1, .int 1], .tup [.int 0, .int u]] ++
  [.tup [.tup [.int u, .int 1], .int 1], .dct, .bl false, .tup [.str "1", .int u], .tup [.int u, .non], .tup []]
theorem odd1 {u : Int} (h0 : 2 ≤ u) (h1 : u ≤ 5) {d : D} (hm : d ∈ odds1 u) : isRatioD d = false ∧ Bt d := by
  obtain rfl | rfl | rfl | rfl : u = 2 ∨ u = 3 ∨ u = 4 ∨ u = 5 := by omega
  all_goals
    simp only [odds1, List.cons_append, List.nil_append, List.mem_cons, List.not_mem_nil, or_false] at hm
    rcases hm with rfl | rfl | rfl | rfl | rfl | rfl | rfl | rfl | rfl | rfl | rfl | rfl | rfl | rfl | rfl | rfl | rfl | rfl <;> exact ⟨by decide +kernel, fun a b e => by cases e <;> exact ⟨by decide, by decide⟩⟩
def odds2 (u n d : Int) (t : Str) : List D := [.non, .int u, .bl true, .tup [.int n, .int d], .lst [.str t], .tup [.str t], .dct, .lst [], .int 0]
theorem odd2 {u n d : Int} {t : Str} {x : D} (hm : x ∈ odds2 u n d t) : ∀ z, x ≠ .str z := fun z e => by
  subst e
  simp only [odds2, List.mem_cons, List.not_mem_nil, or_false] at hm
  rcases hm with h | h | h | h | h | h | h | h | h <;> cases h
section
variable {K : PySem.W.Frag} {st : Addr} {σ : L2.St} {H : Hp}
theorem Gv.mul {i j : Int} {s : Nat} (h : σ[s]? = some (some (.int j))) (c : CMulW i j) : Gv K st σ H (tOp (rI CMulW fun i j => .int (i * j)) (tC (.int i)) (tVar s)) (.int (i * j)) := fun H1 _ Q k => ⟨_, h, _, _, rfl, rfl, c, k _ _ (Same.refl _) (.int _)⟩
theorem Gv.negv {i : Int} {s : Nat} (h : σ[s]? = some (some (.int i))) : Gv K st σ H (tUn (rU fun i => .int (-i)) (tVar s)) (.int (-i)) := fun H1 _ Q k => ⟨_, h, _, rfl, k _ _ (Same.refl _) (.int _)⟩
/-- what is told is alike what is due -/
theorem chk {te1 te2 : TE} {way : Int} {d e : D} {Q : VK} (h1 : Gv K st σ H te1 d) (ok : okT way d) (ed : toldD way d = e) (h2 : Gv K st σ H te2 e) (fit : Fit 3 e) (k : ∀ H', Same H H' → Q (.bl true) H') :
    tCall (spSame K 4) [] E0 (tCons (tCall (spTold2 K) [] E0 (tCons (tC (.int way)) (tCons te1 tNil))) (tCons te2 tNil)) σ H Q :=
  h1 H (Same.refl _) _ fun v H1 s1 hv => ⟨st, way, v, d, rfl, hv, ok, fun x H2 s2 hx => h2 H2 (s1.trans s2) _ fun y H3 s3 hy => ⟨st, x, y, e, rfl, by rw [ed] at hx; exact hx.same s3, hy, fit, fun H4 s4 => k H4 (((s1.trans s2).trans s3).trans s4)⟩⟩
theorem Gv.one {te : TE} {y : Str} {e : D} (h : Gv K st σ H te e) : Gv K st σ H (tTup (tCons (tC (.str y)) (tCons te tNil))) (.tup [.str y, e]) := Gv.tup (.cons Gv.str (.cons h .nil)) (by show 2 ≤ 1000; decide)
end
end K00

set_option Elab.async false
set_option linter.all false
set_option maxRecDepth 100000
set_option maxHeartbeats 8000000
namespace K00
open PySem L2
def spLaw (K : PySem.W.Frag) : Sp := fun vs H Q _ => ∃ (a : Addr) (ns : List Int), vs = [.ref a] ∧ SqL K H a (ns.map V.int) ∧ ns.length ≤ 63 ∧ ∀ H', Q (.bl true) H'
section
variable {P : Program} {w : World} {K : PySem.W.Frag} {mg : Str → Option Value} {base : Heap}
abbrev s_law : Stmt := top 34
theorem sc_law : FnScope ["_law_script", "_law_store_here", "_law_one", "_law_text", "_law_most", "_law_due", "_law_up", "_law_double", "_law_words", "_law_word", "_law_found", "_law_odd"] ["_law_script"] (defScope s_law) := ⟨rfl, rfl, rfl, by decide +kernel, rfl, by decide +kernel, by decide +kernel⟩
theorem ok_law {f : Addr} {fd : FuncData} (F : Fun K "law" "law" s_law f fd) (T : TxtW K mg) (c_store : Callee P w K mg base CX0 1 "_law_store" ["_law_script"] (spStore K)) (c_take : Callee P w K mg base CX0 126 "_law_take" psT (spTake 125)) (c_number : Callee P w K mg base CX0 128 "_law_number" ["_law_store_here"] (spNumber K))
    (c_tens : Callee P w K mg base CX0 1 "_law_tens" ["_law_figures"] spTens) (c_told : Callee P w K mg base CX0 8 "_law_told" ["_law_way", "_law_thing"] (spTold2 K)) (c_alike : Callee P w K mg base CX0 5 "_law_alike" ["_law_got", "_law_due"] (spSame K 4))
    (c_bent : Callee P w K mg base CX0 127 "_law_bent" ["_law_store_here", "_law_text"] spBent) (c_short : Callee P w K mg base CX0 127 "_law_short" ["_law_store_here"] (spWord 10)) (c_long : Callee P w K mg base CX0 127 "_law_long" ["_law_store_here"] (spWord 18000))
    (c_reading : Callee P w K mg base CX0 2 "_law_reading" ["_law_text"] spReading) : FnOk P w K mg base CX0 129 f fd ["_law_script"] (spLaw K) := by
  refine F.ok sc_law (fun vs H Q E h => ?_) (fun cdv A outer s H vs Q E hr h => ?_)
  · obtain ⟨_, _, rfl, _⟩ := h
    rfl
  · obtain ⟨a, ns, rfl, hSq, hns, k⟩ := h
    refine ⟨_, (pss_cons (ps_set (i := 1) sc_law.nd rfl (Or.inl rfl) (pe_fn c_store (hr.mono (by decide)) (by rfl) pass0 (pa_cons (pv 0) pa_nil)))
  (pss_cons (ps_set (i := 2) sc_law.nd rfl (Or.inl rfl) (pe_fn c_number (hr.mono (by decide)) (by rfl) pass0 (pa_cons (pv 1) pa_nil)))
  (pss_cons (ps_set (i := 3) sc_law.nd rfl (Or.inl rfl) (pe_callTy (call_strN T.dig) (by rfl) T.str (by decide +kernel) (pa_cons (pe_ix ix_seq (pv 2) pe_int (fun _ _ => rfl)) pa_nil)))
  (C8.pss_cut (ps_if (pt_cmpR op_gt (pe_ix ix_seq (pv 2) pe_int (fun _ _ => rfl)) pe_int (nomark _)) (pss_one (ps_set (i := 3) sc_law.nd rfl (Or.inl rfl) (pe_op op_add_str (pe_op op_add_str (pv 3) pe_str) (pe_callTy (call_strN T.dig) (by rfl) T.str (by decide +kernel) (pa_cons (pe_ix ix_seq (pv 2) pe_int (fun _ _ => rfl)) pa_nil))))) pss_nil)
  (pss_cons (ps_set (i := 4) sc_law.nd rfl (Or.inl rfl) (pe_fn c_tens (hr.mono (by decide)) (by rfl) pass0 (pa_cons pe_int pa_nil)))
  (pss_cons (ps_set (i := 5) sc_law.nd rfl (Or.inl rfl) pe_non)
  (C8.pss_cut (ps_if (PW.pt (pw_and (pt_chain op_lt op_lt (pe_un un_neg (pv 4)) (pe_ix ix_seq (pv 2) pe_int (fun _ _ => rfl)) (pv 4)) (pw_and1 (pt_cmpR op_lt (pe_ix ix_seq (pv 2) pe_int (fun _ _ => rfl)) (pv 4) (nomark _))))) (pss_one (ps_set (i := 5) sc_law.nd rfl (Or.inl rfl) (pv 2))) pss_nil)
  (pss_cons (ps_if (PW.pt (pw_or (pt_not (pt_val (pe_fn c_alike (hr.mono (by decide)) (by rfl) pass0 (pa_cons (pe_fn c_told (hr.mono (by decide)) (by rfl) pass0 (pa_cons pe_int (pa_cons (pv 2) pa_nil))) (pa_cons (pe_tup (pa_cons pe_str (pa_cons (pv 3) pa_nil))) pa_nil))))) (pw_or1 (pt_not (pt_val (pe_fn c_alike (hr.mono (by decide)) (by rfl) pass0 (pa_cons (pe_fn c_told (hr.mono (by decide)) (by rfl) pass0 (pa_cons pe_int (pa_cons (pv 3) pa_nil))) (pa_cons (pe_tup (pa_cons pe_str (pa_cons (pv 5) pa_nil))) pa_nil)))))))) (pss_one (ps_ret pe_bl)) pss_nil)
  (pss_cons (ps_set (i := 6) sc_law.nd rfl (Or.inl rfl) (pe_op op_add pe_int (pe_fn c_take (hr.mono (by decide)) (by rfl) pass0 (pa_cons (pv 1) (pa_cons pe_int pa_nil)))))
  (pss_cons (ps_set (i := 7) sc_law.nd rfl (Or.inl rfl) (pe_op op_add_str (pe_op op_add_str (pe_callTy (call_strN T.dig) (by rfl) T.str (by decide +kernel) (pa_cons (pe_op op_mulW (pe_ix ix_seq (pv 2) pe_int (fun _ _ => rfl)) (pv 6)) pa_nil)) pe_str) (pe_callTy (call_strN T.dig) (by rfl) T.str (by decide +kernel) (pa_cons (pe_op op_mulW (pe_ix ix_seq (pv 2) pe_int (fun _ _ => rfl)) (pv 6)) pa_nil))))
  (pss_cons (ps_set (i := 8) sc_law.nd rfl (Or.inl rfl) (pe_lst (pa_cons (pe_fn c_bent (hr.mono (by decide)) (by rfl) pass0 (pa_cons (pv 1) (pa_cons (pv 3) pa_nil))) (pa_cons (pe_fn c_bent (hr.mono (by decide)) (by rfl) pass0 (pa_cons (pv 1) (pa_cons (pv 3) pa_nil))) (pa_cons (pe_fn c_short (hr.mono (by decide)) (by rfl) pass0 (pa_cons (pv 1) pa_nil)) (pa_cons (pe_fn c_short (hr.mono (by decide)) (by rfl) pass0 (pa_cons (pv 1) pa_nil)) (pa_cons (pv 7) pa_nil)))))))
  (pss_cons (ps_expr (pe_bm PySem.F.plainAttrs_list PySem.F.slot_list_append PySem.F.type_list_append mt_append (pv 8) (pa_cons (pe_fn c_long (hr.mono (by decide)) (by rfl) pass0 (pa_cons (pv 1) pa_nil)) pa_nil)))
  (pss_cons (ps_expr (pe_bm PySem.F.plainAttrs_list PySem.F.slot_list_append PySem.F.type_list_append mt_append (pv 8) (pa_cons (pe_fn c_bent (hr.mono (by decide)) (by rfl) pass0 (pa_cons (pv 1) (pa_cons (pe_fn c_bent (hr.mono (by decide)) (by rfl) pass0 (pa_cons (pv 1) (pa_cons (pe_op op_add_str (pe_op op_add_str (pe_callTy (call_strN T.dig) (by rfl) T.str (by decide +kernel) (pa_cons (pe_fn c_take (hr.mono (by decide)) (by rfl) pass0 (pa_cons (pv 1) (pa_cons pe_int pa_nil))) pa_nil)) pe_str) (pe_callTy (call_strN T.dig) (by rfl) T.str (by decide +kernel) (pa_cons (pe_fn c_take (hr.mono (by decide)) (by rfl) pass0 (pa_cons (pv 1) (pa_cons pe_int pa_nil))) pa_nil))) pa_nil))) pa_nil))) pa_nil)))
  (pss_cons (ps_for PassesOwn.never rfl (pi_list (pv 8)) (pg_name (i := 9) sc_law.nd rfl (Or.inl rfl)) (pss_cons (ps_set (i := 10) sc_law.nd rfl (Or.inl rfl) (pe_fn c_reading (hr.mono (by decide)) (by rfl) pass0 (pa_cons (pv 9) pa_nil)))
  (pss_cons (ps_if (pt_not (pt_val (pe_fn c_alike (hr.mono (by decide)) (by rfl) pass0 (pa_cons (pe_fn c_told (hr.mono (by decide)) (by rfl) pass0 (pa_cons pe_int (pa_cons (pv 9) pa_nil))) (pa_cons (pe_tup (pa_cons pe_str (pa_cons (pv 10) pa_nil))) pa_nil))))) (pss_one (ps_ret pe_bl)) pss_nil)
  (pss_one (ps_if (PW.pt (pw_and (pt_cmpR op_notN (pv 10) pe_non (nomark _)) (pw_and1 (pt_not (pt_val (pe_fn c_alike (hr.mono (by decide)) (by rfl) pass0 (pa_cons (pe_fn c_told (hr.mono (by decide)) (by rfl) pass0 (pa_cons pe_int (pa_cons (pv 10) pa_nil))) (pa_cons (pe_tup (pa_cons pe_str (pa_cons (pv 9) pa_nil))) pa_nil)))))))) (pss_one (ps_ret pe_bl)) pss_nil)))))
  (pss_cons (ps_set (i := 11) sc_law.nd rfl (Or.inl rfl) (pe_lst (pa_cons (pe_tup (pa_cons (pe_op op_mulW pe_int (pv 6)) (pa_cons pe_int pa_nil))) (pa_cons (pe_tup (pa_cons (pv 6) (pa_cons pe_int pa_nil))) (pa_cons (pe_tup (pa_cons pe_int (pa_cons (pe_un un_neg (pv 6)) pa_nil))) (pa_cons (pe_lst (pa_cons (pv 6) (pa_cons pe_int pa_nil))) (pa_cons (pe_tup (pa_cons (pv 6) pa_nil)) (pa_cons (pe_tup (pa_cons pe_bl (pa_cons pe_int pa_nil))) (pa_cons (pe_tup (pa_cons (pv 6) (pa_cons pe_bl pa_nil))) (pa_cons pe_non (pa_cons (pv 6) (pa_cons pe_str (pa_cons (pe_tup (pa_cons (pv 6) (pa_cons pe_int (pa_cons pe_int pa_nil)))) (pa_cons (pe_tup (pa_cons pe_int (pa_cons (pv 6) pa_nil))) pa_nil))))))))))))))
  (pss_cons (ps_set (i := 11) sc_law.nd rfl (Or.inl rfl) (pe_op op_cat (pv 11) (pe_lst (pa_cons (pe_tup (pa_cons (pe_tup (pa_cons (pv 6) (pa_cons pe_int pa_nil))) (pa_cons pe_int pa_nil))) (pa_cons pe_dnewK (pa_cons pe_bl (pa_cons (pe_tup (pa_cons pe_str (pa_cons (pv 6) pa_nil))) (pa_cons (pe_tup (pa_cons (pv 6) (pa_cons pe_non pa_nil))) (pa_cons (pe_tup pa_nil) pa_nil)))))))))
  (pss_cons (ps_if (pt_not (pt_val (pe_fn c_alike (hr.mono (by decide)) (by rfl) pass0 (pa_cons (pe_fn c_told (hr.mono (by decide)) (by rfl) pass0 (pa_cons pe_int (pa_cons (pe_ix ix_list (pv 11) (pe_fn c_take (hr.mono (by decide)) (by rfl) pass0 (pa_cons (pv 1) (pa_cons (pe_callB call_len_seq (by rfl) T.len PySem.boot_len (pa_cons (pv 11) pa_nil)) pa_nil))) (fun _ _ => rfl)) pa_nil))) (pa_cons (pe_tup (pa_cons pe_str (pa_cons pe_str pa_nil))) pa_nil))))) (pss_one (ps_ret pe_bl)) pss_nil)
  (pss_cons (ps_set (i := 11) sc_law.nd rfl (Or.inl rfl) (pe_lst (pa_cons pe_non (pa_cons (pv 6) (pa_cons pe_bl (pa_cons (pv 2) (pa_cons (pe_lst (pa_cons (pv 3) pa_nil)) (pa_cons (pe_tup (pa_cons (pv 3) pa_nil)) (pa_cons pe_dnewK (pa_cons (pe_lst pa_nil) (pa_cons pe_int pa_nil)))))))))))
  (pss_cons (ps_if (pt_not (pt_val (pe_fn c_alike (hr.mono (by decide)) (by rfl) pass0 (pa_cons (pe_fn c_told (hr.mono (by decide)) (by rfl) pass0 (pa_cons pe_int (pa_cons (pe_ix ix_list (pv 11) (pe_fn c_take (hr.mono (by decide)) (by rfl) pass0 (pa_cons (pv 1) (pa_cons (pe_callB call_len_seq (by rfl) T.len PySem.boot_len (pa_cons (pv 11) pa_nil)) pa_nil))) (fun _ _ => rfl)) pa_nil))) (pa_cons (pe_tup (pa_cons pe_str (pa_cons pe_str pa_nil))) pa_nil))))) (pss_one (ps_ret pe_bl)) pss_nil)
  (pss_one (ps_ret (pe_and (pe_fn c_alike (hr.mono (by decide)) (by rfl) pass0 (pa_cons (pe_fn c_told (hr.mono (by decide)) (by rfl) pass0 (pa_cons pe_int (pa_cons (pv 3) pa_nil))) (pa_cons (pe_tup (pa_cons pe_str (pa_cons (pv 5) pa_nil))) pa_nil))) (pe_one (pe_fn c_alike (hr.mono (by decide)) (by rfl) pass0 (pa_cons (pe_fn c_told (hr.mono (by decide)) (by rfl) pass0 (pa_cons pe_int (pa_cons (pv 2) pa_nil))) (pa_cons (pe_tup (pa_cons pe_str (pa_cons (pv 3) pa_nil))) pa_nil)))))))))))))))))))))))))), ?_⟩
    refine ⟨_, rfl, a, ns, rfl, hSq, hns, fun st H1 hst sH1 hSt => ?_⟩
    refine ⟨_, rfl, st, rfl, hSt, fun v H2 n d x2 hv lo bn bd => ?_⟩
    obtain ⟨p1, rfl, hq⟩ := hv
    have hp := lo.pos
    have hS2 := x2.at_
    have ln := log_of (Nat.le_refl _) bn
    have ld := log_of (Nat.le_refl _) bd
    have sn := str_len (by decide) bn
    have sd := str_len (by decide) bd
    have one : ("/" : Str).length = 1 := by decide +kernel
    refine ⟨_, rfl, rIx_at (j := 0) (.inr hq) rfl ⟨n, rfl, Nat.lt_trans ln (by decide), ?_⟩⟩
    refine ⟨fun σ H' => σ = [some (.ref a), some (.ref st), some (.ref p1), some (.str (wrS n d)), none, none, none, none, none, none, none, none] ∧ H' = H2, ?_, ?_⟩
    · refine ⟨_, rfl, rIx_at (j := 1) (.inr hq) rfl ⟨_, _, rfl, rfl, _, rfl, ite2 (fun c => ?_) (fun c => ?_)⟩⟩
      · have nd : d ≠ 1 := by have := of_decide_eq_true c; omega
        refine ⟨_, rfl, _, _, rfl, rfl, by rw [one, sizeLine_eq]; omega, _, rfl, rIx_at (j := 1) (.inr hq) rfl ⟨d, rfl, Nat.lt_trans ld (by decide), _, _, rfl, rfl, by rw [len_app, one, sizeLine_eq]; omega, ?_⟩⟩
        refine ⟨?_, rfl⟩
        rw [← txt2 hp nd]
        rfl
      · have nd : d = 1 := by
          have : ¬ (1 : Int) < d := fun z => c (decide_eq_true z)
          omega
        refine ⟨?_, rfl⟩
        rw [nd, ← txt1]
        rfl
    rintro σ H3 ⟨rfl, rfl⟩
    have tl' := wrS_len hp bn bd
    have rdw : rd (TL.tl (wrS n d)) = if n.natAbs < 10 ^ 400 ∧ d.natAbs < 10 ^ 400 then some (n, d) else none := by rw [tl_wrS]; exact rd_wr (by omega) lo.cop
    have tw := told_wr lo
    have tr := told_rd (z := wrS n d)
    generalize hT : wrS n d = text at tl' rdw tw tr ⊢
    generalize hR : rd (TL.tl text) = R at rdw tr ⊢
    refine ⟨400, rfl, by decide, by decide, ?_⟩
    generalize hM : ((10 ^ Int.toNat 400 : Nat) : Int) = M
    have eM : M = ((10 ^ 400 : Nat) : Int) := hM.symm
    refine ⟨fun σ H' => ∃ vd, σ = [some (.ref a), some (.ref st), some (.ref p1), some (.str text), some (.int M), some vd, none, none, none, none, none, none] ∧ H' = H3 ∧ RdV K H3 vd R, ?_, ?_⟩
    · have no : ¬ (n.natAbs < 10 ^ 400 ∧ d.natAbs < 10 ^ 400) → RdV K H3 .non R := fun c => by
        rw [if_neg c] at rdw
        rw [rdw]
        rfl
      have yes : (n.natAbs < 10 ^ 400 ∧ d.natAbs < 10 ^ 400) → RdV K H3 (.ref p1) R := fun c => by
        rw [if_pos c] at rdw
        rw [rdw]
        exact ⟨p1, rfl, hq⟩
      generalize (10 : Nat) ^ 400 = B at eM no yes
      refine ⟨_, rfl, _, rfl, _, rfl, rIx_at (j := 0) (.inr hq) rfl ⟨_, _, rfl, rfl, decide (-M < n), rfl, ?_⟩⟩
      by_cases c1 : -M < n
      · rw [decide_eq_true c1]
        refine iteT ⟨_, rfl, _, _, rfl, rfl, decide (n < M), rfl, ?_⟩
        by_cases c2 : n < M
        · rw [decide_eq_true c2]
          refine iteT ⟨_, rfl, rIx_at (j := 1) (.inr hq) rfl ⟨_, rfl, _, _, rfl, rfl, decide (d < M), rfl, ?_⟩⟩
          by_cases c3 : d < M
          · rw [decide_eq_true c3]
            exact iteT ⟨_, rfl, _, rfl, rfl, yes ⟨by omega, by omega⟩⟩
          · rw [decide_eq_false c3]
            exact iteF ⟨_, rfl, rfl, no fun z => by omega⟩
        · rw [decide_eq_false c2]
          exact iteF ⟨_, rfl, rfl, no fun z => by omega⟩
      · rw [decide_eq_false c1]
        exact iteF ⟨_, rfl, iteF ⟨_, rfl, rfl, no fun z => by omega⟩⟩
    rintro σ H3' ⟨vd, rfl, rfl, hvd⟩
    refine chk (st := st) (Gv.varH rfl (RatV.val ⟨p1, rfl, hq⟩)) (okT0 (bt_pair ln ld)) tw (Gv.one (Gv.var rfl fun _ => .str _)) (fit_str _) (fun H4 s4 => ⟨_, rfl, iteF ?_⟩)
    refine chk (st := st) (Gv.var rfl fun _ => .str _) (okT1 (by omega)) tr (Gv.one (Gv.varH rfl (hvd.same s4).val)) (fit_rd _) (fun H5 s5 => ⟨_, rfl, iteF ?_⟩)
    have s35 : Same H3' H5 := s4.trans s5
    have x35 := Ext.ofSame hS2 s35
    -- the words
    refine ⟨_, rfl, st, 4, rfl, x35.at_, lim124s (by decide), fun r H6 r6 x6 => ⟨_, _, rfl, rfl, ?_⟩⟩
    obtain ⟨u, hu⟩ : ∃ u : Int, 2 + r = u := ⟨_, rfl⟩
    have u0 : 2 ≤ u := by have := r6.1; omega
    have u1 : u ≤ 5 := by have := r6.2; omega
    dsimp only [gName]
    rw [hu]
    have x36 := x35.trans x6
    have hq6 : SqT K H6 p1 [.int n, .int d] := sqT_ext hS2 x36 hq
    have hvd6 := hvd.ext hS2 x36
    obtain ⟨cn, bnu⟩ := mulU bn u0 u1
    obtain ⟨cd, bdu⟩ := mulU bd u0 u1
    have snu := str_len (by decide) bnu
    have sdu := str_len (by decide) bdu
    refine ⟨_, rfl, rIx_at (j := 0) (.inr hq6) rfl ⟨_, rfl, _, _, rfl, rfl, cn, n * u, rfl, log1001 bnu, _, _, rfl, rfl, by rw [one, sizeLine_eq]; omega, _, rfl, rIx_at (j := 1) (.inr hq6) rfl ⟨_, rfl, _, _, rfl, rfl, cd, d * u, rfl, log1001 bdu, _, _, rfl, rfl, by rw [len_app, one, sizeLine_eq]; omega, ?_⟩⟩⟩
    have ldbl : ((Str.ofString (toString (n * u)) ++ "/") ++ Str.ofString (toString (d * u))).length ≤ 2006 := by rw [len_app, len_app, one]; omega
    generalize (Str.ofString (toString (n * u)) ++ "/") ++ Str.ofString (toString (d * u)) = dbl at ldbl ⊢
    refine ⟨_, rfl, _, rfl, st, text, rfl, x36.at_, by omega, fun y1 H7 x7 b1 => ?_⟩
    refine ⟨_, rfl, _, rfl, st, text, rfl, x7.at_, by omega, fun y2 H8 x8 b2 => ?_⟩
    refine ⟨_, rfl, st, rfl, x8.at_, fun y3 H9 x9 b3 => ?_⟩
    refine ⟨_, rfl, st, rfl, x9.at_, fun y4 H10 x10 b4 => ?_⟩
    refine ⟨_, rfl, by show 5 ≤ sizeLine; decide, fun wp hwp => ?_⟩
    have hS10 := x10.at_
    have nw := St.ne hS10 hwp
    have x610 := ((x7.trans x8).trans x9).trans x10
    have xw := Ext.new (o := .lst [.str y1, .str y2, .str y3, .str y4, .str dbl]) hS10 hwp
    refine ⟨_, rfl, .inl ⟨rfl, _, SqL.of upd_same⟩, _, rfl, st, rfl, xw.at_, fun y5 H11 x11 b5 => ⟨wp, _, _, rfl, rfl, x11.old _ _ nw upd_same, by show 5 < sizeLine; decide, ?_⟩⟩
    have e12 : upd H11 wp (.lst ([.str y1, .str y2, .str y3, .str y4, .str dbl] ++ [.str y5])) wp = some (.lst ([.str y1, .str y2, .str y3, .str y4, .str dbl] ++ [.str y5])) := upd_same
    have x12 : Ext st H10 (upd H11 wp (.lst ([.str y1, .str y2, .str y3, .str y4, .str dbl] ++ [.str y5]))) := Ext.upd hS10 (xw.trans x11) hwp
    generalize upd H11 wp (.lst ([.str y1, .str y2, .str y3, .str y4, .str dbl] ++ [.str y5])) = H12 at e12 x12 ⊢
    refine ⟨_, rfl, .inl ⟨rfl, _, SqL.of e12⟩, _, rfl, _, rfl, _, rfl, st, 40, rfl, x12.at_, lim124s (by decide), fun r1 H13 q1 x13 => ?_⟩
    have l1 : (Str.ofString (toString r1)).length ≤ 3 := str_len (k := 2) (by decide) (by have := q1.1; have := q1.2; show r1.natAbs < 100; omega)
    have g1 : r1.natAbs.log2 < 12000 := by
      have := q1.1
      have := q1.2
      exact log1001 (Nat.lt_of_lt_of_le (show r1.natAbs < 10 ^ 2 by show r1.natAbs < 100; omega) (Nat.pow_le_pow_right (by decide) (by decide)))
    refine ⟨r1, rfl, g1, _, _, rfl, rfl, by rw [one, sizeLine_eq]; omega, _, rfl, st, 40, rfl, x13.at_, lim124s (by decide), fun r2 H14 q2 x14 => ?_⟩
    have l2 : (Str.ofString (toString r2)).length ≤ 3 := str_len (k := 2) (by decide) (by have := q2.1; have := q2.2; show r2.natAbs < 100; omega)
    have g2 : r2.natAbs.log2 < 12000 := by
      have := q2.1
      have := q2.2
      exact log1001 (Nat.lt_of_lt_of_le (show r2.natAbs < 10 ^ 2 by show r2.natAbs < 100; omega) (Nat.pow_le_pow_right (by decide) (by decide)))
    refine ⟨r2, rfl, g2, _, _, rfl, rfl, by rw [len_app, one, sizeLine_eq]; omega, st, _, rfl, x14.at_, by rw [len_app, len_app, one]; omega, fun y6 H15 x15 b6 => ?_⟩
    have c6 : y6.length ≤ 18 := by rw [len_app, len_app, one] at b6; omega
    refine ⟨st, y6, rfl, x15.at_, by omega, fun y7 H16 x16 b7 => ?_⟩
    have x216 := ((x13.trans x14).trans x15).trans x16
    refine ⟨wp, _, _, rfl, rfl, x216.old _ _ nw e12, by show 6 < sizeLine; decide, ?_⟩
    have e17 : upd H16 wp (.lst ([.str y1, .str y2, .str y3, .str y4, .str dbl] ++ [.str y5] ++ [.str y7])) wp = some (.lst ([.str y1, .str y2, .str y3, .str y4, .str dbl] ++ [.str y5] ++ [.str y7])) := upd_same
    have x17 : Ext st H10 (upd H16 wp (.lst ([.str y1, .str y2, .str y3, .str y4, .str dbl] ++ [.str y5] ++ [.str y7]))) := Ext.upd hS10 (x12.trans x216) hwp
    generalize upd H16 wp (.lst ([.str y1, .str y2, .str y3, .str y4, .str dbl] ++ [.str y5] ++ [.str y7])) = H17 at e17 x17 ⊢
    have wl : ∀ y ∈ [y1, y2, y3, y4, dbl, y5, y7], y.length ≤ 19000 := fun y hy => by
      simp only [List.mem_cons, List.not_mem_nil, or_false] at hy
      rcases hy with rfl | rfl | rfl | rfl | rfl | rfl | rfl <;> omega
    have e17' : H17 wp = some (.lst ([y1, y2, y3, y4, dbl, y5, y7].map V.str)) := e17
    generalize [y1, y2, y3, y4, dbl, y5, y7] = ws at wl e17'
    have x317 := (x36.trans x610).trans x17
    have hS17 := x317.at_
    have hq17 := sqT_ext hS2 x317 hq
    have hvd17 := hvd.ext hS2 x317
    skip
    refine ⟨_, rfl, wp, rfl, ⟨_, SqL.of e17'⟩, for_list (K := K) (a := wp) (xs := ws.map V.str) (fun _ σ H' => ∃ z9 z10, σ = [some (.ref a), some (.ref st), some (.ref p1), some (.str text), some (.int M), some vd, some (.int u), some (.str dbl), some (.ref wp), z9, z10, none] ∧ Same H17 H') ⟨none, none, rfl, Same.refl _⟩ (fun i σ H' _ ⟨_, _, _, s⟩ => SqL.of (s _ _ e17')) ?_ ?_⟩
    · rintro i x σ H' hx ⟨z9, z10, rfl, s⟩
      rw [List.getElem?_map] at hx
      obtain ⟨y, hy, rfl⟩ := Option.map_eq_some_iff.mp hx
      have hyl := wl y (List.mem_of_getElem? hy)
      refine ⟨_, rfl, y, rfl, hyl, rdAt2_of (K := K) fun fx H18 s18 hfx => ?_⟩
      refine chk (st := st) (Gv.var rfl fun _ => .str _) (okT1 hyl) told_rd (Gv.one (Gv.varH rfl hfx.val)) (fit_rd _) (fun H19 s19 => ⟨_, rfl, iteF ?_⟩)
      have hfx' := hfx.same s19
      cases hr' : rd (TL.tl y) with
      | none =>
        rw [hr'] at hfx'
        cases (show fx = .non from hfx')
        exact ⟨_, rfl, rfl, _, rfl, iteF ⟨_, _, rfl, (s.trans s18).trans s19⟩⟩
      | some q =>
        obtain ⟨a1, a2⟩ := q
        rw [hr'] at hfx'
        obtain ⟨ft, rfl, hft⟩ : RatV K H19 fx a1 a2 := hfx'
        obtain ⟨w1, w2⟩ := rd_small hr'
        refine ⟨_, rfl, rfl, _, rfl, iteT ?_⟩
        refine chk (st := st) (Gv.varH rfl (RatV.val ⟨ft, rfl, hft⟩)) (okT0 (bt_pair (log_of (by decide) w1) (log_of (by decide) w2))) (told_wr (lo_rd hr')) (Gv.one (Gv.var rfl fun _ => by rw [wrS_rd hr']; exact .str _)) (fit_str _) (fun H20 s20 => ⟨_, rfl, iteF ⟨_, _, rfl, ((s.trans s18).trans s19).trans s20⟩⟩)
    rintro σ H20 ⟨z9, z10, rfl, s20⟩
    have hS20 := hS17.same s20
    have c2u := cm2u u0 u1
    try dsimp only [gName, tNext]
    refine asg_of' ?_
    refine GvL.lst (K := K) (st := st) hS20 (.cons (.tup (.cons (Gv.mul rfl c2u) (.cons .int .nil)) (Nat.le_of_ble_eq_true rfl)) (.cons (.tup (.cons (Gv.var rfl fun _ => .int _) (.cons .int .nil)) (Nat.le_of_ble_eq_true rfl)) (.cons (.tup (.cons .int (.cons (Gv.negv rfl) .nil)) (Nat.le_of_ble_eq_true rfl)) (.cons (.lst hS20 (.cons (Gv.var rfl fun _ => .int _) (.cons .int .nil)) (Nat.le_of_ble_eq_true rfl)) (.cons (.tup (.cons (Gv.var rfl fun _ => .int _) .nil) (Nat.le_of_ble_eq_true rfl)) (.cons (.tup (.cons .bl (.cons .int .nil)) (Nat.le_of_ble_eq_true rfl)) (.cons (.tup (.cons (Gv.var rfl fun _ => .int _) (.cons .bl .nil)) (Nat.le_of_ble_eq_true rfl)) (.cons .non (.cons (Gv.var rfl fun _ => .int _) (.cons .str (.cons (.tup (.cons (Gv.var rfl fun _ => .int _) (.cons .int (.cons .int .nil))) (Nat.le_of_ble_eq_true rfl)) (.cons (.tup (.cons .int (.cons (Gv.var rfl fun _ => .int _) .nil)) (Nat.le_of_ble_eq_true rfl)) .nil)))))))))))) (Nat.le_of_ble_eq_true rfl) H20 (Same.refl H20) _ (fun p vs H21 t21 np hp' hv => ?_)
    have hS21 := hS20.same t21
    try dsimp only [gName, tNext]
    refine asg_of' ?_
    refine GvL.cat (K := K) (st := st) (H := H21) hS21 (GvL.var rfl np hp' hv) (GvL.lst hS21 (.cons (.tup (.cons (.tup (.cons (Gv.var rfl fun _ => .int _) (.cons .int .nil)) (Nat.le_of_ble_eq_true rfl)) (.cons .int .nil)) (Nat.le_of_ble_eq_true rfl)) (.cons (.dct hS21) (.cons .bl (.cons (.tup (.cons .str (.cons (Gv.var rfl fun _ => .int _) .nil)) (Nat.le_of_ble_eq_true rfl)) (.cons (.tup (.cons (Gv.var rfl fun _ => .int _) (.cons .non .nil)) (Nat.le_of_ble_eq_true rfl)) (.cons (.tup .nil (Nat.le_of_ble_eq_true rfl)) .nil)))))) (Nat.le_of_ble_eq_true rfl)) (Nat.le_of_ble_eq_true rfl) H21 (Same.refl H21) _ (fun p2 vs2 H22 t22 np2 hp2 hv2 => ?_)
    have hS22 := hS21.same t22
    try dsimp only [gName, tNext]
    have l18 : vs2.length = 18 := hv2.length
    refine ⟨_, rfl, _, rfl, _, rfl, p2, vs2, rfl, .inl (SqL.of hp2), st, _, rfl, hS22, lim124s (by rw [l18]; decide), fun r3 H23 q3 x23 => ?_⟩
    have hp23 : H23 p2 = some (.lst vs2) := x23.old _ _ np2 hp2
    have q30 := q3.1
    have hi : r3.toNat < vs2.length := by have := q3.2; omega
    obtain ⟨dd, hdd, hvdd⟩ := (hv2.ext hS22 x23).get (List.getElem?_eq_getElem hi)
    obtain ⟨o1, o2⟩ := odd1 u0 u1 (List.mem_of_getElem? hdd)
    refine ⟨p2, _, _, _, rfl, rfl, SqL.of hp23, at_of (j := r3.toNat) (by omega) (List.getElem?_eq_getElem hi), st, 0, _, dd, rfl, hvdd, okT0 o2, fun x3 H24 s24 hx3 => ?_⟩
    refine ⟨by show 2 ≤ sizeLine; decide, fun t5 ht5 => ⟨st, x3, .ref t5, _, rfl, by rw [told_bad o1] at hx3; exact hx3.same (Same.new ht5), .tup (SqT.of upd_same) (.cons (.str _) (.cons (.str _) .nil)), fit_two _ _, fun H25 s25 => ⟨_, rfl, iteF ?_⟩⟩⟩
    have x2025 : Ext st H20 H25 := ((Ext.ofSame hS20 (t21.trans t22)).trans x23).trans (Ext.ofSame x23.at_ ((s24.trans (Same.new ht5)).trans s25))
    have x325 := (x317.trans (Ext.ofSame hS17 s20)).trans x2025
    have hS25 := x325.at_
    have hq25 := sqT_ext hS2 x325 hq
    have hvd25 := hvd.ext hS2 x325
    have vone : Val K st H25 (.ref p1) (.tup [.int n, .int d]) := RatV.val ⟨p1, rfl, hq25⟩
    try dsimp only [gName, tNext]
    refine asg_of' ?_
    refine GvL.lst (K := K) (st := st) hS25 (.cons .non (.cons (Gv.var rfl fun _ => .int _) (.cons .bl (.cons (Gv.varH rfl vone) (.cons (.lst hS25 (.cons (Gv.var rfl fun _ => .str _) .nil) (Nat.le_of_ble_eq_true rfl)) (.cons (.tup (.cons (Gv.var rfl fun _ => .str _) .nil) (Nat.le_of_ble_eq_true rfl)) (.cons (.dct hS25) (.cons (.lst hS25 .nil (Nat.le_of_ble_eq_true rfl)) (.cons .int .nil))))))))) (Nat.le_of_ble_eq_true rfl) H25 (Same.refl H25) _ (fun p6 vs6 H26 t26 np6 hp6 hv6 => ?_)
    have hS26 := hS25.same t26
    try dsimp only [gName, tNext]
    have l9 : vs6.length = 9 := hv6.length
    refine ⟨_, rfl, _, rfl, _, rfl, p6, vs6, rfl, .inl (SqL.of hp6), st, _, rfl, hS26, lim124s (by rw [l9]; decide), fun r4 H27 q4 x27 => ?_⟩
    have hp27 : H27 p6 = some (.lst vs6) := x27.old _ _ np6 hp6
    have q40 := q4.1
    have hi4 : r4.toNat < vs6.length := by have := q4.2; omega
    obtain ⟨de, hde, hvde⟩ := (hv6.ext hS26 x27).get (List.getElem?_eq_getElem hi4)
    have o3 := odd2 (u := u) (n := n) (d := d) (t := text) (List.mem_of_getElem? hde)
    refine ⟨p6, _, _, _, rfl, rfl, SqL.of hp27, at_of (j := r4.toNat) (by omega) (List.getElem?_eq_getElem hi4), st, 1, _, de, rfl, hvde, okT1' (fun z e => absurd e (o3 z)), fun x4 H28 s28 hx4 => ?_⟩
    refine ⟨by show 2 ≤ sizeLine; decide, fun t6 ht6 => ⟨st, x4, .ref t6, _, rfl, by rw [told_odd (by decide) o3] at hx4; exact hx4.same (Same.new ht6), .tup (SqT.of upd_same) (.cons (.str _) (.cons (.str _) .nil)), fit_two _ _, fun H29 s29 => ⟨_, rfl, iteF ?_⟩⟩⟩
    have x329 : Ext st H3' H29 := ((x325.trans (Ext.ofSame hS25 t26)).trans x27).trans (Ext.ofSame x27.at_ ((s28.trans (Same.new ht6)).trans s29))
    have hq29 := sqT_ext hS2 x329 hq
    have hvd29 := hvd.ext hS2 x329
    refine chk (st := st) (Gv.var rfl fun _ => .str _) (okT1 (by omega)) tr (Gv.one (Gv.varH rfl hvd29.val)) (fit_rd _) (fun H30 s30 => ⟨_, rfl, iteT ?_⟩)
    exact chk (st := st) (Gv.varH rfl (RatV.val ⟨p1, rfl, sqT_same s30 hq29⟩)) (okT0 (bt_pair ln ld)) tw (Gv.one (Gv.var rfl fun _ => .str _)) (fit_str _) (fun H31 _ => k H31)
end
end K00

set_option Elab.async false
set_option linter.all false
set_option maxRecDepth 100000
set_option maxHeartbeats 4000000
namespace K00
open PySem L2
/-! ### the head: facts by names, one run -/
section
open PySem.W
variable {K : Frag}
/-- an __init__ of a class of the program -/
structure IniD where
  cls : Str
  qual : Str
  params : Arguments
  body : List Stmt
  scope : Scope
  dfl : List V := []
abbrev FnI : Type := Option (Str × Str × Arguments × FuncBody × Scope × Addr × Addr)
def IniD.at_ (K : Frag) (d : IniD) : Addr := He.ma K (He.ga K d.cls) "__init__"
def IniD.obs (K : Frag) (d : IniD) : FnI := match K.lookup (d.at_ K) with
  | some ⟨_, _, .func fd, _⟩ => some (fd.name, fd.qualname, fd.params, fd.body, fd.scope, fd.globals, fd.builtins)
  | _ => none
def IniD.val (d : IniD) : FnI := some (("__init__" : Str), d.qual, d.params, .stmts d.body, d.scope, mainGlobals, builtinsNs)
def fileB (K : Frag) (cda : Addr) (file : Str) : Bool := match K.lookup cda with
  | some ⟨_, _, .fields vs, _⟩ => (match (vs[2]? : Option Value) with
    | some (.str fl _) => file == fl
    | _ => false)
  | _ => false
def cellB (K : Frag) (cc C : Addr) : Bool := match K.lookup cc with
  | some ⟨_, _, .cell (some (.ref D)), _⟩ => D == C
  | _ => false
def cloB (K : Frag) (C : Addr) (file qual : Str) (cl : List (Str × Addr)) (cd : Value) : Bool := match cl, cd with
  | [(x, cc)], .ref cda => x == "__class__" && codeIn K (.ref cda) qual && fileB K cda file && cellB K cc C && (clsIn K C).isSome
  | _, _ => false
def IniD.ok (K : Frag) (file : Str) (d : IniD) : Bool := match K.lookup (d.at_ K) with
  | some ⟨_, _, .func fd, _⟩ => cloB K (He.ga K d.cls) file d.qual fd.closure fd.code && He.dflB K fd.defaults d.dfl
  | _ => false
theorem fileB_ok {cda : Addr} {file : Str} (h : fileB K cda file = true) : ∃ ccl cdd vs ccs fl tf, K.lookup cda = some ⟨ccl, cdd, .fields vs, ccs⟩ ∧ vs[2]? = some (.str fl tf) ∧ (file == fl) = true := by
  unfold fileB at h
  split at h
  · rename_i ho
    split at h
    · rename_i hv
      exact ⟨_, _, _, _, _, _, ho, hv, h⟩
    · cases h
  · cases h
theorem cellB_ok {cc C : Addr} (h : cellB K cc C = true) : ∃ cl cld csl, K.lookup cc = some ⟨cl, cld, .cell (some (.ref C)), csl⟩ := by
  unfold cellB at h
  split at h
  · rename_i ho
    rw [beq_iff_eq.mp h] at ho
    exact ⟨_, _, _, ho⟩
  · cases h
theorem IniD.raw {d : IniD} {file : Str} {st : Stmt} (e : d.obs K = d.val) (c : d.ok K file = true) (ep : d.params = defArgs st) (eb : d.body = defBody st) (es : d.scope = defScope st) :
    ∃ (oc : Value) (od : Option Addr) (dV kV doc pm : Value) (an : Option Addr) (cda : Addr) (ct : Value) (cc : Addr) (osl : Array (Option Value)) (ccl : Value) (cdd : Option Addr) (vs : Array Value) (ccs : Array (Option Value)) (fl : Str) (tf : Tok) (cl : Value) (cld : Option Addr) (csl : Array (Option Value)) (cdD : ClassData),
      K.lookup (d.at_ K) = some ⟨oc, od, .func (ksFn "__init__" d.qual (defArgs st) (defBody st) (defScope st) dV kV doc pm an (.ref cda) ct cc), osl⟩ ∧ codeIn K (.ref cda) d.qual = true ∧ K.lookup cda = some ⟨ccl, cdd, .fields vs, ccs⟩ ∧ vs[2]? = some (.str fl tf) ∧ (file == fl) = true ∧
      K.lookup cc = some ⟨cl, cld, .cell (some (.ref (He.ga K d.cls))), csl⟩ ∧ clsIn K (He.ga K d.cls) = some cdD ∧ DflV K dV d.dfl := by
  unfold IniD.obs at e
  unfold IniD.ok at c
  cases q : K.lookup (d.at_ K) with
  | none => rw [q] at c; cases c
  | some o =>
    obtain ⟨oc, od, dt, osl⟩ := o
    rw [q] at c e
    cases dt with
    | func fd =>
      obtain ⟨n1, n2, n3, n4, n5, n6, n7, n8, n9, n10, n11, n12, n13, n14, n15⟩ := fd
      have e2 : (some (n1, n2, n3, n4, n5, n6, n15) : FnI) = some (("__init__" : Str), d.qual, d.params, .stmts d.body, d.scope, mainGlobals, builtinsNs) := e
      simp only [Option.some.injEq, Prod.mk.injEq] at e2
      obtain ⟨h1, h2, h3, h4, h5, h6, h8⟩ := e2
      subst h1 h2 h3 h4 h5 h6 h8
      have c3 : (cloB K (He.ga K d.cls) file d.qual n7 n13 && He.dflB K n8 d.dfl) = true := c
      obtain ⟨k1, k2⟩ := He.ba c3
      unfold cloB at k1
      split at k1
      · rename_i x cc cda
        simp only [Bool.and_eq_true, beq_iff_eq] at k1
        obtain ⟨⟨⟨⟨k3, k4⟩, k5⟩, k6⟩, k7⟩ := k1
        subst k3
        obtain ⟨ccl, cdd, vs, ccs, fl, tf, l1, l2, l3⟩ := fileB_ok k5
        obtain ⟨cl, cld, csl, l4⟩ := cellB_ok k6
        obtain ⟨cdD, l5⟩ := Option.isSome_iff_exists.mp k7
        rw [ep, eb, es]
        exact ⟨oc, od, n8, n9, n10, n11, n12, cda, n14, cc, osl, ccl, cdd, vs, ccs, fl, tf, cl, cld, csl, cdD, rfl, k4, l1, l2, l3, l4, l5, He.dflB_ok k2⟩
      · cases k1
    | _ => cases c
theorem IniD.initF {P : Program} {d : IniD} {mg : Str → Option Value} {st : Stmt} (e : d.obs K = d.val) (c : d.ok K P.main.file = true) (ep : d.params = defArgs st) (eb : d.body = defBody st) (es : d.scope = defScope st)
    (su : mg "super" = none) (tp : nsIn K cStatics "thirdparty.any" = some none) (top : (P.main.scope.names.lookup ("super" : Str)).isSome = false) : ∃ fd dV, InitF P K mg st d.qual (He.ga K d.cls) (d.at_ K) fd ∧ DflV K dV d.dfl ∧
      ∃ (kV doc pm ct : Value) (an : Option Addr) (cda cc : Addr), fd = ksFn "__init__" d.qual (defArgs st) (defBody st) (defScope st) dV kV doc pm an (.ref cda) ct cc := by
  obtain ⟨oc, od, n8, n9, n10, n11, n12, cda, n14, cc, osl, ccl, cdd, vs, ccs, fl, tf, cl, cld, csl, cdD, q, k4, l1, l2, l3, l4, l5, k2⟩ := d.raw e c ep eb es
  exact ⟨_, n8, ⟨⟨oc, od, n8, n9, n10, n11, n12, cda, n14, cc, osl, ccl, cdd, vs, ccs, fl, tf, cl, cld, csl, cdD, rfl, q, k4, l1, l2, l3, l4, l5⟩, su, tp, top⟩, k2, n9, n10, n11, n14, n12, cda, cc, rfl⟩
/-! a class of errors -/
def clsB (K : Frag) (C : Addr) : Bool := match K.lookup C with
  | some ⟨.type "type", _, .cls cd, sl⟩ => (match cd.mro, sl.toList with
    | .ref C' :: bm, [_, _, _, _, some (.builtin n), _] => C' == C && n == "ValueError.__new__" && !cd.hasDel && cd.hasDict && PySem.HandSPX.refsVE bm
    | _, _ => false)
  | _ => false
theorem clsB_ok {C : Addr} (q : clsB K C = true) : ∃ nm q N bs bm sn sub ab col dd k0 k1 k2 k3 k5, K.lookup C = some (excClassObj nm q C N bs bm true sn sub ab col dd k0 k1 k2 k3 k5 "ValueError.__new__") ∧ PySem.HandSPX.refsVE bm = true := by
  unfold clsB at q
  split at q
  · rename_i dd cd sl ho
    split at q
    · rename_i C' bm k0 k1 k2 k3 n k5 hm hs
      simp only [Bool.and_eq_true, beq_iff_eq, Bool.not_eq_true'] at q
      obtain ⟨⟨⟨⟨rfl, rfl⟩, hdel⟩, hd⟩, ht⟩ := q
      obtain ⟨nm, bs, mro, ns, qn, hdd, sn, sub, ab, col, del⟩ := cd
      dsimp only at hm hdel hd
      subst hm hdel hd
      have hsl : sl = #[k0, k1, k2, k3, some (.builtin "ValueError.__new__"), k5] := by
        obtain ⟨l⟩ := sl
        simp only at hs
        rw [hs]
      subst hsl
      exact ⟨nm, qn, ns, bs, bm, sn, sub, ab, col, dd, k0, k1, k2, k3, k5, ho, ht⟩
    · cases q
  · cases q
/-- what is asked of a class whose errors are made; D its class with the __init__ -/
def errB (K : Frag) (C D : Addr) (flds : List Str) : Bool := clsB K C && (
  decide (findIn K (.ref C) "__setattr__" = some (some (.builtin "object.__setattr__"))) && (decide (findIn K (.ref C) "__getattribute__" = some (some (.builtin "BaseException.__getattribute__"))) && (decide (findIn K (.ref C) "__getattr__" = some none) && (
  (flds.all fun f => decide (findIn K (.ref C) f = some none)) && (keepIn K (.ref C) && (decide (subIn K (.ref C) (.type "BaseException") = some true) && (decide (typeIn K (.ref C) = some (.type "type")) && (hasDictIn K C && (
  decide (findIn K (.ref C) "__class__" = some (some (.builtin "object.__class__"))) && (decide (mroIn K C (.type "object") = some true) && (decide (mroIn K C (.ref D) = some true) && (decide (subIn K (.ref C) (.type "ValueError") = some true) && (
  decide (ks_superIn K C D "__init__" = some (some (.builtin "ValueError.__init__"))) && (decide (findIn K (.ref C) "__init__" = some (some (.ref (He.ma K D "__init__")))) && (decide (typeIn K (.ref (He.ma K D "__init__")) = some (.type "function")) && (
  decide (specialIn K (.builtin "object.__class__") "__get__" = some (some (.builtin "getset_descriptor.__get__"))) && decide (takesIn K (.builtin "object.__class__") = some true)))))))))))))))))
structure ErrK (K : Frag) (C D : Addr) (flds : List Str) : Prop where
  oex : OexC K C
  exc : L2.ExcC K C
  xf : XfC K C
  of_ : ExcOf K D C
  no : ∀ f ∈ flds, findIn K (.ref C) f = some none
  ini : findIn K (.ref C) "__init__" = some (some (.ref (He.ma K D "__init__")))
  ti : typeIn K (.ref (He.ma K D "__init__")) = some (.type "function")
theorem errB_ok {C D : Addr} {flds : List Str} (h : errB K C D flds = true) : ErrK K C D flds := by
  unfold errB at h
  simp only [Bool.and_eq_true, decide_eq_true_eq, List.all_eq_true] at h
  obtain ⟨a1, a2, a3, a4, a5, a6, a7, a8, a9, a10, a11, a12, a13, a14, a15, a16, a17, a18⟩ := h
  have O : OexC K C := ⟨clsB_ok a1, a2, a7, a8, a6⟩
  exact ⟨O, ⟨a3, a4, a7, a9, a10, a17, a18, a11⟩, ⟨a3, a4, a7, a9⟩, ⟨O, a12, a14, a13⟩, a5, a15, a16⟩
/-! the Hook -/
abbrev AlX : Type := Bool × List He.FnW × List FnI
def obsX (file : Str) (chk : List (Frag → Bool)) (fn : List He.DefD) (ini : List IniD) (K : Frag) : AlX := ((chk.all fun f => f K) && ((fn.all fun d => d.ok K) && ini.all fun d => d.ok K file), fn.map fun d => He.fnW K d.at_, ini.map fun d => d.obs K)
def valX (fn : List He.DefD) (ini : List IniD) : AlX := (true, fn.map He.DefD.val, ini.map IniD.val)
def SaysX (file : Str) (chk : List (Frag → Bool)) (fn : List He.DefD) (ini : List IniD) (K : Frag) : Prop := obsX file chk fn ini K = valX fn ini
def asX (g : Addr → Option Obj) (n : Nat) : List Addr := He.asD g n ++ [cStatics]
def obsXG (n : Nat) (file : Str) (chk : List (Frag → Bool)) (fn : List He.DefD) (ini : List IniD) (g : Addr → Option Obj) : AlX := obsX file chk fn ini (He.frG g (asX g n))
def hookX (n : Nat) (file : Str) (chk : List (Frag → Bool)) (fn : List He.DefD) (ini : List IniD) : Hook where
  α := AlX
  obs := fun s => obsXG n file chk fn ini s.heap.get?
  val := fun _ => valX fn ini
  says := fun _ h => ∃ K : Frag, K.In h ∧ SaysX file chk fn ini K
  of := fun _ _ e => ⟨_, He.frG_in, e⟩
  keeps := fun _ _ _ ⟨K, hK, c⟩ k => ⟨K, Frag.In.keeps hK k, c⟩
theorem obsXG_eq {n : Nat} {file : Str} {chk : List (Frag → Bool)} {fn : List He.DefD} {ini : List IniD} {g : Addr → Option Obj} {s : Shared} (h : ∀ a, g a = s.heap.get? a) : obsXG n file chk fn ini g = (hookX n file chk fn ini).obs s := by
  have e : g = s.heap.get? := funext h
  rw [e] <;> rfl
variable {file : Str} {chk : List (Frag → Bool)} {fn : List He.DefD} {ini : List IniD}
theorem SaysX.all (c : SaysX file chk fn ini K) : (chk.all fun f => f K) = true ∧ (fn.all fun d => d.ok K) = true ∧ (ini.all fun d => d.ok K file) = true := by
  have c1 := He.ba (show ((chk.all fun f => f K) && ((fn.all fun d => d.ok K) && ini.all fun d => d.ok K file)) = true from congrArg (fun z : AlX => z.1) c)
  exact ⟨c1.1, (He.ba c1.2).1, (He.ba c1.2).2⟩
theorem SaysX.fact (c : SaysX file chk fn ini K) (i : Nat) {f : Frag → Bool} (h : chk[i]? = some f := by rfl) : f K = true := List.all_eq_true.mp c.all.1 f (List.mem_of_getElem? h)
theorem SaysX.def_ (c : SaysX file chk fn ini K) (i : Nat) {d : He.DefD} (h : fn[i]? = some d := by rfl) : ∃ fd, FunD K d.name d.qual d.params d.body d.scope (d.dvs K) (d.kws K) (He.fAd K d.at_) fd := by
  have e : fn.map (fun d => He.fnW K d.at_) = fn.map He.DefD.val := congrArg (fun z : AlX => z.2.1) c
  have e2 : (fn.map fun d => He.fnW K d.at_)[i]? = (fn.map He.DefD.val)[i]? := by rw [e]
  rw [List.getElem?_map, List.getElem?_map, h] at e2
  exact He.DefD.funD (Option.some.inj e2) (List.all_eq_true.mp c.all.2.1 d (List.mem_of_getElem? h))
theorem SaysX.ini_ (c : SaysX file chk fn ini K) (i : Nat) {d : IniD} (h : ini[i]? = some d := by rfl) : d.obs K = d.val ∧ d.ok K file = true := by
  have e : ini.map (fun d => d.obs K) = ini.map IniD.val := congrArg (fun z : AlX => z.2.2) c
  have e2 : (ini.map fun d => d.obs K)[i]? = (ini.map IniD.val)[i]? := by rw [e]
  rw [List.getElem?_map, List.getElem?_map, h] at e2
  exact ⟨Option.some.inj e2, List.all_eq_true.mp c.all.2.2 d (List.mem_of_getElem? h)⟩
theorem SaysX.fun_ (c : SaysX file chk fn ini K) (i : Nat) {x : Str} {st : Stmt} (h : fn[i]? = some ⟨(x, none), x, x, defArgs st, defBody st, defScope st, [], []⟩ := by rfl) : ∃ fd, Fun K x x st (He.ga K x) fd := by
  obtain ⟨fd, F⟩ := c.def_ i h
  obtain ⟨oc, od, dV, kV, doc, pm, an, cdv, ct, osl, e, l, c, dd, _⟩ := F.ex
  have dn : dV = .none := by
    rcases dd with ⟨_, d⟩ | ⟨d, _⟩
    · exact d
    · exact absurd rfl d
  subst dn
  exact ⟨fd, ⟨⟨oc, od, kV, doc, pm, an, cdv, ct, osl, e, l, c⟩, F.kp⟩⟩
end
/-- the names that stand for what they are -/
def gloB (x : Str) (K : PySem.W.Frag) : Bool := decide (PySem.W.nsIn K mainGlobals x = some (some (.ref (He.ga K x))))
def freB (x : Str) (K : PySem.W.Frag) : Bool := decide (PySem.W.nsIn K mainGlobals x = some none)
def staB (x : Str) (K : PySem.W.Frag) : Bool := decide (PySem.W.nsIn K cStatics x = some none)
/-- isinstance, asked of an error of the class C -/
def kitB' (C x : Str) (b : Bool) (K : PySem.W.Frag) : Bool := decide (PySem.W.kitOne K (.ref (He.ga K C)) (.ref (He.ga K x)) = some b)
def kitT (C : Str) (T : String) (b : Bool) (K : PySem.W.Frag) : Bool := decide (PySem.W.kitOne K (.ref (He.ga K C)) (.type T) = some b)
def exmB (C x : Str) (K : PySem.W.Frag) : Bool := decide (PySem.W.exmOne K (.ref (He.ga K C)) (.ref (He.ga K x)) = some true)
end K00

set_option Elab.async false
set_option linter.all false
set_option maxRecDepth 100000
set_option maxHeartbeats 8000000
namespace K00
open PySem L2
section
open PySem.W PySem.Calls PyProof.Rows
theorem callee_of {P : Program} {w : World} {K : PySem.W.Frag} {mg : Str → Option Value} {base : Heap} {CX : CXT} {k : Nat} {x : Str} {st : Stmt} {f : Addr} {fd : FuncData} {ps : List Str} {sp : Sp} (F : Fun K x x st f fd) (hm : mg x = some (.ref f)) (b : Binds K fd ps []) (ok : FnOk P w K mg base CX k f fd ps sp) : Callee P w K mg base CX k x ps sp := ⟨f, fd, ok, hm, F.kp, b⟩
theorem calleeR_of {P : Program} {w : World} {K : PySem.W.Frag} {mg : Str → Option Value} {base : Heap} {k : Nat} {x : Str} {st : Stmt} {f : Addr} {fd : FuncData} {ps : List Str} {sp : Sp} (F : Fun K x x st f fd) (hm : mg x = some (.ref f)) (b : Binds K fd ps []) (ok : FnOk P w K mg base (L2N.CX P w) k f fd ps sp) : CalleeR P w K mg base k x ps [] sp := ⟨f, fd, [], ok, hm, F.kp, .nil, b⟩
theorem dfl_nil {K : Frag} {dV : Value} (h : DflV K dV []) : dV = .none := by
  rcases h with ⟨_, d⟩ | ⟨d, _⟩
  · exact d
  · exact absurd rfl d
def gcdB (K : Frag) : Bool := decide (nsIn K mainGlobals "gcd" = some (some (.builtin "math.gcd")))
def mdB (K : Frag) : Bool := match nsIn K mainGlobals "MOST_DIGITS" with
  | some (some (.int i _)) => i == 400
  | _ => false
theorem mdB_ok {K : Frag} (h : mdB K = true) : ∃ t, nsIn K mainGlobals "MOST_DIGITS" = some (some (.int 400 t)) := by
  unfold mdB at h
  split at h
  · rename_i i t e
    rw [e, beq_iff_eq.mp h]
    exact ⟨_, rfl⟩
  · cases h
def dgB (K : Frag) : Bool := match nsIn K mainGlobals "DIGITS" with
  | some (some (.str z _)) => z == ("0123456789" : Str)
  | _ => false
theorem dgB_ok {K : Frag} (h : dgB K = true) : ∃ t, nsIn K mainGlobals "DIGITS" = some (some (.str "0123456789" t)) := by
  unfold dgB at h
  split at h
  · rename_i z t e
    rw [e, beq_iff_eq.mp h]
    exact ⟨_, rfl⟩
  · cases h
end
open PySem.W
def mainFile : Str := "/claim/cut.py"
def refY (g : Addr → Option Obj) (a : Addr) : List Addr := match g a with
  | some o => (match o.data with
    | .func fd => He.refV fd.code ++ (He.refV fd.defaults ++ fd.closure.map (·.2))
    | .cls cd => [cd.ns]
    | _ => [])
  | none => []
def valY (g : Addr → Option Obj) (a : Addr) : List Addr := match g a with
  | some o => (match o.data with
    | .dict es _ => es.toList.flatMap fun e => He.refV e.val
    | _ => [])
  | none => []
/-- the module's names, their codes and spaces, the functions of the spaces and what is theirs -/
def asY (g : Addr → Option Obj) : List Addr := mainGlobals :: cStatics :: ((valY g mainGlobals) ++ ((valY g mainGlobals).flatMap (fun a => refY g a ++ (refY g a).flatMap fun b => valY g b ++ (valY g b).flatMap (refY g))))
def obsYG (file : Str) (chk : List (Frag → Bool)) (fn : List He.DefD) (ini : List IniD) (g : Addr → Option Obj) : AlX := obsX file chk fn ini (He.frG g (asY g))
def hookY (file : Str) (chk : List (Frag → Bool)) (fn : List He.DefD) (ini : List IniD) : Hook where
  α := AlX
  obs := fun s => obsYG file chk fn ini s.heap.get?
  val := fun _ => valX fn ini
  says := fun _ h => ∃ K : Frag, K.In h ∧ SaysX file chk fn ini K
  of := fun _ _ e => ⟨_, He.frG_in, e⟩
  keeps := fun _ _ _ ⟨K, hK, c⟩ k => ⟨K, Frag.In.keeps hK k, c⟩
abbrev pL : Program := (PySem.Challenge.rw_standframes_k62_numbers_written_and_read.prog)
theorem file_eq : pL.main.file = mainFile := by kernel_rfl
theorem no_super : (pL.main.scope.names.lookup ("super" : Str)).isSome = false := by kernel_rfl
def chkL : List (Frag → Bool) := [
  gloB "_told",
  gloB "is_integer",
  gloB "is_ratio",
  gloB "need_ratio",
  gloB "write_ratio",
  gloB "_whole",
  gloB "read_ratio",
  gloB "_law_store",
  gloB "_law_take",
  gloB "_law_tens",
  gloB "_law_low",
  gloB "_law_alike",
  gloB "_law_part",
  gloB "_law_number",
  gloB "_law_digits",
  gloB "_law_reading",
  gloB "_law_bent",
  gloB "_law_short",
  gloB "_law_long",
  gloB "_law_told",
  gloB "law",
  gloB "WrongKind",
  gloB "OutOfBounds",
  gloB "RepeatedName",
  gloB "UnknownName",
  gloB "BadText",
  gloB "UnfitError",
  gloB "FrameError",
  freB "len",
  freB "int",
  freB "max",
  freB "min",
  freB "list",
  freB "tuple",
  freB "isinstance",
  freB "range",
  freB "zip",
  freB "bool",
  freB "str",
  freB "dict",
  freB "any",
  freB "super",
  freB "ValueError",
  staB "sys.int_max_str_digits",
  staB "thirdparty.any",
  gcdB,
  mdB,
  dgB,
  kitB' "WrongKind" "WrongKind" true,
  kitB' "WrongKind" "OutOfBounds" false,
  kitB' "WrongKind" "RepeatedName" false,
  kitB' "WrongKind" "UnknownName" false,
  kitB' "WrongKind" "BadText" false,
  kitB' "WrongKind" "UnfitError" false,
  kitT "WrongKind" "ValueError" true,
  exmB "WrongKind" "FrameError",
  fun K => errB K (He.ga K "WrongKind") (He.ga K "WrongKind") ["argument"]]
def fnL : List He.DefD := [
  ⟨("_told", none), "_told", "_told", defArgs s_p_told, defBody s_p_told, defScope s_p_told, [], []⟩,
  ⟨("is_integer", none), "is_integer", "is_integer", defArgs s_p_is_integer, defBody s_p_is_integer, defScope s_p_is_integer, [], []⟩,
  ⟨("is_ratio", none), "is_ratio", "is_ratio", defArgs s_p_is_ratio, defBody s_p_is_ratio, defScope s_p_is_ratio, [], []⟩,
  ⟨("need_ratio", none), "need_ratio", "need_ratio", defArgs s_p_need_ratio, defBody s_p_need_ratio, defScope s_p_need_ratio, [], []⟩,
  ⟨("write_ratio", none), "write_ratio", "write_ratio", defArgs s_p_write_ratio, defBody s_p_write_ratio, defScope s_p_write_ratio, [], []⟩,
  ⟨("_whole", none), "_whole", "_whole", defArgs s_p_whole, defBody s_p_whole, defScope s_p_whole, [], []⟩,
  ⟨("read_ratio", none), "read_ratio", "read_ratio", defArgs s_p_read_ratio, defBody s_p_read_ratio, defScope s_p_read_ratio, [], []⟩,
  ⟨("_law_store", none), "_law_store", "_law_store", defArgs s_store, defBody s_store, defScope s_store, [], []⟩,
  ⟨("_law_take", none), "_law_take", "_law_take", defArgs s_take, defBody s_take, defScope s_take, [], []⟩,
  ⟨("_law_tens", none), "_law_tens", "_law_tens", defArgs s_tens, defBody s_tens, defScope s_tens, [], []⟩,
  ⟨("_law_low", none), "_law_low", "_law_low", defArgs s_low, defBody s_low, defScope s_low, [], []⟩,
  ⟨("_law_alike", none), "_law_alike", "_law_alike", defArgs s_alike, defBody s_alike, defScope s_alike, [], []⟩,
  ⟨("_law_part", none), "_law_part", "_law_part", defArgs s_part, defBody s_part, defScope s_part, [], []⟩,
  ⟨("_law_number", none), "_law_number", "_law_number", defArgs s_number, defBody s_number, defScope s_number, [], []⟩,
  ⟨("_law_digits", none), "_law_digits", "_law_digits", defArgs s_digits, defBody s_digits, defScope s_digits, [], []⟩,
  ⟨("_law_reading", none), "_law_reading", "_law_reading", defArgs s_reading, defBody s_reading, defScope s_reading, [], []⟩,
  ⟨("_law_bent", none), "_law_bent", "_law_bent", defArgs s_bent, defBody s_bent, defScope s_bent, [], []⟩,
  ⟨("_law_short", none), "_law_short", "_law_short", defArgs s_short, defBody s_short, defScope s_short, [], []⟩,
  ⟨("_law_long", none), "_law_long", "_law_long", defArgs s_long, defBody s_long, defScope s_long, [], []⟩,
  ⟨("_law_told", none), "_law_told", "_law_told", defArgs s_told, defBody s_told, defScope s_told, [], []⟩,
  ⟨("law", none), "law", "law", defArgs s_law, defBody s_law, defScope s_law, [], []⟩]
def iniL : List IniD := [
  ⟨"WrongKind", "WrongKind.__init__", defArgs s_p_wk_init, defBody s_p_wk_init, defScope s_p_wk_init, []⟩]
theorem factsL {w : World} {K : Frag} {h : Heap} {mg : Str → Option Value} {fa : Addr} (X : K.In h) (G : h.Ns mainGlobals mg) (hfa : mg "law" = some (.ref fa)) (c : SaysX mainFile chkL fnL iniL K) :
    ∃ fd : FuncData, (∀ (s : Shared) (v : Value), BindsTo s fd ⟨[v], []⟩ [("_law_script", v)]) ∧ ∀ base : Heap, K.In base → base.Ns mainGlobals mg → FnOk pL w K mg base CX0 129 fa fd ["_law_script"] (spLaw K) := by
  obtain ⟨fd_told, F_told⟩ := c.fun_ 0 (x := "_told") (st := s_p_told)
  have m_told : mg "_told" = some (.ref (He.ga K "_told")) := mg_of X G (of_decide_eq_true (c.fact 0))
  have b_told : Binds K fd_told ["value"] [] := F_told.binds fun _ _ _ _ _ _ us hl => match us, hl with | [_], _ => rfl
  obtain ⟨fd_isinteger, F_isinteger⟩ := c.fun_ 1 (x := "is_integer") (st := s_p_is_integer)
  have m_isinteger : mg "is_integer" = some (.ref (He.ga K "is_integer")) := mg_of X G (of_decide_eq_true (c.fact 1))
  have b_isinteger : Binds K fd_isinteger ["value"] [] := F_isinteger.binds fun _ _ _ _ _ _ us hl => match us, hl with | [_], _ => rfl
  obtain ⟨fd_isratio, F_isratio⟩ := c.fun_ 2 (x := "is_ratio") (st := s_p_is_ratio)
  have m_isratio : mg "is_ratio" = some (.ref (He.ga K "is_ratio")) := mg_of X G (of_decide_eq_true (c.fact 2))
  have b_isratio : Binds K fd_isratio ["value"] [] := F_isratio.binds fun _ _ _ _ _ _ us hl => match us, hl with | [_], _ => rfl
  obtain ⟨fd_needratio, F_needratio⟩ := c.fun_ 3 (x := "need_ratio") (st := s_p_need_ratio)
  have m_needratio : mg "need_ratio" = some (.ref (He.ga K "need_ratio")) := mg_of X G (of_decide_eq_true (c.fact 3))
  have b_needratio : Binds K fd_needratio ["value", "argument"] [] := F_needratio.binds fun _ _ _ _ _ _ us hl => match us, hl with | [_, _], _ => rfl
  obtain ⟨fd_writeratio, F_writeratio⟩ := c.fun_ 4 (x := "write_ratio") (st := s_p_write_ratio)
  have m_writeratio : mg "write_ratio" = some (.ref (He.ga K "write_ratio")) := mg_of X G (of_decide_eq_true (c.fact 4))
  have b_writeratio : Binds K fd_writeratio ["one"] [] := F_writeratio.binds fun _ _ _ _ _ _ us hl => match us, hl with | [_], _ => rfl
  obtain ⟨fd_whole, F_whole⟩ := c.fun_ 5 (x := "_whole") (st := s_p_whole)
  have m_whole : mg "_whole" = some (.ref (He.ga K "_whole")) := mg_of X G (of_decide_eq_true (c.fact 5))
  have b_whole : Binds K fd_whole ["digits"] [] := F_whole.binds fun _ _ _ _ _ _ us hl => match us, hl with | [_], _ => rfl
  obtain ⟨fd_readratio, F_readratio⟩ := c.fun_ 6 (x := "read_ratio") (st := s_p_read_ratio)
  have m_readratio : mg "read_ratio" = some (.ref (He.ga K "read_ratio")) := mg_of X G (of_decide_eq_true (c.fact 6))
  have b_readratio : Binds K fd_readratio ["word"] [] := F_readratio.binds fun _ _ _ _ _ _ us hl => match us, hl with | [_], _ => rfl
  obtain ⟨fd_lstore, F_lstore⟩ := c.fun_ 7 (x := "_law_store") (st := s_store)
  have m_lstore : mg "_law_store" = some (.ref (He.ga K "_law_store")) := mg_of X G (of_decide_eq_true (c.fact 7))
  have b_lstore : Binds K fd_lstore ["_law_script"] [] := F_lstore.binds fun _ _ _ _ _ _ us hl => match us, hl with | [_], _ => rfl
  obtain ⟨fd_ltake, F_ltake⟩ := c.fun_ 8 (x := "_law_take") (st := s_take)
  have m_ltake : mg "_law_take" = some (.ref (He.ga K "_law_take")) := mg_of X G (of_decide_eq_true (c.fact 8))
  have b_ltake : Binds K fd_ltake ["_law_store_here", "_law_many"] [] := F_ltake.binds fun _ _ _ _ _ _ us hl => match us, hl with | [_, _], _ => rfl
  obtain ⟨fd_ltens, F_ltens⟩ := c.fun_ 9 (x := "_law_tens") (st := s_tens)
  have m_ltens : mg "_law_tens" = some (.ref (He.ga K "_law_tens")) := mg_of X G (of_decide_eq_true (c.fact 9))
  have b_ltens : Binds K fd_ltens ["_law_figures"] [] := F_ltens.binds fun _ _ _ _ _ _ us hl => match us, hl with | [_], _ => rfl
  obtain ⟨fd_llow, F_llow⟩ := c.fun_ 10 (x := "_law_low") (st := s_low)
  have m_llow : mg "_law_low" = some (.ref (He.ga K "_law_low")) := mg_of X G (of_decide_eq_true (c.fact 10))
  have b_llow : Binds K fd_llow ["_law_up", "_law_down"] [] := F_llow.binds fun _ _ _ _ _ _ us hl => match us, hl with | [_, _], _ => rfl
  obtain ⟨fd_lalike, F_lalike⟩ := c.fun_ 11 (x := "_law_alike") (st := s_alike)
  have m_lalike : mg "_law_alike" = some (.ref (He.ga K "_law_alike")) := mg_of X G (of_decide_eq_true (c.fact 11))
  have b_lalike : Binds K fd_lalike ["_law_got", "_law_due"] [] := F_lalike.binds fun _ _ _ _ _ _ us hl => match us, hl with | [_, _], _ => rfl
  obtain ⟨fd_lpart, F_lpart⟩ := c.fun_ 12 (x := "_law_part") (st := s_part)
  have m_lpart : mg "_law_part" = some (.ref (He.ga K "_law_part")) := mg_of X G (of_decide_eq_true (c.fact 12))
  have b_lpart : Binds K fd_lpart ["_law_store_here"] [] := F_lpart.binds fun _ _ _ _ _ _ us hl => match us, hl with | [_], _ => rfl
  obtain ⟨fd_lnumber, F_lnumber⟩ := c.fun_ 13 (x := "_law_number") (st := s_number)
  have m_lnumber : mg "_law_number" = some (.ref (He.ga K "_law_number")) := mg_of X G (of_decide_eq_true (c.fact 13))
  have b_lnumber : Binds K fd_lnumber ["_law_store_here"] [] := F_lnumber.binds fun _ _ _ _ _ _ us hl => match us, hl with | [_], _ => rfl
  obtain ⟨fd_ldigits, F_ldigits⟩ := c.fun_ 14 (x := "_law_digits") (st := s_digits)
  have m_ldigits : mg "_law_digits" = some (.ref (He.ga K "_law_digits")) := mg_of X G (of_decide_eq_true (c.fact 14))
  have b_ldigits : Binds K fd_ldigits ["_law_text"] [] := F_ldigits.binds fun _ _ _ _ _ _ us hl => match us, hl with | [_], _ => rfl
  obtain ⟨fd_lreading, F_lreading⟩ := c.fun_ 15 (x := "_law_reading") (st := s_reading)
  have m_lreading : mg "_law_reading" = some (.ref (He.ga K "_law_reading")) := mg_of X G (of_decide_eq_true (c.fact 15))
  have b_lreading : Binds K fd_lreading ["_law_text"] [] := F_lreading.binds fun _ _ _ _ _ _ us hl => match us, hl with | [_], _ => rfl
  obtain ⟨fd_lbent, F_lbent⟩ := c.fun_ 16 (x := "_law_bent") (st := s_bent)
  have m_lbent : mg "_law_bent" = some (.ref (He.ga K "_law_bent")) := mg_of X G (of_decide_eq_true (c.fact 16))
  have b_lbent : Binds K fd_lbent ["_law_store_here", "_law_text"] [] := F_lbent.binds fun _ _ _ _ _ _ us hl => match us, hl with | [_, _], _ => rfl
  obtain ⟨fd_lshort, F_lshort⟩ := c.fun_ 17 (x := "_law_short") (st := s_short)
  have m_lshort : mg "_law_short" = some (.ref (He.ga K "_law_short")) := mg_of X G (of_decide_eq_true (c.fact 17))
  have b_lshort : Binds K fd_lshort ["_law_store_here"] [] := F_lshort.binds fun _ _ _ _ _ _ us hl => match us, hl with | [_], _ => rfl
  obtain ⟨fd_llong, F_llong⟩ := c.fun_ 18 (x := "_law_long") (st := s_long)
  have m_llong : mg "_law_long" = some (.ref (He.ga K "_law_long")) := mg_of X G (of_decide_eq_true (c.fact 18))
  have b_llong : Binds K fd_llong ["_law_store_here"] [] := F_llong.binds fun _ _ _ _ _ _ us hl => match us, hl with | [_], _ => rfl
  obtain ⟨fd_ltold, F_ltold⟩ := c.fun_ 19 (x := "_law_told") (st := s_told)
  have m_ltold : mg "_law_told" = some (.ref (He.ga K "_law_told")) := mg_of X G (of_decide_eq_true (c.fact 19))
  have b_ltold : Binds K fd_ltold ["_law_way", "_law_thing"] [] := F_ltold.binds fun _ _ _ _ _ _ us hl => match us, hl with | [_, _], _ => rfl
  obtain ⟨fd_law, F_law⟩ := c.fun_ 20 (x := "law") (st := s_law)
  have m_law : mg "law" = some (.ref (He.ga K "law")) := mg_of X G (of_decide_eq_true (c.fact 20))
  have b_law : Binds K fd_law ["_law_script"] [] := F_law.binds fun _ _ _ _ _ _ us hl => match us, hl with | [_], _ => rfl
  have T : TxtW K mg := ⟨⟨⟨⟨mg_none_of X G (of_decide_eq_true (c.fact 28)), mg_none_of X G (of_decide_eq_true (c.fact 29)), mg_none_of X G (of_decide_eq_true (c.fact 30)), mg_none_of X G (of_decide_eq_true (c.fact 31)), mg_none_of X G (of_decide_eq_true (c.fact 32)), mg_none_of X G (of_decide_eq_true (c.fact 33)), mg_none_of X G (of_decide_eq_true (c.fact 34)), mg_none_of X G (of_decide_eq_true (c.fact 35)), mg_none_of X G (of_decide_eq_true (c.fact 36)), mg_none_of X G (of_decide_eq_true (c.fact 37)), mg_none_of X G (of_decide_eq_true (c.fact 38)), mg_none_of X G (of_decide_eq_true (c.fact 39))⟩, (of_decide_eq_true (c.fact 43))⟩, mg_of X G (of_decide_eq_true (c.fact 45)), mg_none_of X G (of_decide_eq_true (c.fact 40))⟩, (mdB_ok (c.fact 46)).elim fun t e => ⟨t, mg_of X G e⟩, (dgB_ok (c.fact 47)).elim fun t e => ⟨t, mg_of X G e⟩⟩
  have Pt := T.toTxtP
  have D := Pt.toTxtD
  have C0 := D.toTxt
  have g_W : mg "WrongKind" = some (.ref (He.ga K "WrongKind")) := mg_of X G (of_decide_eq_true (c.fact 21))
  have e_W := errB_ok (c.fact 56)
  have A_W : AskW K mg (He.ga K "WrongKind") := ⟨⟨_, mg_of X G (of_decide_eq_true (c.fact 21)), (of_decide_eq_true (c.fact 48))⟩, ⟨_, mg_of X G (of_decide_eq_true (c.fact 22)), (of_decide_eq_true (c.fact 49))⟩, ⟨_, mg_of X G (of_decide_eq_true (c.fact 23)), (of_decide_eq_true (c.fact 50))⟩, ⟨_, mg_of X G (of_decide_eq_true (c.fact 24)), (of_decide_eq_true (c.fact 51))⟩, ⟨_, mg_of X G (of_decide_eq_true (c.fact 25)), (of_decide_eq_true (c.fact 52))⟩, ⟨_, mg_of X G (of_decide_eq_true (c.fact 26)), (of_decide_eq_true (c.fact 53))⟩, (of_decide_eq_true (c.fact 54)), mg_none_of X G (of_decide_eq_true (c.fact 42))⟩
  obtain ⟨i1, i2⟩ := c.ini_ 0
  obtain ⟨fd_iW, dV, I_W, dV0, kV, doc, pm, ct, an, cda, cc, efd⟩ := IniD.initF (P := pL) (mg := mg) (st := s_p_wk_init) i1 (by rw [file_eq]; exact i2) rfl rfl rfl (mg_none_of X G (of_decide_eq_true (c.fact 41))) (of_decide_eq_true (c.fact 44)) no_super
  have dn := dfl_nil dV0
  subst dn
  have bi_W : Binds K fd_iW ["self", "argument"] [] := by
    subst efd
    exact Binds.all fun us hl => match us, hl with | [_, _], _ => rfl
  clear efd dV0 i1 i2
  refine ⟨fd_law, fun s u => ?_, fun base _ _ => ?_⟩
  · obtain ⟨_, _, _, _, _, _, _, _, _, rfl, _, _⟩ := F_law.ex
    exact .of_eq rfl
  have t_told := callee_of (P := pL) (w := w) (base := base) F_told m_told b_told (ok_told F_told D)
  have E_W : Err pL w K mg base "WrongKind" (He.ga K "WrongKind") ["argument"] := ⟨e_W.oex, g_W, by decide, He.ga K "WrongKind", _, fd_iW, _, e_W.of_, e_W.ini, e_W.ti, e_W.no, ok_p_wk_init I_W t_told, bi_W⟩
  have t_isinteger := callee_of (P := pL) (w := w) (base := base) F_isinteger m_isinteger b_isinteger (ok_p_is_integer F_isinteger Pt)
  have t_isratio := callee_of (P := pL) (w := w) (base := base) F_isratio m_isratio b_isratio (ok_p_is_ratio F_isratio Pt t_isinteger)
  have t_needratio := callee_of (P := pL) (w := w) (base := base) F_needratio m_needratio b_needratio (ok_p_need_ratio F_needratio E_W t_isratio)
  have t_writeratio := calleeR_of (P := pL) (w := w) (base := base) F_writeratio m_writeratio b_writeratio (ok_p_write_ratio F_writeratio Pt t_needratio)
  have t_whole := callee_of (P := pL) (w := w) (base := base) F_whole m_whole b_whole (ok_p_whole F_whole T)
  have t_readratio := calleeR_of (P := pL) (w := w) (base := base) F_readratio m_readratio b_readratio (ok_p_read_ratio F_readratio T E_W t_whole)
  have t_lstore := callee_of (P := pL) (w := w) (base := base) F_lstore m_lstore b_lstore (ok_store F_lstore C0)
  have t_ltake := callee_of (P := pL) (w := w) (base := base) F_ltake m_ltake b_ltake (ok_take F_ltake C0 m_ltake b_ltake 125 (by decide))
  have t_ltens := callee_of (P := pL) (w := w) (base := base) F_ltens m_ltens b_ltens (ok_tens F_ltens D)
  have t_llow := callee_of (P := pL) (w := w) (base := base) F_llow m_llow b_llow (ok_low F_llow D)
  have t_lalike := callee_of (P := pL) (w := w) (base := base) F_lalike m_lalike b_lalike (ok_alike F_lalike T m_lalike b_lalike 4)
  have t_lpart := callee_of (P := pL) (w := w) (base := base) F_lpart m_lpart b_lpart (ok_part F_lpart T t_ltake t_ltens)
  have t_lnumber := callee_of (P := pL) (w := w) (base := base) F_lnumber m_lnumber b_lnumber (ok_number F_lnumber T t_ltake t_lpart t_llow)
  have t_ldigits := callee_of (P := pL) (w := w) (base := base) F_ldigits m_ldigits b_ldigits (ok_digits F_ldigits T)
  have t_lreading := callee_of (P := pL) (w := w) (base := base) F_lreading m_lreading b_lreading (ok_reading F_lreading T t_ldigits t_llow)
  have t_lbent := callee_of (P := pL) (w := w) (base := base) F_lbent m_lbent b_lbent (ok_bent F_lbent T t_ltake)
  have t_lshort := callee_of (P := pL) (w := w) (base := base) F_lshort m_lshort b_lshort (ok_short F_lshort T t_ltake)
  have t_llong := callee_of (P := pL) (w := w) (base := base) F_llong m_llong b_llong (ok_long F_llong T t_ltake)
  have t_ltold := callee_of (P := pL) (w := w) (base := base) F_ltold m_ltold b_ltold (ok_told2 F_ltold T (CF := He.ga K "FrameError") (mg_of X G (of_decide_eq_true (c.fact 27))) (of_decide_eq_true (c.fact 55)) A_W e_W.exc e_W.xf (e_W.no _ (List.mem_singleton.mpr rfl)) t_writeratio t_readratio)
  have ef : fa = He.ga K "law" := by
    have q := hfa
    rw [m_law] at q
    cases q
    rfl
  subst ef
  exact ok_law F_law T t_lstore t_ltake t_lnumber t_ltens t_ltold t_lalike t_lbent t_lshort t_llong t_lreading
end K00

set_option Elab.async false
set_option linter.all false
set_option maxRecDepth 100000
set_option maxHeartbeats 0
namespace K00
open PySem L2 PySem.W
def loose0 : List Str := ["_told", "FrameError", "WrongKind", "OutOfBounds", "RepeatedName", "UnknownName", "UnfitError", "BadText", "is_integer", "is_ratio", "need_ratio", "MOST_DIGITS", "DIGITS", "write_ratio", "_whole", "read_ratio", "_law_store", "_law_take", "_law_tens", "_law_low", "_law_alike", "_law_part", "_law_number", "_law_digits", "_law_reading", "_law_bent", "_law_short", "_law_long", "_law_told"]
def looseL : List Str := loose0
abbrev Rw : OpenRow := OpenLaw.row PySem.Challenge.rw_standframes_k62_numbers_written_and_read
abbrev hkL : Hook := hookY mainFile chkL fnL iniL
def obL (s : SharedT) : AlX := obsYG mainFile chkL fnL iniL (HandSHeadRun.getT s)
theorem obL_eq (s : SharedT) : obL s = hkL.obs s.abs := by
  have e : HandSHeadRun.getT s = s.abs.heap.get? := funext (HandSHeadRun.getT_eq s)
  unfold obL
  rw [e] <;> rfl
theorem runL (w : World) : HandSHeadRun.RunEqI Rw (view Rw.prog [0, 34]) hkL obL 20000 looseL w := by
  unfold HandSHeadRun.RunEqI
  kernel_rfl
end K00
open PySem PySem.W PySem.Calls PyProof.Rows
set_option maxHeartbeats 0 in
theorem PySem.Challenge.cw_standframes_k62_numbers_written_and_read_holds : PySem.Challenge.rw_standframes_k62_numbers_written_and_read.Holds := by
  w_on; o_law
  refine HandSHeadRun.head_imp (r := OpenLaw.row PySem.Challenge.rw_standframes_k62_numbers_written_and_read) (q := view (OpenLaw.row PySem.Challenge.rw_standframes_k62_numbers_written_and_read).prog [0, 34]) (H := K00.hkL) (ob := K00.obL) (M := 20000) (loose := K00.looseL)
    (d := HandSHeadRun.topDef (OpenLaw.row PySem.Challenge.rw_standframes_k62_numbers_written_and_read).prog 34) (kwd := []) K00.obL_eq K00.runL (by kernel_rfl) (by kernel_rfl) (by kernel_rfl) (by rfl)
    (by first | assumption | decide +kernel) (by decide +kernel) ⟨rfl, rfl, rfl, rfl, rfl, by decide +kernel⟩ ?hw ?hc
  case hw => w_witness2
  case hc =>
    refine L2.walk_ofE (l := PySem.Challenge.rw_standframes_k62_numbers_written_and_read) (n := 63) (k := 129) (x := "_law_script") (CX := L2.CX0) rfl (by decide) (by kernel_rfl) ⟨rfl, by decide, by decide⟩ ?F (fun _ _ _ _ z => z)
    intro w mg fa h Y G hmg0
    obtain ⟨K, KX, c⟩ := Y
    have hmg : mg ("law" : PySem.Str) = some (.ref fa) := by
      have e : (HandSHeadRun.topDef (OpenLaw.row PySem.Challenge.rw_standframes_k62_numbers_written_and_read).prog 34).name = ("law" : PySem.Str) := by kernel_rfl
      rw [← e]
      exact hmg0
    obtain ⟨fd, hb, hF⟩ := K00.factsL (w := w) KX G hmg c
    exact ⟨K, fd, K00.spLaw K, KX, hb, fun H a ns hl _ hS => ⟨a, ns, rfl, hS, hl, fun _ => rfl⟩, hF⟩

