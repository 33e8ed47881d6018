import PyProof.Rows.All
import Wide.All
import OpenK.AllK
import Wide.FinOn
import HandS.ForMost
import HandS.ForExc
import HandS.Walk
import HandS.ExcInit
import HandS.IsInst
import HandS.ExcIs
import HandS.ExcValue
import KE.KExcInit
import PyProof.ReprReads
import PyProof.ExcBaseAll.OverflowError
import KE.KExcIs
import KE.GoesMore
import KE.GoesEnum
import HandS.TupSets
import KE.KeyNested
import HandS.SetFor
import HandS.TupLe
import HandS.TupMul
import HandS.Text
import PyProof.TupleOfSeq
import PyProof.Rows.SortStr
import KE.KRevSl
import HandS.SetBool
import HandS.Strs
import KE.KTryMore
import HandS.Deep
import HandS.Star
import HandS.TupAny
import PyProof.Walks
import HandS.Conv
import HandS.Lambda
import HandS.Iter
import HandS.Ends
import HandS.EndTab
import KE.KNest
import HandS.Style
import PySem.Challenge.RW_labelroads_k06_whole_shapes
set_option Elab.async false
set_option linter.all false
set_option maxRecDepth 100000
set_option maxHeartbeats 8000000
namespace Lr
open PySem PySem.Spec PyProof.Rows L2

def top (i : Nat) : Stmt := PySem.Challenge.pw_labelroads_k06_whole_shapes.main.body.getD i (.Pass ⟨0, 0, 0, 0⟩)
abbrev sMix : Stmt := top 52
abbrev sFol : Stmt := top 53
abbrev sDra : Stmt := top 54
abbrev sBeg : Stmt := top 55

/-- an int that a cell may hold -/
def Cell (i : Int) : Prop := 0 ≤ i ∧ i < 2147483647
/-- a list of ints at an address -/
def IntsAt (H : Hp) (a : Addr) (ns : List Int) : Prop := H a = some (.lst (ns.map V.int))

/-! the promises -/
def spMix : Sp := fun vs H Q _ => ∃ c n : Int, vs = [.int c, .int n] ∧ 0 ≤ n ∧ n < 1000000 ∧ ∀ r : Int, Q (.int r) H
def spFol (K : PySem.W.Frag) : Sp := fun vs H Q _ => ∃ (a : Addr) (ns : List Int), vs = [.ref a] ∧ SqL K H a (ns.map V.int) ∧ ns.length ≤ 63 ∧
  ∀ (H' : Hp) (p : Addr) (cs : List Int), Same H H' → H p = none → IntsAt H' p cs → cs.length = 64 → Q (.ref p) H'

structure Tx (mg : Str → Option Value) : Prop where
  int : mg "int" = none
  range : mg "range" = none
  enum : mg "enumerate" = none
  len : mg "len" = none

section
variable {P : Program} {w : World} {K : PySem.W.Frag} {mg : Str → Option Value} {base : Heap}

theorem scMix : FnScope ["cell", "n", "blend"] ["cell", "n"] (defScope sMix) := ⟨rfl, rfl, rfl, by decide +kernel, rfl, by decide +kernel, by decide +kernel⟩
theorem ok_mix {f : Addr} {fd : FuncData} (F : Fun K "_law_mixed" "_law_mixed" sMix f fd) (T : Tx mg) : FnOk P w K mg base CX0 1 f fd ["cell", "n"] spMix := by
  refine F.ok scMix (fun vs H Q E h => ?_) (fun cdv A outer s H vs Q E hr h => ?_)
  · obtain ⟨c, n, rfl, _⟩ := h
    rfl
  · obtain ⟨c, n, rfl, h0, h1, k⟩ := h
    refine ⟨_, pss_cons (ps_set (i := 2) scMix.nd rfl (.inl rfl) (pe_op op_add (pe_op op_add (pe_op op_mod (pe_callTy call_int1 (by rfl) T.int (by decide +kernel) (pa_cons
        (pe_op op_mul (pe_op op_mul (pv 0) (pe_op op_add pe_int (pe_op op_mul pe_int (pv 1)))) pe_int) pa_nil)) pe_int)
          (pe_op op_mul (pe_op op_mul pe_int (pv 1)) (pv 1))) (pe_op op_mul pe_int (pv 1))))
      (pss_one (ps_ret (pe_op op_fdiv (pe_op op_mod (pe_callTy call_int1 (by rfl) T.int (by decide +kernel) (pa_cons (pe_op op_mul (pv 2) pe_int) pa_nil)) pe_int) pe_int))), ?_⟩
    refine ⟨_, rfl, _, rfl, _, _, rfl, rfl, .inl ⟨by decide, by decide⟩, _, _, rfl, rfl, _, _, rfl, rfl, .inr ⟨by omega, by omega⟩, _, _, rfl, rfl, .inr ⟨by decide, by decide⟩, .inl ⟨_, rfl, ?_⟩⟩
    refine ⟨_, _, rfl, rfl, (by show (0 : Int) < 2147483647; decide), _, rfl, _, _, rfl, rfl, .inl ⟨by decide, by decide⟩, _, rfl, _, _, rfl, rfl, .inr ⟨by omega, by omega⟩, _, _, rfl, rfl, _, rfl, _, _, rfl, rfl, .inl ⟨by decide, by decide⟩, _, _, rfl, rfl, ?_⟩
    refine ⟨_, rfl, _, _, rfl, rfl, .inr ⟨by decide, by decide⟩, .inl ⟨_, rfl, _, _, rfl, rfl, (by show (0 : Int) < 2147483629; decide), _, _, rfl, rfl, ⟨by decide, by decide⟩, ?_⟩⟩
    exact k _
end
end Lr

namespace Lr
open PySem PySem.Spec PyProof.Rows L2

theorem ints_at {cs : List Int} {k : Int} (h0 : 0 ≤ k) (h1 : k < cs.length) : ∃ z : Int, atI (cs.map V.int) k = some (.int z) := by
  obtain ⟨n, rfl⟩ : ∃ n : Nat, k = (n : Int) := ⟨k.toNat, by omega⟩
  have hn : n < cs.length := by omega
  exact ⟨cs[n], atI_nat (by simp [List.getElem?_map, hn])⟩
theorem ints_ix {cs : List Int} {k : Int} (h0 : 0 ≤ k) (h1 : k < cs.length) : ixN (cs.map V.int).length k = some k.toNat := by
  unfold ixN
  rw [List.length_map, if_pos h0, if_pos h1]
theorem ints_set (cs : List Int) (j : Nat) (z : Int) : (cs.map V.int).set j (.int z) = (cs.set j z).map V.int := by
  rw [List.map_set]

theorem yes_of {σ : L2.St} {H : Hp} {A B : Hp → Prop} (h : A H) : tYes σ H fun b H3 => if b = true then A H3 else B H3 := by
  show if true = true then A H else B H
  exact iteT h
section
variable {P : Program} {w : World} {K : PySem.W.Frag} {mg : Str → Option Value} {base : Heap}
theorem scFol : FnScope ["script", "n", "found", "cell"] ["script"] (defScope sFol) := ⟨rfl, rfl, rfl, by decide +kernel, rfl, by decide +kernel, by decide +kernel⟩
theorem ok_fol {f : Addr} {fd : FuncData} (F : Fun K "_law_folded" "_law_folded" sFol f fd) (T : Tx mg) : FnOk P w K mg base CX0 1 f fd ["script"] (spFol K) := by
  refine F.ok scFol (fun vs H Q E h => ?_) (fun cdv A outer s H vs Q E hr h => ?_)
  · obtain ⟨a, ns, rfl, _⟩ := h
    rfl
  · obtain ⟨a, ns, rfl, hS, hlen, k⟩ := h
    refine ⟨_, pss_cons (ps_setLc (i := 2) (own := [("n", 1)]) (g := gName 1) (tt := tYes) rfl scFol.nd rfl rfl (sw_true rfl rfl rfl (by decide +kernel)) (pi_range1 (by rfl) T.range (pa_cons pe_int pa_nil))
        (blkOk_by (N := ["script", "n", "found", "cell"]) (sc := defScope sFol) (by decide +kernel)) (fun _ _ _ _ _ => pg_name (i := 1) scFol.nd rfl (.inl rfl)) (fun _ _ _ _ _ => pts_nil) (fun _ _ _ _ _ => pe_op op_add pe_int (pv 1)))
      (pss_cons (ps_for PassesOwn.never rfl (pi_enum (by rfl) T.enum (pa_cons (pv 0) pa_nil)) (pg_tup (by rfl) (pgs_cons (pg_name (i := 1) scFol.nd rfl (.inl rfl)) (pgs_cons (pg_name (i := 3) scFol.nd rfl (.inl rfl)) pgs_nil)))
        (pss_one (ps_asg (pe_op op_mod (pe_callTy call_int1 (by rfl) T.int (by decide +kernel) (pa_cons (pe_op op_add (pe_op op_mul (pe_ix ix_list (pv 2) (pe_op op_mod (pe_callTy call_int1 (by rfl) T.int (by decide +kernel) (pa_cons (pv 1) pa_nil)) pe_int) (fun _ _ => rfl)) pe_int) (pv 3)) pa_nil)) pe_int)
          (pg_sub (pv 2) (pe_op op_mod (pe_callTy call_int1 (by rfl) T.int (by decide +kernel) (pa_cons (pv 1) pa_nil)) pe_int) set_list))))
      (pss_cons (ps_for PassesOwn.never rfl (pi_range2 (by rfl) T.range (pa_cons pe_int (pa_cons pe_int pa_nil))) (pg_name (i := 1) scFol.nd rfl (.inl rfl))
        (pss_one (ps_asg (pe_op op_mod (pe_callTy call_int1 (by rfl) T.int (by decide +kernel) (pa_cons (pe_op op_add (pe_ix ix_list (pv 2) (pv 1) (fun _ _ => rfl)) (pe_op op_mul (pe_ix ix_list (pv 2) (pe_op op_sub (pv 1) pe_int) (fun _ _ => rfl)) pe_int)) pa_nil)) pe_int)
          (pg_sub (pv 2) (pv 1) set_list))))
      (pss_one (ps_ret (pv 2))))), ?_⟩
    -- found = [17 + n for n in range(64)]
    refine ⟨64, rfl, by decide, by decide, fun D hD => lc_range (lo := 0) (n := 64) (fun i H' => ∃ cs : List Int, cs.length = i ∧ IntsAt H' D cs ∧ Same H H') ⟨[], rfl, upd_same, fun b o e => by rw [upd_ne (ne_of_none e hD)]; exact e⟩ ?_ ?_⟩
    · rintro i H' hi ⟨cs, hl, hc, sm⟩
      refine ⟨rfl, yes_of ?_⟩
      refine ⟨_, rfl, _, _, rfl, rfl, _, hc, (by rw [List.length_map, hl, sizeLine_eq]; omega), cs ++ [17 + (0 + (i : Int))], by simp [hl], ?_, fun b o e => by rw [upd_ne (ne_of_none e hD)]; exact sm b o e⟩
      unfold IntsAt
      rw [upd_same, List.map_append]
      rfl
    rintro H1 ⟨cs1, hl1, hc1, sm1⟩
    -- for n, cell in enumerate(script)
    refine ⟨_, rfl, a, _, rfl, sm1.seq hS, for_it walk_enum (fun i σ H' => ∃ (cs : List Int) (u v : Option V), σ = [some (.ref a), u, some (.ref D), v] ∧ cs.length = 64 ∧ IntsAt H' D cs ∧ Same H H')
      ⟨cs1, _, _, rfl, hl1, hc1, sm1⟩ (fun i σ H' _ ⟨_, _, _, _, _, _, s2⟩ => s2.seq hS) ?_ ?_⟩
    · rintro i x σ H' H2 hi ⟨cs, u, v, rfl, hl, hc, sm⟩ ⟨t, x1, x2, rfl, nt, rfl, e1, e2⟩
      obtain ⟨z, rfl⟩ : ∃ z, x2 = V.int z := by
        have e3 : (ns.map V.int)[i]? = some x2 := e2
        rw [List.getElem?_map] at e3
        cases e : ns[i]? with
        | none =>
          rw [e] at e3
          cases e3
        | some z =>
          rw [e] at e3
          exact ⟨z, (Option.some.inj e3).symm⟩
      cases e1
      have nDt : D ≠ t := ne_of_none hc nt
      have hc' : (upd H' t (.tup [.int (i : Nat), .int z])) D = some (.lst (cs.map V.int)) := by rw [upd_ne nDt]; exact hc
      have b0 : 0 ≤ ((i : Nat) : Int) % 64 := by omega
      have b1 : ((i : Nat) : Int) % 64 < (cs.length : Int) := by rw [hl]; omega
      obtain ⟨y, hy⟩ := ints_at b0 b1
      refine ⟨t, _, rfl, SqT.of upd_same, rfl, _, _, rfl, _, _, rfl, rfl, ?_⟩
      refine ⟨_, rfl, _, rfl, .inl ⟨_, rfl, _, _, rfl, rfl, (by show (0 : Int) < 64; decide), D, _, _, _, rfl, rfl, SqL.of hc', hy, ?_⟩⟩
      refine ⟨_, _, rfl, rfl, .inr ⟨by decide, by decide⟩, _, rfl, _, _, rfl, rfl, .inl ⟨_, rfl, _, _, rfl, rfl, (by show (0 : Int) < 2147483647; decide), ?_⟩⟩
      refine ⟨_, rfl, _, rfl, .inl ⟨_, rfl, _, _, rfl, rfl, (by show (0 : Int) < 64; decide), D, _, _, _, rfl, rfl, hc', ints_ix b0 b1, ?_⟩⟩
      refine ⟨cs.set (((i : Nat) : Int) % 64).toNat ((y * 48271 + z) % 2147483647), _, _, rfl, by rw [List.length_set]; exact hl, ?_, fun b o e => ?_⟩
      · unfold IntsAt
        rw [upd_same, ints_set]
      · have n1 : b ≠ D := ne_of_none e hD
        have n2 : b ≠ t := ne_of_none (sm b o e) nt
        rw [upd_ne n1, upd_ne n2]
        exact sm b o e
    rintro σ H2 ⟨cs2, u2, v2, rfl, hl2, hc2, sm2⟩
    -- for n in range(1, 64)
    refine ⟨_, _, rfl, ⟨by decide, by decide, by decide, by decide⟩, for_range (lo := 1) (n := 63) (fun i σ H' => ∃ (cs : List Int) (u v : Option V), σ = [some (.ref a), u, some (.ref D), v] ∧ cs.length = 64 ∧ IntsAt H' D cs ∧ Same H H')
      ⟨cs2, _, _, rfl, hl2, hc2, sm2⟩ ?_ ?_⟩
    · rintro i σ H' hi ⟨cs, u, v, rfl, hl, hc, sm⟩
      have b0 : 0 ≤ 1 + ((i : Nat) : Int) := by omega
      have b1 : 1 + ((i : Nat) : Int) < (cs.length : Int) := by rw [hl]; omega
      have b2 : 0 ≤ 1 + ((i : Nat) : Int) - 1 := by omega
      have b3 : 1 + ((i : Nat) : Int) - 1 < (cs.length : Int) := by rw [hl]; omega
      obtain ⟨y, hy⟩ := ints_at b0 b1
      obtain ⟨z, hz⟩ := ints_at b2 b3
      refine ⟨_, rfl, _, rfl, D, _, _, _, rfl, rfl, SqL.of hc, hy, _, rfl, _, rfl, _, _, rfl, rfl, D, _, _, _, rfl, rfl, SqL.of hc, hz, ?_⟩
      refine ⟨_, _, rfl, rfl, .inr ⟨by decide, by decide⟩, _, _, rfl, rfl, .inl ⟨_, rfl, _, _, rfl, rfl, (by show (0 : Int) < 2147483647; decide), ?_⟩⟩
      refine ⟨_, rfl, _, rfl, D, _, _, _, rfl, rfl, hc, ints_ix b0 b1, ?_⟩
      refine ⟨cs.set (1 + ((i : Nat) : Int)).toNat ((y + z * 16807) % 2147483647), _, _, rfl, by rw [List.length_set]; exact hl, ?_, fun b o e => ?_⟩
      · unfold IntsAt
        rw [upd_same, ints_set]
      · rw [upd_ne (ne_of_none e hD)]
        exact sm b o e
    rintro σ H3 ⟨cs3, u3, v3, rfl, hl3, hc3, sm3⟩
    exact ⟨_, rfl, k H3 D cs3 sm3 hD hc3 hl3⟩
end
end Lr

namespace Lr
open PySem PySem.Spec PyProof.Rows L2

/-- the pairs of the state m -/
def kvM (c g : Addr) (n : Int) : List (Key × V) := [(.inr "cells", .ref c), (.inr "great", .ref g), (.inr "spot", .int n)]
theorem kv_spot (c g : Addr) (n : Int) : valV (kvM c g n) (.inr "spot") = some (.int n) := by rfl
theorem kv_great (c g : Addr) (n : Int) : valV (kvM c g n) (.inr "great") = some (.ref g) := by rfl
theorem kv_cells (c g : Addr) (n : Int) : valV (kvM c g n) (.inr "cells") = some (.ref c) := by rfl
theorem kv_put (c g : Addr) (n z : Int) : putK (kvM c g n) (.inr "spot") (.int z) = kvM c g z := by rfl
theorem kv_putG (c g u : Addr) (n : Int) : putK (kvM c g n) (.inr "great") (.ref u) = kvM c u n := by rfl

/-- the state from which all numbers are drawn: the dict at m, its cells at c, its great ones at g; n were drawn -/
structure Ms (H : Hp) (m c g : Addr) (n : Nat) : Prop where
  hd : H m = some (.dK (kvM c g n))
  hc : ∃ cs : List Int, cs.length = 64 ∧ IntsAt H c cs
  hg : ∃ gs : List Int, gs.length ≤ 63 ∧ IntsAt H g gs
  cg : c ≠ g

def spDra : Sp := fun vs H Q _ => ∃ (m c g : Addr) (n : Nat) (lim : Int), vs = [.ref m, .int lim] ∧ 0 < lim ∧ lim < 1000000 ∧ n < 100000 ∧ Ms H m c g n ∧
  ∀ (r : Int) (H' : Hp), 0 ≤ r → r < lim → Ms H' m c g (n + 1) → (∀ b o, H b = some o → b ≠ m → b ≠ g → H' b = some o) → Q (.int r) H'

theorem dp_ints {K : PySem.W.Frag} {H : Hp} : ∀ ns : List Int, DpAll K H (ns.map V.int) (ns.map PyData.int)
  | [] => .nil
  | n :: r => .cons (.int n) (dp_ints r)
theorem lay_ints : ∀ ns : List Int, PyData.canLayAll0 (ns.map PyData.int) = true
  | [] => rfl
  | n :: r => by
    show (PyData.canLay0 (.int n) && PyData.canLayAll0 (r.map PyData.int)) = true
    rw [lay_ints r]
    rfl
theorem depth_ints : ∀ ns : List Int, PyData.depthAll (ns.map PyData.int) ≤ 1
  | [] => by decide
  | n :: r => by
    show max (PyData.depth (.int n)) (PyData.depthAll (r.map PyData.int)) ≤ 1
    have := depth_ints r
    have e : PyData.depth (.int n) = 0 ∨ PyData.depth (.int n) = 1 := by first | exact .inl rfl | exact .inr rfl
    omega
theorem shaped_ints (ns : List Int) : SeqAt.shaped (.list (ns.map PyData.int)) = true := by
  unfold SeqAt.shaped
  rw [Bool.and_eq_true, decide_eq_true_eq]
  refine ⟨lay_ints ns, ?_⟩
  show PyData.depthAll (ns.map PyData.int) + 1 ≤ 64
  have := depth_ints ns
  omega

structure TxD (K : PySem.W.Frag) (mg : Str → Option Value) (fM : Addr) : Prop extends Tx mg where
  gM : mg "_law_mixed" = some (.ref fM)
  kM : PySem.W.keepIn K (.ref fM) = true

section
variable {P : Program} {w : World} {K : PySem.W.Frag} {mg : Str → Option Value} {base : Heap}
theorem scDra : FnScope ["m", "limit", "n", "lot", "here", "cell"] ["m", "limit"] (defScope sDra) := ⟨rfl, rfl, rfl, by decide +kernel, rfl, by decide +kernel, by decide +kernel⟩
theorem ok_dra {f fM : Addr} {fd fdM : FuncData} (F : Fun K "_law_draw" "_law_draw" sDra f fd) (T : TxD K mg fM) (FM : Fun K "_law_mixed" "_law_mixed" sMix fM fdM) (bM : Binds K fdM ["cell", "n"] []) :
    FnOk P w K mg base CX0 2 f fd ["m", "limit"] spDra := by
  have GM : FnOk P w K mg base CX0 1 fM fdM ["cell", "n"] spMix := ok_mix FM T.toTx
  refine F.ok scDra (fun vs H Q E h => ?_) (fun cdv A outer s H vs Q E hr h => ?_)
  · obtain ⟨m, c, g, n, lim, rfl, _⟩ := h
    rfl
  · obtain ⟨m, c, g, n, lim, rfl, l0, l1, hn, M, k⟩ := h
    obtain ⟨hd, ⟨cs, hcl, hc⟩, ⟨gs, hgl, hg⟩, ncg⟩ := id M
    have hu := hu_of hr
    have hu64 := hr.units
    have hr1 : Room 1 _ := hr
    refine ⟨_, pss_cons (ps_set (i := 2) scDra.nd rfl (.inl rfl) (pe_dget hu (pv 0) pe_str (fun _ _ => rfl)))
      (pss_cons (ps_dput hu (pv 0) pe_str (pe_op op_add (pv 2) pe_int) rfl)
      (pss_cons (ps_if (pt_cmpR (op_neD hu64) (pe_dget hu (pv 0) pe_str (fun _ _ => rfl)) (pe_lst pa_nil) (nomark _))
        (pss_cons (ps_set (i := 3) scDra.nd rfl (.inl rfl) (pe_dget hu (pv 0) pe_str (fun _ _ => rfl)))
        (pss_cons (ps_set (i := 4) scDra.nd rfl (.inl rfl) (pe_op op_mod (pe_callTy call_int1 (by rfl) T.int (by decide +kernel) (pa_cons (pv 2) pa_nil)) (pe_callB call_len_seq (by rfl) T.len PySem.boot_len (pa_cons (pv 3) pa_nil))))
        (pss_cons (ps_set (i := 5) scDra.nd rfl (.inl rfl) (pe_ix ix_list (pv 3) (pv 4) (fun _ _ => rfl)))
        (pss_one (ps_if (pt_cmpR op_gt (pv 5) pe_int (nomark _))
          (pss_cons (ps_asg (pe_op op_fdiv (pv 5) (pv 1)) (pg_sub (pv 3) (pv 4) set_list))
          (pss_one (ps_ret (pe_op op_mod (pe_callTy call_int1 (by rfl) T.int (by decide +kernel) (pa_cons (pv 5) pa_nil)) (pv 1))))) pss_nil)))))
        pss_nil)
      (pss_cons (ps_set (i := 3) scDra.nd rfl (.inl rfl) (pe_dget hu (pv 0) pe_str (fun _ _ => rfl)))
      (pss_one (ps_ret (pe_op op_mod (pe_callTy call_int1 (by rfl) T.int (by decide +kernel) (pa_cons
        (pe_call GM hr1 (by rfl) T.gM T.kM bM .nil pass0 (pa_cons
          (pe_call GM hr1 (by rfl) T.gM T.kM bM .nil pass0 (pa_cons (pe_op op_add (pe_ix ix_list (pv 3) (pe_op op_mod (pe_callTy call_int1 (by rfl) T.int (by decide +kernel) (pa_cons (pv 2) pa_nil)) pe_int) (fun _ _ => rfl)) (pe_op op_mul pe_int (pe_op op_fdiv (pv 2) pe_int))) (pa_cons (pv 2) pa_nil)))
          (pa_cons (pe_op op_add (pv 2) pe_int) pa_nil))) pa_nil)) (pv 1))))))), ?_⟩
    have nmc : m ≠ c := ne_of hd hc (by intro z; cases z)
    have nmg : m ≠ g := ne_of hd hg (by intro z; cases z)
    have gS : ∀ {H' : Hp} {n : Int}, H' m = some (.dK (kvM c g n)) → DGet H' m (.str "spot") (some (.int n)) := fun {H' n} e => by
      rw [← kv_spot c g n]
      exact DGet.k (k := .inr "spot") e
    have gG : ∀ {H' : Hp} {n : Int}, H' m = some (.dK (kvM c g n)) → DGet H' m (.str "great") (some (.ref g)) := fun {H' n} e => by
      rw [← kv_great c g n]
      exact DGet.k (k := .inr "great") e
    have gC : ∀ {H' : Hp} {n : Int}, H' m = some (.dK (kvM c g n)) → DGet H' m (.str "cells") (some (.ref c)) := fun {H' n} e => by
      rw [← kv_cells c g n]
      exact DGet.k (k := .inr "cells") e
    -- n = m['spot']; m['spot'] = n + 1
    refine ⟨_, rfl, m, _, rfl, gS hd, ?_⟩
    refine ⟨_, rfl, _, _, rfl, rfl, _, rfl, m, _, rfl, DPut.k (k := .inr "spot") hd (by show 3 < sizeLine; rw [sizeLine_eq]; decide), ?_⟩
    rw [kv_put]
    have e1 : (upd H m (.dK (kvM c g ((n : Int) + 1)))) m = some (.dK (kvM c g ((n : Int) + 1))) := upd_same
    have c1 : (upd H m (.dK (kvM c g ((n : Int) + 1)))) c = some (.lst (cs.map V.int)) := by rw [upd_ne nmc.symm]; exact hc
    have g1 : (upd H m (.dK (kvM c g ((n : Int) + 1)))) g = some (.lst (gs.map V.int)) := by rw [upd_ne nmg.symm]; exact hg
    have s1 : ∀ b o, H b = some o → b ≠ m → b ≠ g → (upd H m (.dK (kvM c g ((n : Int) + 1)))) b = some o := fun b o e q _ => by rw [upd_ne q]; exact e
    revert e1 c1 g1 s1
    generalize upd H m (.dK (kvM c g ((n : Int) + 1))) = H1
    intro e1 c1 g1 s1
    -- if m['great'] != []
    refine ⟨_, rfl, m, _, rfl, gG e1, (by show 0 ≤ sizeLine; exact Nat.zero_le _), fun p hp => ?_⟩
    have e2 : (upd H1 p (.lst [])) m = some (.dK (kvM c g ((n : Int) + 1))) := by rw [upd_ne (ne_of_none e1 hp)]; exact e1
    have c2 : (upd H1 p (.lst [])) c = some (.lst (cs.map V.int)) := by rw [upd_ne (ne_of_none c1 hp)]; exact c1
    have g2 : (upd H1 p (.lst [])) g = some (.lst (gs.map V.int)) := by rw [upd_ne (ne_of_none g1 hp)]; exact g1
    have p2 : (upd H1 p (.lst [])) p = some (.lst []) := upd_same
    have s2 : ∀ b o, H b = some o → b ≠ m → b ≠ g → (upd H1 p (.lst [])) b = some o := fun b o e q1 q2 => by
      rw [upd_ne (ne_of_none (s1 b o e q1 q2) hp)]
      exact s1 b o e q1 q2
    revert e2 c2 g2 p2 s2
    generalize upd H1 p (.lst []) = H2
    intro e2 c2 g2 p2 s2
    have M2 : Ms H2 m c g (n + 1) := ⟨e2, ⟨cs, hcl, c2⟩, ⟨gs, hgl, g2⟩, ncg⟩
    refine ⟨.list (gs.map PyData.int), .list [], .lst (SqL.of g2) (dp_ints gs), .lst (SqL.of p2) .nil, shaped_ints gs, by decide +kernel, _, rfl, ?_⟩
    cases gs with
    | nil =>
      refine iteF ?_
      have b0 : 0 ≤ ((n : Nat) : Int) % 64 := by omega
      have b1 : ((n : Nat) : Int) % 64 < (cs.length : Int) := by rw [hcl]; omega
      obtain ⟨y, hy⟩ := ints_at b0 b1
      refine ⟨_, rfl, m, _, rfl, gC e2, ?_⟩
      refine ⟨_, rfl, _, rfl, .inl ⟨_, rfl, _, _, rfl, rfl, (by show (0 : Int) < 64; decide), c, _, _, _, rfl, rfl, SqL.of c2, hy, ?_⟩⟩
      refine ⟨_, rfl, _, _, rfl, rfl, ⟨by decide, by decide⟩, _, _, rfl, rfl, .inl ⟨by decide, by decide⟩, _, _, rfl, rfl, _, rfl, ?_⟩
      refine ⟨_, _, rfl, by omega, by omega, fun r1 => ?_⟩
      refine ⟨_, rfl, _, _, rfl, rfl, _, _, rfl, by omega, by omega, fun r2 => .inl ⟨_, rfl, _, rfl, _, _, rfl, rfl, l0, ?_⟩⟩
      exact k _ H2 (Int.emod_nonneg _ (by omega)) (Int.emod_lt_of_pos _ l0) M2 s2
    | cons z0 gs' =>
      refine iteT ?_
      -- lot = m['great']; here = int(n) % len(lot); cell = lot[here]
      have d0 : (0 : Int) < (((z0 :: gs').map V.int).length : Int) := by rw [List.length_map, List.length_cons]; omega
      have d1 : 0 ≤ ((n : Nat) : Int) % (((z0 :: gs').map V.int).length : Int) := Int.emod_nonneg _ (by omega)
      have d2 : ((n : Nat) : Int) % (((z0 :: gs').map V.int).length : Int) < (((z0 :: gs').length : Nat) : Int) := by
        have q := Int.emod_lt_of_pos ((n : Nat) : Int) d0
        rw [List.length_map] at q ⊢
        exact q
      obtain ⟨x, hx⟩ := ints_at d1 d2
      refine ⟨_, rfl, m, _, rfl, gG e2, ?_⟩
      refine ⟨_, rfl, .inl ⟨_, rfl, _, rfl, g, _, rfl, .inl (SqL.of g2), _, _, rfl, rfl, d0, ?_⟩⟩
      refine ⟨_, rfl, _, rfl, g, _, _, _, rfl, rfl, SqL.of g2, hx, ?_⟩
      refine ⟨_, rfl, _, _, rfl, rfl, _, rfl, ?_⟩
      refine ite2 (fun _ => ?_) (fun _ => ?_)
      · refine ⟨_, rfl, _, rfl, _, _, rfl, rfl, ⟨l0, by omega⟩, ?_⟩
        refine ⟨_, rfl, _, rfl, g, _, _, _, rfl, rfl, g2, ints_ix d1 d2, ?_⟩
        refine ⟨_, rfl, .inl ⟨_, rfl, _, rfl, _, _, rfl, rfl, l0, ?_⟩⟩
        refine k _ _ (Int.emod_nonneg _ (by omega)) (Int.emod_lt_of_pos _ l0) ⟨?_, ⟨cs, hcl, ?_⟩, ⟨(z0 :: gs').set (((n : Nat) : Int) % (((z0 :: gs').map V.int).length : Int)).toNat (x / lim), by rw [List.length_set]; exact hgl, ?_⟩, ncg⟩ fun b o e q1 q2 => ?_
        · rw [upd_ne nmg]
          exact e2
        · unfold IntsAt
          rw [upd_ne ncg]
          exact c2
        · unfold IntsAt
          rw [upd_same, ints_set]
        · rw [upd_ne q2]
          exact s2 b o e q1 q2
      · skip
        have b0 : 0 ≤ ((n : Nat) : Int) % 64 := by omega
        have b1 : ((n : Nat) : Int) % 64 < (cs.length : Int) := by rw [hcl]; omega
        obtain ⟨y, hy⟩ := ints_at b0 b1
        refine ⟨_, rfl, m, _, rfl, gC e2, ?_⟩
        refine ⟨_, rfl, _, rfl, .inl ⟨_, rfl, _, _, rfl, rfl, (by show (0 : Int) < 64; decide), c, _, _, _, rfl, rfl, SqL.of c2, hy, ?_⟩⟩
        refine ⟨_, rfl, _, _, rfl, rfl, ⟨by decide, by decide⟩, _, _, rfl, rfl, .inl ⟨by decide, by decide⟩, _, _, rfl, rfl, _, rfl, ?_⟩
        refine ⟨_, _, rfl, by omega, by omega, fun r1 => ?_⟩
        refine ⟨_, rfl, _, _, rfl, rfl, _, _, rfl, by omega, by omega, fun r2 => .inl ⟨_, rfl, _, rfl, _, _, rfl, rfl, l0, ?_⟩⟩
        exact k _ H2 (Int.emod_nonneg _ (by omega)) (Int.emod_lt_of_pos _ l0) M2 s2
end
end Lr

namespace Lr
open PySem PySem.Spec PyProof.Rows L2

def spBeg (K : PySem.W.Frag) : Sp := fun vs H Q _ => ∃ (a : Addr) (ns : List Int), vs = [.ref a] ∧ SqL K H a (ns.map V.int) ∧ ns.length ≤ 63 ∧
  ∀ (H' : Hp) (m c g : Addr), Same H H' → H m = none → H c = none → H g = none → Ms H' m c g 0 → Q (.ref m) H'

section
variable {P : Program} {w : World} {K : PySem.W.Frag} {mg : Str → Option Value} {base : Heap}
theorem scBeg : FnScope ["script", "m", "cell"] ["script"] (defScope sBeg) := ⟨rfl, rfl, rfl, by decide +kernel, rfl, by decide +kernel, by decide +kernel⟩
theorem ok_beg {f fL : Addr} {fd fdL : FuncData} (F : Fun K "_law_begun" "_law_begun" sBeg f fd) (T : Tx mg) (gL : mg "_law_folded" = some (.ref fL)) (kL : PySem.W.keepIn K (.ref fL) = true)
    (FL : Fun K "_law_folded" "_law_folded" sFol fL fdL) (bL : Binds K fdL ["script"] []) : FnOk P w K mg base CX0 2 f fd ["script"] (spBeg K) := by
  have GL : FnOk P w K mg base CX0 1 fL fdL ["script"] (spFol K) := ok_fol FL T
  refine F.ok scBeg (fun vs H Q E h => ?_) (fun cdv A outer s H vs Q E hr h => ?_)
  · obtain ⟨a, ns, rfl, _⟩ := h
    rfl
  · obtain ⟨a, ns, rfl, hS, hlen, k⟩ := h
    have hu := hu_of hr
    have hr1 : Room 1 _ := hr
    refine ⟨_, pss_cons (ps_set (i := 1) scBeg.nd rfl (.inl rfl) (pe_disp (pps_cons pe_str (pe_call GL hr1 (by rfl) gL kL bL .nil pass0 (pa_cons (pv 0) pa_nil)) (pps_cons pe_str (pe_lst pa_nil) (pps_cons pe_str pe_int pps_nil))) rfl rfl (by simp) (by decide)))
      (pss_cons (ps_dput hu (pv 1) pe_str (pe_lc (own := [("cell", 2)]) (g := gName 2) (tt := tYes) rfl scBeg.nd (pi_list (pv 0)) (blkOk_by (N := ["script", "m", "cell"]) (sc := defScope sBeg) (by decide +kernel))
        (fun _ _ _ _ _ => pg_name (i := 2) scBeg.nd rfl (.inl rfl)) (fun _ _ _ _ _ => pts_nil) (fun _ _ _ _ _ => pe_ifExp (pt_cmpR op_ge (pv 2) (pe_op op_pow pe_int pe_int) (nomark _)) (pv 2) pe_int)) rfl)
      (pss_one (ps_ret (pv 1)))), ?_⟩
    -- m = {'cells': _law_folded(script), 'great': [], 'spot': 0}
    refine fun m nm => ⟨_, rfl, a, ns, rfl, ?_, hlen, fun H1 c cs sm nc hc hcl => ⟨(by show 0 ≤ sizeLine; exact Nat.zero_le _), fun g ng => ?_⟩⟩
    · exact Same.seq (fun b o e => by rw [upd_ne (ne_of_none e nm)]; exact e) hS
    have m1 : H1 m = some (.dK []) := sm m _ upd_same
    have ncm : c ≠ m := fun e => by
      rw [e, upd_same] at nc
      cases nc
    have nc0 : H c = none := by rw [upd_ne ncm] at nc; exact nc
    have s1 : Same H H1 := fun b o e => sm b o (by rw [upd_ne (ne_of_none e nm)]; exact e)
    have ngm : g ≠ m := fun e => by
      rw [e, m1] at ng
      cases ng
    have ncg : c ≠ g := ne_of_none hc ng
    refine ⟨by rw [upd_ne ngm.symm]; exact m1, [(.inr "cells", .ref c), (.inr "great", .ref g), (.inr "spot", .int 0)], rfl, (by show 3 ≤ 15; decide), ?_⟩
    have e0 : mergeK [] [((.inr "cells" : Key), V.ref c), (.inr "great", .ref g), (.inr "spot", .int 0)] = kvM c g 0 := by rfl
    rw [e0]
    -- m['great'] = [cell if cell >= 10 ** 18 else 0 for cell in script]
    have sm2 : ∀ o, Same H (upd (upd H1 g (.lst [])) m o) := fun o b q e => by
      rw [upd_ne (ne_of_none e nm), upd_ne (ne_of_none (s1 b q e) ng)]
      exact s1 b q e
    have c2 : ∀ o, (upd (upd H1 g (.lst [])) m o) c = some (.lst (cs.map V.int)) := fun o => by
      rw [upd_ne ncm, upd_ne ncg]
      exact hc
    have m2 : (upd (upd H1 g (.lst [])) m (.dK (kvM c g 0))) m = some (.dK (kvM c g 0)) := upd_same
    have s2 := sm2 (.dK (kvM c g 0))
    have cc2 := c2 (.dK (kvM c g 0))
    revert m2 s2 cc2
    generalize upd (upd H1 g (.lst [])) m (.dK (kvM c g 0)) = H2
    intro m2 s2 cc2
    refine ⟨_, rfl, a, rfl, ⟨_, s2.seq hS⟩, fun D nD => ?_⟩
    refine lc_list (K := K) (a := a) (xs := ns.map V.int) (fun i H' => ∃ gs : List Int, gs.length = i ∧ IntsAt H' D gs ∧ Same H2 H') ⟨[], rfl, upd_same, fun b o e => by rw [upd_ne (ne_of_none e nD)]; exact e⟩
      (fun i H' _ ⟨_, _, _, s3⟩ => s3.seq (s2.seq hS)) ?_ ?_
    · rintro i x H' hi ⟨gs, hl, hg, s3⟩
      obtain ⟨z, rfl⟩ : ∃ z, x = V.int z := by
        rw [List.getElem?_map] at hi
        cases e : ns[i]? with
        | none =>
          rw [e] at hi
          cases hi
        | some z =>
          rw [e] at hi
          exact ⟨z, (Option.some.inj hi).symm⟩
      have hil : i < ns.length := by
        have q := (List.getElem?_eq_some_iff.mp hi).1
        rw [List.length_map] at q
        exact q
      have fin : ∀ y : Int, ∃ acc, H' D = some (.lst acc) ∧ acc.length < sizeLine ∧ ∃ gs : List Int, gs.length = i + 1 ∧ IntsAt (upd H' D (.lst (acc ++ [V.int y]))) D gs ∧ Same H2 (upd H' D (.lst (acc ++ [V.int y]))) := fun y => by
        refine ⟨_, hg, by rw [List.length_map, hl, sizeLine_eq]; omega, gs ++ [y], by simp [hl], ?_, fun b o e => by rw [upd_ne (ne_of_none e nD)]; exact s3 b o e⟩
        unfold IntsAt
        rw [upd_same, List.map_append]
        rfl
      refine ⟨rfl, yes_of ?_⟩
      refine ⟨_, rfl, _, _, rfl, rfl, ⟨by decide, by decide, by decide⟩, _, _, rfl, rfl, _, rfl, ?_⟩
      refine ite2 (fun _ => ?_) (fun _ => ?_)
      · exact ⟨_, rfl, fin _⟩
      · exact fin _
    rintro H3 ⟨gs, hgl, hg3, s3⟩
    rw [List.length_map] at hgl
    refine ⟨_, rfl, m, _, rfl, DPut.k (k := .inr "great") (s3 _ _ m2) (by show 3 < sizeLine; rw [sizeLine_eq]; decide), ?_⟩
    rw [kv_putG]
    have nDm : m ≠ D := ne_of_none m2 nD
    have nDc : c ≠ D := ne_of_none cc2 nD
    refine ⟨_, rfl, k _ m c D (fun b o e => ?_) nm nc0 (s2.free nD) ⟨upd_same, ⟨cs, hcl, ?_⟩, ⟨gs, by omega, ?_⟩, nDc⟩⟩
    · rw [upd_ne (ne_of_none e nm)]
      exact s3 b o (s2 b o e)
    · unfold IntsAt
      rw [upd_ne ncm]
      exact s3 _ _ cc2
    · unfold IntsAt
      rw [upd_ne nDm.symm]
      exact hg3
end
end Lr

namespace PySem
namespace Ev
open PySem.W PySem.Calls PyProof.Rows PySem.HandSPX
section
open Builtin Builtin.ObjectAttr
variable {prog : Program} {w : World} {A : Around} {R : Result → Shared → Prop}
variable {hp : Heap} {g : Array GenState} {d : Drawn} {t : Nat} {os : OsState}
variable {K : W.Frag} {name : Str} {tk : Tok} {v : Value} {x C : Addr} {fv : Array Value} {cd : ClassData}

/-- what the store into an own exception asks of its class's chain -/
structure Chain (l : List Value) : Prop where
  ne : l.isEmpty = false
  ob : l.contains (.type "object") = true
  pass : ∀ self : Value, refuseLoop self "__setattr__" l = pure ()

theorem first_store (X : K.In hp) (at_x : hp.get? x = some { cls := .ref C, data := .fields fv })
    (of_C : W.clsIn K C = some cd) (ch : Chain cd.mro) (dict_so : cd.hasDict = true)
    (free : W.findIn K (.ref C) name = some none)
    (then_ : ∀ h' tk' dx, (∀ b o, b ≠ x → hp.get? b = some o → h'.get? b = some o) → hp.objs.size ≤ dx → dx ≠ x →
      h'.get? x = some { cls := .ref C, dict := some dx, data := .fields fv } →
      h'.Ns1 dx (fun y => if y = name then some v else none) →
      R (.ok (.ret .none)) ⟨h', g, d, tk', os⟩) :
    codeAny (model prog w) A (.call (.builtin "object.__setattr__") ⟨[.ref x, .str name tk, v], []⟩) R ⟨hp, g, d, t, os⟩ := by
  have inst : W.InstAt hp x { cls := .ref C, data := .fields fv } C none := ⟨at_x, rfl, rfl, trivial⟩
  have S := F.store_object
  have apart : x ≠ hp.objs.size := Nat.ne_of_lt (Heap.lt_size at_x)
  have under : W.Looks (model prog w) hp (isInstance (.ref x) (.type "object")) true :=
    inst.type.andThen (W.looks_mroIn X (by
      unfold W.mroIn
      rw [of_C, Option.bind_some, if_neg (by rw [ch.ne]; decide), ch.ob]))
  refine codeAny_call_builtin S.slot.plain S.entry ?_
  refine @W.check_slot (model prog w) _ _ ⟨hp, g, d, t, os⟩ "object.__setattr__" "object" "__setattr__" (.ref x)
    [.str name tk, v] [] _ S.kind S.split under (S.args (.ref x) (.str name tk) v) ?_
  have look_mro : W.Looks (model prog w) hp (mroOf (.ref C)) cd.mro := (W.looks_clsIn X of_C).andThen .now
  have no_taker : W.Looks (model prog w) hp (storeTaker? none) none := .now
  have look_cls : W.Looks (model prog w) hp (classData C) cd := W.looks_clsIn X of_C
  rw [W.osa_eq, refuse_eq]
  refine wpAny_bind (wpAny_bind (inst.type.at (wpAny_bind (look_mro.at ?_))))
  rw [ch.pass]
  refine wpAny_pure (wpAny_bind (inst.type.at (wpAny_bind ((W.looks_findIn X free).at ?_))))
  refine wpAny_bind (no_taker.at ?_)
  show wpAny _ _ (storeInOwnDict (.ref x) (.ref C) (.str name tk) name v false) _ _ _
  obtain ⟨c1, c2, c3, c4, c5, c6, c7, c8, c9, c10, c11⟩ := cd
  dsimp only at dict_so
  subst dict_so
  unfold storeInOwnDict ownDictForStores
  repeat (first
    | with_reducible refine store_in_new ?_ ?_
    | with_reducible refine wpAny_loadPart_at at_x ?_
    | with_reducible refine look_cls.at ?_
    | wp_step)
  · exact ⟨_, #[], _, (Heap.get?_update_ne _ _ _ _ apart.symm).trans (Heap.get?_push_at rfl rfl), rfl,
      fun e he => absurd he (by simp), fun _ => rfl⟩
  · intro h' tk' ns' same
    have still : (hp.push { cls := .type "dict", data := .dict #[] }).get? x = some { cls := .ref C, data := .fields fv } :=
      Heap.get?_push_of_some _ at_x
    refine then_ h' tk' hp.objs.size (fun b o hb ho => ?_) (Nat.le_refl _) apart.symm ?_ ns'
    · refine (same.2 b (Nat.ne_of_lt (Heap.lt_size ho))).trans ?_
      exact (Heap.get?_update_ne _ _ _ _ hb).trans (Heap.get?_push_of_some _ ho)
    · exact (same.2 x apart).trans (Heap.get?_update_self _ still rfl)

theorem next_store {dx : Addr} {m0 : Str → Option Value} {nl : List Str} (X : K.In hp)
    (at_x : hp.get? x = some { cls := .ref C, dict := some dx, data := .fields fv })
    (ns : hp.Ns1 dx m0) (wi : Within m0 nl) (few : nl.length ≤ 1000)
    (of_C : W.clsIn K C = some cd) (ch : Chain cd.mro) (dict_so : cd.hasDict = true)
    (free : W.findIn K (.ref C) name = some none)
    (then_ : ∀ h' tk', (∀ b o, b ≠ dx → hp.get? b = some o → h'.get? b = some o) →
      h'.Ns1 dx (fun y => if y = name then some v else m0 y) → R (.ok (.ret .none)) ⟨h', g, d, tk', os⟩) :
    codeAny (model prog w) A (.call (.builtin "object.__setattr__") ⟨[.ref x, .str name tk, v], []⟩) R ⟨hp, g, d, t, os⟩ := by
  obtain ⟨oD, esD, epD, hoD, hdD, _⟩ := ns.count wi
  have inst : W.InstAt hp x { cls := .ref C, dict := some dx, data := .fields fv } C (some oD) := ⟨at_x, rfl, rfl, hoD⟩
  have S := F.store_object
  have under : W.Looks (model prog w) hp (isInstance (.ref x) (.type "object")) true :=
    inst.type.andThen (W.looks_mroIn X (by
      unfold W.mroIn
      rw [of_C, Option.bind_some, if_neg (by rw [ch.ne]; decide), ch.ob]))
  refine codeAny_call_builtin S.slot.plain S.entry ?_
  refine @W.check_slot (model prog w) _ _ ⟨hp, g, d, t, os⟩ "object.__setattr__" "object" "__setattr__" (.ref x)
    [.str name tk, v] [] _ S.kind S.split under (S.args (.ref x) (.str name tk) v) ?_
  have look_mro : W.Looks (model prog w) hp (mroOf (.ref C)) cd.mro := (W.looks_clsIn X of_C).andThen .now
  have no_taker : W.Looks (model prog w) hp (storeTaker? none) none := .now
  have look_cls : W.Looks (model prog w) hp (classData C) cd := W.looks_clsIn X of_C
  rw [W.osa_eq, refuse_eq]
  refine wpAny_bind (wpAny_bind (inst.type.at (wpAny_bind (look_mro.at ?_))))
  rw [ch.pass]
  refine wpAny_pure (wpAny_bind (inst.type.at (wpAny_bind ((W.looks_findIn X free).at ?_))))
  refine wpAny_bind (no_taker.at ?_)
  show wpAny _ _ (storeInOwnDict (.ref x) (.ref C) (.str name tk) name v false) _ _ _
  obtain ⟨c1, c2, c3, c4, c5, c6, c7, c8, c9, c10, c11⟩ := cd
  dsimp only at dict_so
  subst dict_so
  unfold storeInOwnDict ownDictForStores
  repeat (first
    | with_reducible refine OEX.store_in_old ns wi few ?_
    | with_reducible refine wpAny_loadPart_at at_x ?_
    | with_reducible refine look_cls.at ?_
    | wp_step)
  intro h' tk' ns' same
  exact then_ h' tk' (fun b o hb ho => (same.2 b hb).trans ho) ns'
end

section
variable {prog : Program} {w : World} {A : Around} {E : Value → Shared → Prop} {R : Result → Shared → Prop} {h : Heap} {g : Array GenState}
variable {d : Drawn} {t : Nat} {os : OsState} {M : Model}
variable {nm q : Str} {C N : Addr} {bs bm bmB : List Value} {sn : List Str} {sub : List Value} {ab : Bool} {col : Option Bool} {dd : Option Addr}
variable {k0 k1 k2 k3 k5 : Option Value} {B newId initId : String} {rest : List Value} {kw : List (Str × Value)}

theorem check_new_kw (F : ExcBaseFacts B newId initId bmB) (hT : ∀ X : String, bm.contains (.type X) = bmB.contains (.type X)) {Q : Unit → Shared → Prop}
    (at_C : h.get? C = some (excClassObj nm q C N bs bm true sn sub ab col dd k0 k1 k2 k3 k5 newId)) (done : Q () ⟨h, g, d, t, os⟩) :
    wpAny M A (checkBuiltinCall newId ⟨.ref C :: rest, kw⟩) Q E ⟨h, g, d, t, os⟩ := by
  have has : (Value.ref C :: bm).contains (.type B) = true := by rw [List.contains_cons, hT, F.hasB, Bool.or_true]
  have st := F.noStar
  simp only [checkBuiltinCall, F.newKind, F.newSplit, F.newRow]
  repeat (first
    | refine wpAny_loadPart_at at_C ?_
    | (refine wpAny_isSubtype_exc at_C ?_; rw [has])
    | refine wpAny_staticBase_exc at_C ?_
    | refine wpAny_madeBy_exc at_C ?_
    | simp only [bne_self_eq_false, Bool.false_eq_true, if_false]
    | wp_step)
  exact done
end
end Ev
end PySem

namespace PySem
namespace Ev
open PySem.W PySem.Calls PyProof.Rows PySem.HandSPX
section
variable {prog : Program} {w : World} {A : Around} {E : Value → Shared → Prop} {R : Result → Shared → Prop} {h : Heap} {g : Array GenState}
variable {d : Drawn} {t : Nat} {os : OsState}
variable {nm q : Str} {C N : Addr} {bs bm bmB : List Value} {sn : List Str} {sub : List Value} {ab : Bool} {col : Option Bool} {dd : Option Addr}
variable {k0 k1 k2 k3 k5 : Option Value} {B newId initId : String} {rest : List Value} {kw : List (Str × Value)}

theorem new_kw (F : ExcBaseFacts B newId initId bmB) (hT : ∀ X : String, bm.contains (.type X) = bmB.contains (.type X))
    (at_C : h.get? C = some (excClassObj nm q C N bs bm true sn sub ab col dd k0 k1 k2 k3 k5 newId))
    (done : R (.ok (.ret (.ref (h.objs.size + 1)))) ⟨(h.push (W.kdv_tup rest)).push (excO C h.objs.size), g, d, t, os⟩)
    (few : rest.length ≤ sizeLine) :
    codeAny (model prog w) A (.builtin newId ⟨.ref C :: rest, kw⟩) R ⟨h, g, d, t, os⟩ := by
  have ends := F.ends
  have inB : (Value.ref C :: bm).contains (.type B) = true := by rw [List.contains_cons, hT, F.hasB, Bool.or_true]
  have notA : (Value.ref C :: bm).contains (.type "AttributeError") = false := by
    rw [List.contains_cons, hT, F.noAttr]
    rfl
  have notN : (Value.ref C :: bm).contains (.type "NameError") = false := by
    rw [List.contains_cons, hT, F.noName]
    rfl
  refine codeAny_builtinAt F.entry ?_
  unfold Builtin.«BaseException.__new__»
  refine wpAt_bind ?_
  show wpAt _ _ _ (stack >>= _) _ _ _
  refine wpAt_bind (wpAt_stack fun p below => wpAt_of_wpAny ?_)
  wp_walk
  refine wpAt_of_wpAny ?_
  rw [F.owner]
  repeat (first
    | with_reducible refine wpAny_madeHere_exc F.canon at_C ?_
    | with_reducible refine wpAny_loadPart_at at_C ?_
    | (with_reducible refine wpAny_isSubtype_exc at_C ?_; first | rw [inB] | rw [notA] | rw [notN])
    | wp_step)
  show R _ _
  rw [Heap.size_push]
  exact done

theorem type_call_kw (F : ExcBaseFacts B newId initId bmB) (hT : ∀ X : String, bm.contains (.type X) = bmB.contains (.type X)) {fI : Addr} {Q : Fin → Shared → Prop}
    (at_C : h.get? C = some (excClassObj nm q C N bs bm true sn sub ab col dd k0 k1 k2 k3 k5 newId))
    (hi : W.Looks (model prog w) h (typeLookup (.ref C) "__init__") (some (.ref fI)))
    (hb : ∀ self, W.Looks (model prog w) h (bindSpecial (.ref fI) self) (.ref fI, [self])) (few : rest.length ≤ sizeLine)
    (go : codeAny (model prog w) A (.call (.ref fI) ⟨.ref (h.objs.size + 1) :: rest, kw⟩)
      (fun r s' => match r with
        | .ok (.ret v) => v = .none ∧ Q (.done (.ret (.ref (h.objs.size + 1)))) s'
        | .ok _ => False
        | .error e => E e s')
      ⟨(h.push (W.kdv_tup rest)).push (excO C h.objs.size), g, d, t, os⟩) :
    wpAny (model prog w) A (Builtin.«type.__call__» ⟨.ref C :: rest, kw⟩) Q E ⟨h, g, d, t, os⟩ := by
  repeat (first
    | with_reducible refine wpAny_loadPart_at at_C ?_
    | with_reducible refine wpAny_madeBy_exc at_C ?_
    | wp_step)
  refine codeAny_call_builtin_code (Code.quiet_builtin _ F.quiet) (check_new_kw F hT at_C ?_)
  refine new_kw F hT at_C ?_ few
  show wpAny _ _ _ _ _ _
  have old : ∀ b o, h.get? b = some o → ((h.push (W.kdv_tup rest)).push (excO C h.objs.size)).get? b = some o :=
    fun b o e => Heap.get?_push_of_some _ (Heap.get?_push_of_some _ e)
  have at_C2 := old _ _ at_C
  have at_e : ((h.push (W.kdv_tup rest)).push (excO C h.objs.size)).get? (h.objs.size + 1) = some (excO C h.objs.size) := by heap_get
  have selfC : (Value.ref C :: bm).contains (.ref C) = true := by simp
  have i1 := hi.keeps old
  have b1 := (hb (.ref (h.objs.size + 1))).keeps old
  unfold isInstance
  repeat (first
    | with_reducible refine wpAny_loadPart_at at_e ?_
    | (with_reducible refine wpAny_isSubtype_exc at_C2 ?_; rw [selfC])
    | wp_step)
  show wpAny _ _ (typeLookup (.ref C) _) _ _ _
  refine i1.at ?_
  refine wpAny_holding (wpAny_bind (b1.at ?_))
  refine wpAny_bind (wpAny_call (codeAny_mono go fun r s' z => ?_))
  rcases r with e | (v | _ | _ | _) <;> first | exact z | exact z.elim | skip
  obtain ⟨rfl, z⟩ := z
  first
    | exact wpAny_pure (wpAny_pure z)
    | (wp_walk; exact z)

theorem check_call_kw {Q : Unit → Shared → Prop} (at_C : h.get? C = some (excClassObj nm q C N bs bm true sn sub ab col dd k0 k1 k2 k3 k5 newId))
    (done : Q () ⟨h, g, d, t, os⟩) : wpAny (model prog w) A (checkBuiltinCall "type.__call__" ⟨.ref C :: rest, kw⟩) Q E ⟨h, g, d, t, os⟩ := by
  have f3 := tc_sub
  have ty : (⟨h, g, d, t, os⟩ : Shared).TypeIs (.ref C) "type" := ⟨_, at_C, rfl⟩
  simp only [checkBuiltinCall, tc_kind, tc_split]
  repeat (any_goals (first
    | assumption
    | with_reducible refine wpAny_loadPart_at at_C ?_
    | with_reducible refine wpAny_onRaise ?_
    | with_reducible refine wpAny_map ?_
    | wp_step))

theorem call_kw (F : ExcBaseFacts B newId initId bmB) (hT : ∀ X : String, bm.contains (.type X) = bmB.contains (.type X)) {fI : Addr}
    (at_C : h.get? C = some (excClassObj nm q C N bs bm true sn sub ab col dd k0 k1 k2 k3 k5 newId))
    (hi : W.Looks (model prog w) h (typeLookup (.ref C) "__init__") (some (.ref fI)))
    (hb : ∀ self, W.Looks (model prog w) h (bindSpecial (.ref fI) self) (.ref fI, [self])) (few : rest.length ≤ sizeLine)
    (go : codeAny (model prog w) (A.under (.builtin "type.__call__" ⟨.ref C :: rest, kw⟩)) (.call (.ref fI) ⟨.ref (h.objs.size + 1) :: rest, kw⟩)
      (W.InitBack (h.objs.size + 1) R) ⟨(h.push (W.kdv_tup rest)).push (excO C h.objs.size), g, d, t, os⟩) :
    codeAny (model prog w) A (.call (.ref C) ⟨rest, kw⟩) R ⟨h, g, d, t, os⟩ := by
  have f1 := tc_lookup
  have f2 := tc_bind (.ref C)
  have ty : (⟨h, g, d, t, os⟩ : Shared).TypeIs (.ref C) "type" := ⟨_, at_C, rfl⟩
  refine codeAny_of_tree ?_
  show wpAny _ _ (callAny (.ref C) _) _ _ _
  repeat (any_goals (first
    | assumption
    | with_reducible refine wpAny_loadPart_at at_C ?_
    | wp_step))
  refine ⟨rfl, ?_⟩
  refine codeAny_call_builtin_at (Code.quiet_builtin _ (by decide +kernel)) entry_typeCall ?_
  refine check_call_kw at_C (type_call_kw F hT at_C hi hb few ?_)
  refine codeAny_mono go fun r s' z => ?_
  rcases r with e | (v | _ | _ | _) <;> exact z
end
end Ev
end PySem

namespace L2
open PySem PySem.Spec PyProof.Rows

/-- what the written part says of an own exception class at C: its chain is own classes, then tail (that of the built-in B) -/
structure XT (K : PySem.W.Frag) (B newId initId : String) (tail : List Value) (C : Addr) : Prop where
  F : ExcBaseFacts B newId initId tail
  SF : StoreFacts B tail "object.__setattr__" "object"
  te : tail.isEmpty = false
  cls : ∃ nm q N bs, ∃ cs : List Addr, ∃ sn sub ab col dd k0 k1 k2 k3 k5,
    K.lookup C = some (excClassObj nm q C N bs (cs.map Value.ref ++ tail) true sn sub ab col dd k0 k1 k2 k3 k5 newId)
  sa : PySem.W.findIn K (.ref C) "__setattr__" = some (some (.builtin "object.__setattr__"))
  ga : PySem.W.findIn K (.ref C) "__getattribute__" = some (some (.builtin "BaseException.__getattribute__"))
  gg : PySem.W.findIn K (.ref C) "__getattr__" = some none
  ex : PySem.W.subIn K (.ref C) (.type "BaseException") = some true
  kp : PySem.W.keepIn K (.ref C) = true
  hd : PySem.W.hasDictIn K C = true
  ha : PySem.W.findIn K (.ref C) "__class__" = some (some (.builtin "object.__class__"))
  hn : PySem.W.specialIn K (.builtin "object.__class__") "__get__" = some (some (.builtin "getset_descriptor.__get__"))
  ht : PySem.W.takesIn K (.builtin "object.__class__") = some true
  hm : PySem.W.mroIn K C (.type "object") = some true

theorem own_contains (X : String) (tail : List Value) : ∀ cs : List Addr, (cs.map Value.ref ++ tail).contains (.type X) = tail.contains (.type X)
  | [] => rfl
  | c :: cs => by
    show (Value.ref c :: (cs.map Value.ref ++ tail)).contains (.type X) = _
    rw [List.contains_cons, own_contains X tail cs]
    rfl
theorem own_pass {B sa ow : String} {tail : List Value} (S : StoreFacts B tail sa ow) (self : Value) : ∀ cs : List Addr, refuseLoop self "__setattr__" (cs.map Value.ref ++ tail) = pure ()
  | [] => S.passes self
  | c :: cs => by
    show refuseLoop self "__setattr__" (Value.ref c :: (cs.map Value.ref ++ tail)) = _
    rw [refuseLoop_ref]
    exact own_pass S self cs

section
variable {X : Cx} {pins : List (Addr × Obj)} {σ : L2.St} {H : Hp} {s : Shared} {a C dx : Addr} {f : Str} {y : V} {u : Value} {fs : List (Str × V)} {Q : Unit → Shared → Prop} {E : Value → Shared → Prop} {A : Around}
variable {B newId initId : String} {tail : List Value}

theorem XT.chain {K : PySem.W.Frag} (T : XT K B newId initId tail C) (cs : List Addr) : Ev.Chain (.ref C :: (cs.map Value.ref ++ tail)) where
  ne := rfl
  ob := by
    rw [List.contains_cons, own_contains, T.SF.hasOwner]
    rfl
  pass := fun self => by
    rw [refuseLoop_ref]
    exact own_pass T.SF self cs

/-- self.f = y, the first field -/
theorem fx_first (T : XT X.K B newId initId tail C) (I : Inv X pins σ H s) (e : H a = some (exo a C none)) (free : PySem.W.findIn X.K (.ref C) f = some none) (ry : RelV y u)
    (h : ∀ dx s', H dx = none → dx ≠ a → Inv X pins σ (upd (upd H dx (exd dx [(f, y)])) a (exo a C (some dx))) s' → Q () s') :
    wpAny (model X.prog X.w) A (setAttr (.ref a) f u) Q E s := by
  obtain ⟨nm, q, N, bs, cs, sn, sub, ab, col, dd, k0, k1, k2, k3, k5, atC⟩ := T.cls
  have look : PySem.W.clsIn X.K C = some { name := nm, bases := bs, mro := .ref C :: (cs.map Value.ref ++ tail), ns := N, qualname := q, hasDict := true, slotNames := sn, subclasses := sub, abstract := ab, collection := col, hasDel := false } := by
    unfold PySem.W.clsIn
    rw [atC] <;> rfl
  obtain ⟨t1, ho⟩ := exo_at I.hok e
  obtain ⟨hp, g, d, t, os⟩ := s
  refine PySem.W.set_plain I.kIn (ox := { cls := .ref C, dict := none, data := .fields #[.ref t1, .none, .none, .none, .bool false, .none] }) (od := none) ⟨ho, rfl, rfl, trivial⟩ T.sa ?_
  refine Ev.first_store I.kIn ho look (T.chain cs) rfl free fun h' tk' dx k dn dne hx hn => ?_
  have none_d : H dx = none := I.hok.fresh dn
  have notD : ∀ {b : Addr} {o : Obj}, hp.get? b = some o → b ≠ dx := fun {b o} z => Nat.ne_of_lt (Nat.lt_of_lt_of_le (Heap.lt_size z) dn)
  have notA : ∀ {b : Addr}, H b = none → b ≠ a := fun {b} n z => by
    rw [z, e] at n
    cases n
  have un : Un X.fs [] H (upd (upd H dx (exd dx [(f, y)])) a (exo a C (some dx))) hp h' :=
    { keep := fun b o z n _ _ => k b o (notA n) z
      slot := fun b o z n _ _ => ⟨o.slots, k b o (notA n) z⟩
      free := fun b o z n _ => by
        rw [upd_ne (notA n), upd_ne (notD z)]
        exact n
      there := fun b o z _ => by
        by_cases hb : b = a
        · subst hb
          exact ⟨_, hx⟩
        · exact ⟨o, k b o hb z⟩
      tups := fun b xs z => by
        rw [upd_ne (at_ne e z exo_tup), upd_ne (ne_of_none z none_d)]
        exact z
      frzs := fun b o v z => by
        rw [upd_ne (at_ne e z exo_frz), upd_ne (ne_of_none z none_d)]
        exact z
      tbls := fun b ps z => ⟨#[], by
        rw [upd_ne (at_ne e z exo_tbl), upd_ne (ne_of_none z none_d), z]
        simp⟩ }
  refine h dx _ none_d dne (I.un (t' := tk') un fun b o z => ?_)
  by_cases hb : b = a
  · subst hb
    rw [upd_same] at z
    cases z
    exact exo_ok hx
  rw [upd_ne hb] at z
  by_cases hd : b = dx
  · subst hd
    rw [upd_same] at z
    cases z
    exact exd_ok hn (relO_put (fs := []) ry fun g => True.intro)
  rw [upd_ne hd] at z
  have own_ne : ∀ {c : Addr}, H c = some (.own b) → c ≠ a := fun hc => at_ne e hc exo_own
  refine (I.hok b o z).stay (fun c v hc y => k c v ?_ y) (fun c hc => ?_) fun c xs hc => ?_
  · rcases hc with hc | hc
    · exact hc ▸ hb
    · exact own_ne hc
  · rw [upd_ne (own_ne hc), upd_ne (ne_of_none hc none_d)]
    exact hc
  · rw [upd_ne (at_ne e hc exo_tup), upd_ne (ne_of_none hc none_d)]
    exact hc

/-- self.f = y, a field more -/
theorem fx_next (T : XT X.K B newId initId tail C) (I : Inv X pins σ H s) (e : H a = some (exo a C (some dx))) (ed : H dx = some (exd dx fs)) (few : fs.length ≤ 900)
    (free : PySem.W.findIn X.K (.ref C) f = some none) (ry : RelV y u) (h : ∀ s', Inv X pins σ (upd H dx (exd dx ((f, y) :: fs))) s' → Q () s') :
    wpAny (model X.prog X.w) A (setAttr (.ref a) f u) Q E s := by
  obtain ⟨nm, q, N, bs, cs, sn, sub, ab, col, dd, k0, k1, k2, k3, k5, atC⟩ := T.cls
  have look : PySem.W.clsIn X.K C = some { name := nm, bases := bs, mro := .ref C :: (cs.map Value.ref ++ tail), ns := N, qualname := q, hasDict := true, slotNames := sn, subclasses := sub, abstract := ab, collection := col, hasDel := false } := by
    unfold PySem.W.clsIn
    rw [atC] <;> rfl
  obtain ⟨t1, ho⟩ := exo_at I.hok e
  obtain ⟨mA, hns, rel⟩ := exd_at I.hok ed
  have wi := within_of rel
  obtain ⟨hp, g, d, t, os⟩ := s
  obtain ⟨oD, _, _, hoD, _, _⟩ := hns.count wi
  refine PySem.W.set_plain I.kIn (ox := { cls := .ref C, dict := some dx, data := .fields #[.ref t1, .none, .none, .none, .bool false, .none] }) (od := some oD) ⟨ho, rfl, rfl, hoD⟩ T.sa ?_
  refine Ev.next_store I.kIn ho hns wi ?_ look (T.chain cs) rfl free fun h' tk' k hn => ?_
  · rw [List.length_map]
    omega
  have there : ∃ o, h'.get? dx = some o := by
    obtain ⟨o, _, _, z, _⟩ := hn
    exact ⟨o, z⟩
  refine h _ (I.write (t' := tk') (x := dx) (e := dx) (o := exd dx ((f, y) :: fs)) ?_ (.inl rfl) k there (exd_ok hn (relO_put ry rel)))
  rw [ed]
  exact True.intro
end

/-- self.f = e in an __init__ -/
def tFx (K : PySem.W.Frag) (f : Str) (to te : TE) : TS := fun D σ H => te σ H fun y H1 => to σ H1 fun x H2 => ∃ (B newId initId : String) (tail : List Value) (a C : Addr), x = .ref a ∧ XT K B newId initId tail C ∧ PySem.W.findIn K (.ref C) f = some none ∧
  ((H2 a = some (exo a C none) ∧ ∀ dx, H2 dx = none → dx ≠ a → D.nx σ (upd (upd H2 dx (exd dx [(f, y)])) a (exo a C (some dx)))) ∨
    ∃ (dx : Addr) (fs : List (Str × V)), H2 a = some (exo a C (some dx)) ∧ H2 dx = some (exd dx fs) ∧ fs.length ≤ 900 ∧ D.nx σ (upd H2 dx (exd dx ((f, y) :: fs))))
theorem ps_fx {X : Cx} {o e : Expr} {to te : TE} {f : Str} {p' pos : Pos} (ho : PE X o to) (he : PE X e te) (hs : swapsWith e (some (.Attribute o f p')) pos.line X.env = pure false := by rfl) :
    PS X (.Assign [.Attribute o f p'] e pos) (tFx X.K f to te) := by
  refine ⟨fun pins s σ H D I h => ?_⟩
  refine plainObj_wpAny_Assign_Attribute (thn (he.run pins s σ H _ I h) fun v s1 hv => ?_) hs
  obtain ⟨y, H1, I1, r1, q1⟩ := hv
  refine thn (ho.run pins s1 σ H1 _ I1 q1) fun u s2 hu => ?_
  obtain ⟨x, H2, I2, r2, B, newId, initId, tail, a, C, ex, T, free, q⟩ := hu
  subst ex
  obtain rfl : u = Value.ref a := r2
  rcases q with ⟨ea, q⟩ | ⟨dx, fs, ea, ed, few, q⟩
  · exact fx_first T I2 ea free r1 fun dx s' n ne J => ⟨σ, _, J, q dx n ne⟩
  · exact fx_next T I2 ea ed few free r1 fun s' J => ⟨σ, _, J, q⟩
end L2

namespace L2
open PySem PySem.Spec PyProof.Rows
section
variable {X : Cx} {pins : List (Addr × Obj)} {σ : L2.St} {H : Hp} {s : Shared} {C fI : Addr} {Q : VK} {E : XK} {CX : CXT} {k : Nat} {fd : FuncData} {ps ks : List Str} {sp : Sp}
variable {B newId initId : String} {tail : List Value} {x : Str} {p pos : Pos} {e : Expr} {es : List Expr} {kws : List Keyword} {t tk te : TA}

/-- a call of the class, whatever way its arguments come -/
theorem run_mkx {us zs : List Value} {kw : List (Str × Value)} {vs : List V} (T : XT X.K B newId initId tail C) (iC : PySem.W.findIn X.K (.ref C) "__init__" = some (some (.ref fI))) (tI : PySem.W.typeIn X.K (.ref fI) = some (.type "function"))
    (G : FnOk X.prog X.w X.K X.mg X.base CX k fI fd ps sp) (hr : Room (k + 1) X.A) (hx : Passes CX X E)
    (bind : ∀ (s : Shared) (a : Value), X.K.In s.heap → (a :: zs).length = ps.length → BindsTo s fd ⟨a :: us, kw⟩ (ps.zip (a :: zs))) (I : Inv X pins σ H s) (r : Vals vs zs) (few : us.length ≤ sizeLine)
    (h : ∀ a, H a = none → sp (.ref a :: vs) (upd H a (exo a C none)) (fun v H2 => v = .non ∧ Q (.ref a) H2) E) :
    wpAny (model X.prog X.w) X.A (call (.ref C) us kw) (EP X pins σ Q) X.xe s := by
  obtain ⟨nm, q, N, bs, cs, sn, sub, ab, col, dd, k0, k1, k2, k3, k5, atC⟩ := T.cls
  obtain ⟨hp, g, dr, tk, os⟩ := s
  have le : hp.objs.size ≤ hp.objs.size + 1 := Nat.le_succ _
  have want := h (hp.objs.size + 1) (I.hok.fresh le)
  have old : ∀ b o, hp.get? b = some o → ((hp.push (PySem.W.kdv_tup us)).push (PySem.HandSPX.excO C hp.objs.size)).get? b = some o :=
    fun b o z => Heap.get?_push_of_some _ (Heap.get?_push_of_some _ z)
  have new : ((hp.push (PySem.W.kdv_tup us)).push (PySem.HandSPX.excO C hp.objs.size)).get? (hp.objs.size + 1) = some (PySem.HandSPX.excO C hp.objs.size) := by heap_get
  have I2 : Inv X pins σ (upd H (hp.objs.size + 1) (exo (hp.objs.size + 1) C none)) ⟨(hp.push (PySem.W.kdv_tup us)).push (PySem.HandSPX.excO C hp.objs.size), g, dr, tk, os⟩ :=
    I.laid (t' := tk) (a := hp.objs.size + 1) (o := exo (hp.objs.size + 1) C none) (h' := (hp.push (PySem.W.kdv_tup us)).push (PySem.HandSPX.excO C hp.objs.size)) old le (exo_ok new)
  have r2 : Vals (V.ref (hp.objs.size + 1) :: vs) (Value.ref (hp.objs.size + 1) :: zs) := .cons rfl r
  have len : (Value.ref (hp.objs.size + 1) :: zs).length = ps.length := by
    have z := r2.length
    rw [G.len _ _ _ _ want] at z
    exact z.symm
  refine wpAny_call (Ev.call_kw T.F (fun Y => own_contains Y tail cs) (I.kIn _ _ atC) (PySem.W.looks_findIn I.kIn iC) (fun self => PySem.W.bind_fn I.kIn self tI) few ?_)
  refine codeAny_mono (G.run _ X.stack _ _ ⟨Value.ref (hp.objs.size + 1) :: us, kw⟩ (Value.ref (hp.objs.size + 1) :: zs) _ _ E (hr.make C us kw) (I2.env0.make C us kw) (bind _ _ I2.kIn len) r2 want) fun r s' back => ?_
  cases r with
  | error er => exact hx pins σ _ _ er s' I2 back
  | ok fl =>
    cases fl with
    | ret u =>
      obtain ⟨v, H', I3, rv, ev, q3⟩ := I2.after back
      subst ev
      exact ⟨rv, ⟨V.ref (hp.objs.size + 1), H', I3, rfl, q3⟩⟩
    | next => exact False.elim back
    | brk => exact False.elim back
    | cont => exact False.elim back

/-- C(e, ..) as a value: a new exception object whose own __init__ keeps sp -/
def tMkx (C : Addr) (sp : Sp) (E : XK) (t : TA) : TE := fun σ H Q => t σ H fun vs H1 => vs.length ≤ 1000 ∧ ∀ a, H1 a = none → sp (.ref a :: vs) (upd H1 a (exo a C none)) (fun v H2 => v = .non ∧ Q (.ref a) H2) E
theorem pe_mkx (T : XT X.K B newId initId tail C) (iC : PySem.W.findIn X.K (.ref C) "__init__" = some (some (.ref fI))) (tI : PySem.W.typeIn X.K (.ref fI) = some (.type "function"))
    (G : FnOk X.prog X.w X.K X.mg X.base CX k fI fd ps sp) (hr : Room (k + 1) X.A) (hb : Binds X.K fd ps []) (hx : Passes CX X E) (hg : Gl X x) (hm : X.mg x = some (.ref C)) (ha : PA X (e :: es) t)
    (hdb : (x == ("__debug__" : Str)) = false := by decide) (he : starEach (e :: es) X.env = (false, eval e X.env) :: starEach es X.env := by rfl) (hpl : (backTo pos (starEach es X.env)).any (·.1) = false := by rfl) :
    PE X (.Call (.Name x p) (e :: es) [] pos) (tMkx C sp E t) := by
  refine ⟨fun pins s σ H Q I h => wpAny_Call_Name_kw (ld_glob I hg hm ?_ hdb)⟩
  refine PySem.W.callWith_K (h₀ := X.base) I.ok.mod.kin T.kp (thn (ha.run pos pins s σ H _ I h) fun us s1 hu => ?_) he hpl
  obtain ⟨vs, H1, I1, r1, few, q1⟩ := hu
  refine ⟨I1.kIn, run_mkx (kw := []) (zs := us) T iC tI G hr hx (fun s a kin hl => ?_) I1 r1 ?_ q1⟩
  · have z := hb s (a :: us) kin (by simpa using hl)
    simpa using z
  · show us.length ≤ sizeLine
    rw [← Paired.length r1, sizeLine_eq]
    omega
/-- C(f=e): one keyword, no other argument -/
theorem pe_mkxK {f : Str} (T : XT X.K B newId initId tail C) (iC : PySem.W.findIn X.K (.ref C) "__init__" = some (some (.ref fI))) (tI : PySem.W.typeIn X.K (.ref fI) = some (.type "function"))
    (G : FnOk X.prog X.w X.K X.mg X.base CX k fI fd ps sp) (hr : Room (k + 1) X.A) (hx : Passes CX X E) (hg : Gl X x) (hm : X.mg x = some (.ref C)) (order : List Value → List Value) (orderV : List V → List V)
    (hb : ∀ (s : Shared) (a : Value) (zs : List Value), X.K.In s.heap → (a :: order zs).length = ps.length → BindsTo s fd ⟨[a], ks.zip zs⟩ (ps.zip (a :: order zs))) (hv : ∀ {vs : List V} {zs : List Value}, Vals vs zs → Vals (orderV vs) (order zs))
    (hkw : PK X kws t) (hall : (backToKw pos (keywordEach kws X.env)).all (·.1.isSome) = true := by rfl) (hks : (backToKw pos (keywordEach kws X.env)).filterMap (·.1) = ks := by rfl) (hdb : (x == ("__debug__" : Str)) = false := by decide)
    (hpl : ((backTo pos (starEach [] X.env)).any (·.1) || (backToKw pos (keywordEach kws X.env)).any (·.1.isNone)) = false := by rfl) :
    PE X (.Call (.Name x p) [] kws pos) (fun σ H Q => t σ H fun vs H1 => ∀ a, H1 a = none → sp (.ref a :: orderV vs) (upd H1 a (exo a C none)) (fun v H2 => v = .non ∧ Q (.ref a) H2) E) := by
  refine ⟨fun pins s σ H Q I h => wpAny_Call_Name_kw (ld_glob I hg hm ?_ hdb)⟩
  refine PySem.W.callWith_KW0 (h₀ := X.base) I.ok.mod.kin T.kp hall (thn (hkw.run pos pins s σ H _ I h) fun ws s1 hw => ?_) hpl
  obtain ⟨vs, H1, I1, r1, q1⟩ := hw
  refine ⟨I1.kIn, ?_⟩
  rw [hks]
  exact run_mkx (us := []) (zs := order ws) T iC tI G hr hx (fun s a kin hl => hb s a ws kin hl) I1 (hv r1) (by rw [sizeLine_eq]; exact Nat.zero_le _) q1
/-- C(), without an own __init__ and without arguments -/
theorem pe_mkx0 {tl : List Value} (F : ExcBaseFacts B newId initId tl) (q : PySem.W.excIn X.K C tl newId = true) (kp : PySem.W.keepIn X.K (.ref C) = true) (hg : Gl X x) (hm : X.mg x = some (.ref C)) (hdb : (x == ("__debug__" : Str)) = false := by decide) :
    PE X (.Call (.Name x p) [] [] pos) (fun σ H Q => ∀ a, H a = none → Q (.ref a) (upd H a (exo a C none))) := by
  refine ⟨fun pins s σ H Q I h => wpAny_Call_Name_kw (ld_glob I hg hm ?_ hdb)⟩
  refine PySem.W.callWith_K0 I.kIn kp ?_
  obtain ⟨bm, N, nm, qn, bs, hdct, sn, sub, ab, col, dd, k0, k1, k2, k3, k5, mN, hC, hN, hni, T⟩ := exc_obj I.kIn q
  show wpAny _ _ (call (.ref C) []) _ _ _
  refine wpAny_call_exc_subT F T hC hN hni (fun h' a made => ?_) (by show 0 ≤ sizeLine; exact Nat.zero_le _)
  have free : H a = none := I.hok.gone made.new
  obtain ⟨tt, ht, _, _⟩ := made.there
  exact ⟨.ref a, upd H a (exo a C none), I.laidN made.keeps made.new free (exo_ok ht), rfl, h a free⟩
end

/-- a made exception: its object, of the class at C, and its fields -/
def ExAt (H : Hp) (a C : Addr) (fs : List (Str × V)) : Prop := (H a = some (exo a C none) ∧ fs = []) ∨ ∃ d, H a = some (exo a C (some d)) ∧ H d = some (exd d fs)
theorem ExAt.inst {X : Cx} {pins : List (Addr × Obj)} {σ : L2.St} {H : Hp} {s : Shared} {a C : Addr} {fs : List (Str × V)} (I : Inv X pins σ H s) (h : ExAt H a C fs) :
    ∃ (oe : Obj) (od : Option Obj), PySem.W.InstAt s.heap a oe C od := by
  rcases h with ⟨e, _⟩ | ⟨d, e, ed⟩
  · obtain ⟨t1, ho⟩ := exo_at I.hok e
    exact ⟨_, none, ho, rfl, rfl, trivial⟩
  · obtain ⟨t1, ho⟩ := exo_at I.hok e
    obtain ⟨mA, hns, rel⟩ := exd_at I.hok ed
    obtain ⟨od, h1, h2⟩ := lookIn_ns hns
    exact ⟨_, some od, ho, rfl, rfl, h1⟩
theorem ExAt.same {H H' : Hp} {a C : Addr} {fs : List (Str × V)} (sm : ∀ b o, H b = some o → H' b = some o) (h : ExAt H a C fs) : ExAt H' a C fs := by
  rcases h with ⟨e, z⟩ | ⟨d, e, ed⟩
  · exact .inl ⟨sm _ _ e, z⟩
  · exact .inr ⟨d, sm _ _ e, sm _ _ ed⟩
/-- isinstance(x, c), x a made exception -/
def rIsX (K : PySem.W.Frag) : List V → Hp → VK → Prop := fun xs H Q => ∃ (B newId initId : String) (tail : List Value) (a D : Addr) (fs : List (Str × V)) (c : V) (cv : Value) (b : Bool), xs = [.ref a, c] ∧
  XT K B newId initId tail D ∧ ExAt H a D fs ∧ ClsV c cv ∧ PySem.W.kitOne K (.ref D) cv = some b ∧ Q (.bl b) H
theorem call_isX {X : Cx} : CallR X (.builtin "isinstance") (rIsX X.K) := by
  intro pins s σ H xs us Q I r h
  obtain ⟨B, newId, initId, tail, a, D, fs, c, cv, b, rfl, T, ea, hc, e, q⟩ := h
  obtain ⟨u1, u2, rfl, r1, r2⟩ := vals2 r
  cases (show u1 = Value.ref a from r1)
  have z := hc.eq r2
  subst z
  obtain ⟨oe, od, J⟩ := ea.inst I
  have some_cls : (PySem.W.clsIn X.K D).isSome = true := by
    obtain ⟨cd, z, _⟩ := PySem.W.any_some T.hd
    rw [z]
    rfl
  exact PySem.W.kia_one (PySem.W.kitx_exc some_cls T.ga T.gg T.ex T.ha T.hn T.ht T.hm) I.kIn J e (fun z => nomatch z) fun tk => ⟨.bl b, H, I.tok tk, rfl, q⟩
/-- x.f, x a made exception that has the field -/
def tXa (K : PySem.W.Frag) (f : Str) (te : TE) : TE := fun σ H Q => te σ H fun x H1 => ∃ (B newId initId : String) (tail : List Value) (a D d : Addr) (fs : List (Str × V)) (v : V), x = .ref a ∧ XT K B newId initId tail D ∧
  PySem.W.findIn K (.ref D) f = some none ∧ H1 a = some (exo a D (some d)) ∧ H1 d = some (exd d fs) ∧ fs.lookup f = some v ∧ Q v H1
theorem pe_xa {X : Cx} {e : Expr} {te : TE} {pos : Pos} {f : Str} (he : PE X e te) (hb : attributeBase e f X.env (eval e X.env) = eval e X.env := by rfl) : PE X (.Attribute e f pos) (tXa X.K f te) := by
  refine ⟨fun pins s σ H Q I h => attr_of hb (thn (he.run pins s σ H _ I h) fun u s1 hh => ?_)⟩
  obtain ⟨x, H1, I1, rx, B, newId, initId, tail, a, D, d, fs, v, ex, T, free, ea, ed, l, q⟩ := hh
  subst ex
  obtain rfl : u = Value.ref a := rx
  obtain ⟨t1, ho⟩ := exo_at I1.hok ea
  obtain ⟨mA, hns, rel⟩ := exd_at I1.hok ed
  obtain ⟨od, h1, h2⟩ := lookIn_ns hns
  obtain ⟨u, hu, ru⟩ := RelO.some_of (v := v) (o := mA f) (by rw [← l]; exact rel f)
  have J : PySem.W.InstAt s1.heap a _ D (some od) := ⟨ho, rfl, rfl, h1⟩
  exact HandSPX.exc_get I1.kIn J T.ga T.gg T.ex (PySem.W.findObj_own T.hd free rfl (by rw [h2, hu])) (handed_of ru) ⟨v, H1, I1.tok _, ru, q⟩
end L2

namespace L2
open PySem PySem.Spec PyProof.Rows

/-! data as repr reads it: None, bools, ints, texts, lists, tuples, empty dicts. b says whether a dict may stand in it: then no list is where the interpreter's own table of modules stands -/
mutual
inductive Da (K : PySem.W.Frag) (H : Hp) (b : Bool) : V → PyData → Prop
  | non : Da K H b .non .none
  | bl (z : Bool) : Da K H b (.bl z) (.bool z)
  | int (i : Int) : Da K H b (.int i) (.int i)
  | str (x : Str) : Da K H b (.str x) (.str x)
  | lst {a : Addr} {xs : List V} {ds : List PyData} (h : SqL K H a xs) (all : DaAll K H b xs ds) (ok : b = true → a ≠ sysModules) : Da K H b (.ref a) (.list ds)
  | tup {a : Addr} {xs : List V} {ds : List PyData} (h : SqT K H a xs) (all : DaAll K H b xs ds) : Da K H b (.ref a) (.tuple ds)
  | dic {a : Addr} (h : H a = some (.dK [])) (ok : b = true) : Da K H b (.ref a) (.dict [])
inductive DaAll (K : PySem.W.Frag) (H : Hp) (b : Bool) : List V → List PyData → Prop
  | nil : DaAll K H b [] []
  | cons {v : V} {vs : List V} {d : PyData} {ds : List PyData} (h : Da K H b v d) (t : DaAll K H b vs ds) : DaAll K H b (v :: vs) (d :: ds)
end

section
variable {X : Cx} {pins : List (Addr × Obj)} {σ : L2.St} {H : Hp} {s : Shared} {b : Bool}
mutual
theorem Da.reads (I : Inv X pins σ H s) : ∀ (d : PyData) (v : V) (u : Value), Da X.K H b v d → RelV v u → ∃ as, Reads s.heap u d as ∧ (b = true → sysModules ∉ as) ∧ (b = false → d.hasDict = false)
  | .none, _, _, h, r => by
    cases h
    cases r
    exact ⟨[], .none, fun _ => by simp, fun _ => by simp [PyData.hasDict]⟩
  | .bool z, _, _, h, r => by
    cases h
    cases r
    exact ⟨[], .bool z, fun _ => by simp, fun _ => by simp [PyData.hasDict]⟩
  | .int i, _, _, h, r => by
    cases h
    obtain ⟨t, rfl⟩ := r
    exact ⟨[], .int i t, fun _ => by simp, fun _ => by simp [PyData.hasDict]⟩
  | .str x, _, _, h, r => by
    cases h
    obtain ⟨t, rfl⟩ := r
    exact ⟨[], .str x t, fun _ => by simp, fun _ => by simp [PyData.hasDict]⟩
  | .list ds, _, _, h, r => by
    cases h with
    | @lst a xs _ hs ha ok =>
      cases r
      obtain ⟨its, rv, ⟨o, n, ho, hc, _, hd⟩, _⟩ := I.list hs
      obtain ⟨as, hr, no, nd⟩ := Da.readsAll I ds _ its ha rv
      refine ⟨_, Reads.list ho hc hd hr, fun hb mem => ?_, fun hb => by simp only [PyData.hasDict]; exact nd hb⟩
      rcases List.mem_cons.mp mem with e | mem
      · exact ok hb e.symm
      · exact no hb mem
  | .tuple ds, _, _, h, r => by
    cases h with
    | tup hs ha =>
      cases r
      obtain ⟨its, rv, ⟨o, ho, hc, n, hd⟩, _⟩ := I.tuple hs
      obtain ⟨as, hr, no, nd⟩ := Da.readsAll I ds _ its ha rv
      exact ⟨_, Reads.tuple ho hc hd hr, no, fun hb => by simp only [PyData.hasDict]; exact nd hb⟩
  | .dict kvs, _, _, h, r => by
    cases h with
    | @dic a ea ok =>
      cases r
      obtain ⟨_, hsys, vs, kv, o, es, ep, h1, h2, h3, h4⟩ : ([] : List (Key × V)).length ≤ sizeLine ∧ (a == sysModules) = false ∧ ∃ vs, KV ([] : List (Key × V)) vs ∧ s.heap.DictOf (mixKind X.prog X.w) a vs := I.hok a _ ea
      cases kv
      obtain ⟨_, pr, _⟩ := h4
      have e0 : es.toList = [] := by
        cases z : es.toList with
        | nil => rfl
        | cons x l =>
          rw [z] at pr
          cases pr
      refine ⟨_, Reads.dict (kvs := []) (as := []) (bs := []) h1 h2.1 h3 ?_ ?_, fun _ mem => ?_, fun hb => ?_⟩
      · rw [e0]
        exact .nil
      · rw [e0]
        exact .nil
      · have z : sysModules = a := by simpa using mem
        rw [z] at hsys
        simp at hsys
      · rw [ok] at hb
        cases hb
theorem Da.readsAll (I : Inv X pins σ H s) : ∀ (ds : List PyData) (vs : List V) (us : List Value), DaAll X.K H b vs ds → Vals vs us → ∃ as, ReadsAll s.heap us ds as ∧ (b = true → sysModules ∉ as) ∧ (b = false → PyData.hasDictAll ds = false)
  | [], _, _, h, r => by
    cases h
    cases r
    exact ⟨[], .nil, fun _ => by simp, fun _ => by simp [PyData.hasDictAll]⟩
  | d :: ds, _, _, h, r => by
    cases h with
    | cons h1 h2 =>
      cases r with
      | cons r1 r2 =>
        obtain ⟨as, q1, n1, m1⟩ := Da.reads I d _ _ h1 r1
        obtain ⟨bs, q2, n2, m2⟩ := Da.readsAll I ds _ _ h2 r2
        exact ⟨_, .cons q1 q2, fun hb z => (List.mem_append.mp z).elim (n1 hb) (n2 hb), fun hb => by simp only [PyData.hasDictAll]; rw [m1 hb, m2 hb]; rfl⟩
end
end

/-- repr(x), x data; it tells the text of the data -/
def rRepr (K : PySem.W.Frag) : List V → Hp → VK → Prop := fun xs H Q => ∃ (x : V) (d : PyData) (b : Bool), xs = [x] ∧ Da K H b x d ∧ d.showable = true ∧ d.shown.length ≤ sizeLine ∧ d.depth ≤ 60 ∧ Q (.str d.shown) H
theorem call_repr {X : Cx} (hg : X.A.guards = some []) (hu : X.A.units + 100 < cLine) : CallR X (.builtin "repr") (rRepr X.K) := by
  intro pins s σ H xs us Q I r h
  obtain ⟨x, d, b, rfl, hd, sh, sz, dep, q⟩ := h
  obtain ⟨u, rfl, rx⟩ := vals1 r
  obtain ⟨as, rd, no, nd⟩ := Da.reads I d x u hd rx
  have hsm : d.hasDict = true → sysModules ∉ as := fun z => by
    cases b with
    | true => exact no rfl
    | false =>
      rw [nd rfl] at z
      cases z
  cases rd with
  | none => exact PySem.P.repr_of_none ⟨.str _, H, I.tok _, ⟨_, rfl⟩, q⟩
  | bool b => exact PySem.P.repr_of_bool ⟨.str _, H, I.tok _, ⟨_, rfl⟩, q⟩
  | int i t => exact PySem.P.repr_of_int (by simpa [PyData.showable] using sh) ⟨.str _, H, I.tok _, ⟨_, rfl⟩, q⟩
  | str z t => exact PySem.P.repr_of_str ⟨.str _, H, I.tok _, ⟨_, rfl⟩, q⟩ (by simpa [PyData.shown] using sz)
  | list h1 h2 h3 h4 => exact repr_of_reads' (.list h1 h2 h3 h4) sh hsm hg (by omega) (fun _ _ z => z) (fun h' u tk k => ⟨.str _, H, I.kept (t' := tk) k, ⟨_, rfl⟩, q⟩) sz
  | tuple h1 h2 h3 h4 => exact repr_of_reads' (.tuple h1 h2 h3 h4) sh hsm hg (by omega) (fun _ _ z => z) (fun h' u tk k => ⟨.str _, H, I.kept (t' := tk) k, ⟨_, rfl⟩, q⟩) sz
  | dict h1 h2 h3 h4 h5 => exact repr_of_reads' (.dict h1 h2 h3 h4 h5) sh hsm hg (by omega) (fun _ _ z => z) (fun h' u tk k => ⟨.str _, H, I.kept (t' := tk) k, ⟨_, rfl⟩, q⟩) sz
/-- [e, ..]: a new list, not where the table of modules stands -/
def tLstN (t : TA) : TE := fun σ H Q => t σ H fun xs H1 => xs.length ≤ sizeLine ∧ ∀ p, H1 p = none → p ≠ sysModules → Q (.ref p) (upd H1 p (.lst xs))
theorem pe_lstN {X : Cx} {es : List Expr} {t : TA} {pos : Pos} (h : PA X es t) : PE X (.List es pos) (tLstN t) := by
  refine ⟨fun pins s σ H Q I want => wpAny_List_spliced (thn (h.run pos pins s σ H _ I want) fun us s1 hu => ?_)⟩
  obtain ⟨xs, H1, I1, r, few, q⟩ := hu
  refine ⟨by rw [← r.length]; exact few, ?_⟩
  have free : H1 s1.heap.objs.size = none := I1.hok.fresh (Nat.le_refl _)
  have big : s1.heap.objs.size ≠ sysModules := Nat.ne_of_gt I1.big
  refine ⟨.ref s1.heap.objs.size, upd H1 s1.heap.objs.size (.lst xs), I1.laid (t' := s1.toks) (fun b u z => Heap.get?_push_of_some _ z) (Nat.le_refl _) ?_, rfl, q _ free big⟩
  exact ⟨few, us, 0, r, Heap.get?_push_size _ rfl⟩
mutual
theorem Da.mono {K : PySem.W.Frag} {H H' : Hp} {b : Bool} (sm : Same H H') : ∀ (d : PyData) (v : V), Da K H b v d → Da K H' b v d
  | .none, _, h => by
    cases h
    exact .non
  | .bool b, _, h => by
    cases h
    exact .bl b
  | .int i, _, h => by
    cases h
    exact .int i
  | .str x, _, h => by
    cases h
    exact .str x
  | .list ds, _, h => by
    cases h with
    | lst hs ha ok => exact .lst (sm.seq hs) (DaAll.mono sm ds _ ha) ok
  | .tuple ds, _, h => by
    cases h with
    | tup hs ha =>
      refine .tup ?_ (DaAll.mono sm ds _ ha)
      rcases hs with (e | ⟨o, e⟩) | z
      · exact .inl (.inl (sm _ _ e))
      · exact .inl (.inr ⟨o, sm _ _ e⟩)
      · exact .inr z
  | .dict ds, _, h => by
    cases h with
    | dic e ok => exact .dic (sm _ _ e) ok
theorem DaAll.mono {K : PySem.W.Frag} {H H' : Hp} {b : Bool} (sm : Same H H') : ∀ (ds : List PyData) (vs : List V), DaAll K H b vs ds → DaAll K H' b vs ds
  | [], _, h => by
    cases h
    exact .nil
  | d :: ds, _, h => by
    cases h with
    | cons h1 h2 => exact .cons (Da.mono sm d _ h1) (DaAll.mono sm ds _ h2)
end

/-! ### promises of defs that are called while no repr runs -/
structure FnG (P : Program) (w : World) (K : PySem.W.Frag) (mg : Str → Option Value) (base : Heap) (CX : CXT) (k : Nat) (f : Addr) (fd : FuncData) (ps : List Str) (sp : Sp) : Prop where
  len : ∀ vs H Q E, sp vs H Q E → vs.length = ps.length
  go : ∀ (A : Around) (outer : List Env) (s : Shared) (H : Hp) (args : Args) (us : List Value) (vs : List V) (Q : VK) (E : XK), A.guards = some [] → Room k A →
    Env0 P w K mg base A outer s H → BindsTo s fd args (ps.zip us) → Vals vs us → sp vs H Q E → codeAny (model P w) A (.call (.ref f) args) (CR CX outer P w H s Q E) s

theorem fnG_of {CX : CXT} {P : Program} {w : World} {K : PySem.W.Frag} {mg : Str → Option Value} {base : Heap} {k : Nat} {f : Addr} {name qual : Str} {params : Arguments} {body : List Stmt} {scope : Scope} {dV kV doc pm cdv ct oc : Value} {an od : Option Addr}
    {osl : Array (Option Value)} {N ps : List Str} {sp : Sp} (at_f : K.lookup f = some ⟨oc, od, .func (PySem.W.fnOf name qual params body scope dV kV doc pm an cdv ct), osl⟩) (code : PySem.W.codeIn K cdv qual = true) (S : FnScope N ps scope)
    (len : ∀ vs H Q E, sp vs H Q E → vs.length = ps.length)
    (walk : ∀ (A : Around) (outer : List Env) (s : Shared) (H : Hp) (vs : List V) (Q : VK) (E : XK), A.guards = some [] → Room k (A.deeper (envOfC qual scope s.heap.objs.size f cdv)) → sp vs H Q E →
      ∃ t, PSs (cxOf CX P w K mg base N qual scope f cdv A outer s H E) body t ∧ t { nx := fun _ H' => Q .non H', rt := Q } (start N vs) H) :
    FnG P w K mg base CX (k + 1) f (PySem.W.fnOf name qual params body scope dV kV doc pm an cdv ct) ps sp := by
  refine ⟨len, fun A outer s H args us vs Q E gd hr env0 bind r want => ?_⟩
  have n_args := len _ _ _ _ want
  have kin : K.In s.heap := env0.mod.kin.keeps fun b o z => (env0.bs b o z).1
  have nolim : s.heap.NoLimit := env0.mod.nolimit.keeps fun b o z => (env0.bs b o z).1
  have kinds : ∀ y ∈ ps.zip us, scope.names.lookup y.1 = some .local ∨ (scope.names.lookup y.1 = some .cell ∧ ((cellsFrom (s.heap.objs.size + 1) scope.names []).lookup y.1).isSome = true) := by
    rintro ⟨n, v⟩ hy
    rcases S.par n (List.of_mem_zip hy).1 with z | z
    · exact .inl z
    · exact .inr ⟨z, PySem.W.cellsFrom_some _ _ _ (.inl z)⟩
  refine codeAny_call_function hr.depth (kin _ _ at_f) rfl S.co S.gen rfl (PySem.W.codeRec_of kin code) (bind _ _ _ _ ?_)
  refine wpAny_newFunctionEnv_cells S.kind kinds fun env env_is s1 made => ?_
  subst env_is
  refine ⟨nolim.keeps made.toInCall.keep, codeAny_func ?_⟩
  obtain ⟨t, ht, hq⟩ := walk A outer s H vs Q E gd (hr.deeper _) want
  have I : Inv (cxOf CX P w K mg base N qual scope f cdv A outer s H E) [] (start N vs) H s1 := inv_start S hr.hd env0 n_args r made
  refine wpAny_mono (ht.run [] s1 (start N vs) H _ I hq) (fun fl s' last => ?_) fun e s' z => z
  have out : ∀ {σ' : L2.St} {H' : Hp} {v : V} {u : Value}, Inv (cxOf CX P w K mg base N qual scope f cdv A outer s H E) [] σ' H' s' → RelV v u → Q v H' → CE outer P w H s Q u s' :=
    fun {σ' H' v u} J rv q => ⟨v, H', J.os, J.bare, J.base, J.hok, rv, q⟩
  match fl, last with
  | .ret u, ⟨v, σ', H', J, rv, q⟩ => exact out J rv q
  | .next, ⟨σ', H', J, q⟩ => exact out (v := V.non) (u := Value.none) J rfl q
  | .brk, ⟨_, _, _, q⟩ => exact False.elim q
  | .cont, ⟨_, _, _, q⟩ => exact False.elim q

section
variable {P : Program} {w : World} {K : PySem.W.Frag} {mg : Str → Option Value} {base : Heap}
/-- a def whose body says that nothing leaves it -/
theorem Fun.okG {x qual : Str} {st : Stmt} {f : Addr} {fd : FuncData} {N ps : List Str} {k : Nat} {sp : Sp} (F : Fun K x qual st f fd) (S : FnScope N ps (defScope st)) (len : ∀ vs H Q E, sp vs H Q E → vs.length = ps.length)
    (walk : ∀ (cdv : Value) (A : Around) (outer : List Env) (s : Shared) (H : Hp) (vs : List V) (Q : VK) (E : XK), A.guards = some [] → Room k (A.deeper (envOfC qual (defScope st) s.heap.objs.size f cdv)) → sp vs H Q E →
      ∃ t, PSs (cxOf CX0 P w K mg base N qual (defScope st) f cdv A outer s H E).nox (defBody st) t ∧ t { nx := fun _ H' => Q .non H', rt := Q } (start N vs) H) : FnG P w K mg base CX0 (k + 1) f fd ps sp := by
  obtain ⟨oc, od, kV, doc, pm, an, cdv, ct, osl, rfl, at_f, code⟩ := F.ex
  refine fnG_of at_f code S len fun A outer s H vs Q E gd hr want => ?_
  obtain ⟨t, h, q⟩ := walk cdv A outer s H vs Q E gd hr want
  exact ⟨t, h.nox, q⟩
end
section
variable {X : Cx} {CX : CXT} {k : Nat} {f : Addr} {fd : FuncData} {ps : List Str} {sp : Sp} {E : XK} {x : Str} {p pos : Pos} {e : Expr} {es : List Expr} {t : TA}
theorem pe_callG (G : FnG X.prog X.w X.K X.mg X.base CX k f fd ps sp) (gd : X.A.guards = some []) (hr : Room k X.A) (hg : Gl X x) (hm : X.mg x = some (.ref f)) (hk : PySem.W.keepIn X.K (.ref f) = true) (hb : Binds X.K fd ps []) (hx : Passes CX X E)
    (ha : PA X (e :: es) t) (hdb : (x == ("__debug__" : Str)) = false := by decide) (he : starEach (e :: es) X.env = (false, eval e X.env) :: starEach es X.env := by rfl) (hpl : (backTo pos (starEach es X.env)).any (·.1) = false := by rfl) :
    PE X (.Call (.Name x p) (e :: es) [] pos) (tCall sp [] E t) := by
  refine ⟨fun pins s σ H Q I h => wpAny_Call_Name_kw (ld_glob I hg hm ?_ hdb)⟩
  refine PySem.W.callWith_K (h₀ := X.base) I.ok.mod.kin hk (thn (ha.run pos pins s σ H _ I h) fun us s1 hu => ?_) he hpl
  obtain ⟨vs, H1, I1, r, want⟩ := hu
  refine ⟨I1.kIn, ?_⟩
  show wpAny _ _ (call (.ref f) us) _ _ _
  have want' : sp vs H1 Q E := by
    have z := want
    simp only [List.append_nil] at z
    exact z
  have n_args : us.length = ps.length := by
    rw [← r.length]
    exact G.len _ _ _ _ want'
  have bind : BindsTo s1 fd ⟨us, []⟩ (ps.zip us) := by
    have z := hb s1 us I1.kIn (by simpa using n_args)
    simpa using z
  refine wpAny_call (codeAny_mono (G.go X.A X.stack s1 H1 ⟨us, []⟩ us vs Q E gd hr I1.env0 bind r want') fun r s' back => ?_)
  match r, back with
  | .error er, back => exact hx pins σ H1 s1 er s' I1 back
  | .ok (.ret u), back => exact I1.after back
  | .ok .next, back => exact False.elim back
  | .ok .brk, back => exact False.elim back
  | .ok .cont, back => exact False.elim back
end
end L2

namespace Lr
open PySem PySem.Spec PyProof.Rows L2
/-- what isinstance says of one of class D to each class -/
def Kits (K : PySem.W.Frag) (D : Addr) (cs : List Addr) (bs : List Bool) : Prop := (cs.map fun c => PySem.W.kitOne K (.ref D) (.ref c)) = bs.map some
/-- a pair of a word and a bool at t -/
def Pw (H : Hp) (t : Addr) (w : Str × Bool) : Prop := H t = some (.tup [.str w.1, .bl w.2])
/-- at p: a list of new pairs of a word and a bool -/
def PairsAt (H : Hp) (p : Addr) (ws : List (Str × Bool)) : Prop := ∃ ts : List Addr, H p = some (.lst (ts.map V.ref)) ∧ Paired (Pw H) ts ws
theorem paired_mono {α β : Type} {R S : α → β → Prop} (h : ∀ a b, R a b → S a b) : ∀ {as : List α} {bs : List β}, Paired R as bs → Paired S as bs
  | _, _, .nil => .nil
  | _, _, .cons x t => .cons (h _ _ x) (paired_mono h t)
theorem paired_app {α β : Type} {R : α → β → Prop} : ∀ {as : List α} {bs : List β} {as' : List α} {bs' : List β}, Paired R as bs → Paired R as' bs' → Paired R (as ++ as') (bs ++ bs')
  | _, _, _, _, .nil, q => q
  | _, _, _, _, .cons x t, q => .cons x (paired_app t q)
theorem paired_len {α β : Type} {R : α → β → Prop} : ∀ {as : List α} {bs : List β}, Paired R as bs → as.length = bs.length
  | _, _, .nil => rfl
  | _, _, .cons x t => by rw [List.length_cons, List.length_cons, paired_len t]
theorem same_upd {H : Hp} {p : Addr} {o : HO} (n : H p = none) : Same H (upd H p o) := fun b u e => by
  rw [upd_ne (ne_of_none e n)]
  exact e
theorem pw_same {H H' : Hp} (sm : Same H H') : ∀ (t : Addr) (w : Str × Bool), Pw H t w → Pw H' t w := fun t w e => sm _ _ e
/-- the heap behind a list of two new pairs -/
abbrev two2 (H : Hp) (t1 t2 l : Addr) (x1 x2 : Str) (y1 y2 : Bool) : Hp := upd (upd (upd H t1 (.tup [.str x1, .bl y1])) t2 (.tup [.str x2, .bl y2])) l (.lst [.ref t1, .ref t2])
theorem new2 {H : Hp} {t1 t2 l : Addr} {x1 x2 : Str} {y1 y2 : Bool} (n1 : H t1 = none) (n2 : (upd H t1 (.tup [.str x1, .bl y1])) t2 = none) (nl : (upd (upd H t1 (.tup [.str x1, .bl y1])) t2 (.tup [.str x2, .bl y2])) l = none) :
    Same H (two2 H t1 t2 l x1 x2 y1 y2) ∧ Paired (Pw (two2 H t1 t2 l x1 x2 y1 y2)) [t1, t2] [(x1, y1), (x2, y2)] ∧ (two2 H t1 t2 l x1 x2 y1 y2) l = some (.lst ([t1, t2].map V.ref)) :=
  ⟨((same_upd n1).trans (same_upd n2)).trans (same_upd nl), .cons ((same_upd nl) _ _ ((same_upd n2) _ _ upd_same)) (.cons ((same_upd nl) _ _ upd_same) .nil), upd_same⟩
theorem pairs_two {H : Hp} {t1 t2 l : Addr} {x1 x2 : Str} {y1 y2 : Bool} (n1 : H t1 = none) (n2 : (upd H t1 (.tup [.str x1, .bl y1])) t2 = none) (nl : (upd (upd H t1 (.tup [.str x1, .bl y1])) t2 (.tup [.str x2, .bl y2])) l = none) :
    PairsAt (two2 H t1 t2 l x1 x2 y1 y2) l [(x1, y1), (x2, y2)] := ⟨_, (new2 n1 n2 nl).2.2, (new2 n1 n2 nl).2.1⟩
/-- some = some + [(..), (..)] -/
theorem pairs_cat {H : Hp} {p t1 t2 l p' : Addr} {x1 x2 : Str} {y1 y2 : Bool} {ts : List Addr} {ws : List (Str × Bool)} (all : Paired (Pw H) ts ws) (n1 : H t1 = none) (n2 : (upd H t1 (.tup [.str x1, .bl y1])) t2 = none)
    (nl : (upd (upd H t1 (.tup [.str x1, .bl y1])) t2 (.tup [.str x2, .bl y2])) l = none) (np : (two2 H t1 t2 l x1 x2 y1 y2) p' = none) :
    Same H (upd (two2 H t1 t2 l x1 x2 y1 y2) p' (.lst (ts.map V.ref ++ [t1, t2].map V.ref))) ∧ PairsAt (upd (two2 H t1 t2 l x1 x2 y1 y2) p' (.lst (ts.map V.ref ++ [t1, t2].map V.ref))) p' (ws ++ [(x1, y1), (x2, y2)]) := by
  obtain ⟨s2, q2, _⟩ := new2 n1 n2 nl
  have s3 : Same (two2 H t1 t2 l x1 x2 y1 y2) (upd (two2 H t1 t2 l x1 x2 y1 y2) p' (.lst (ts.map V.ref ++ [t1, t2].map V.ref))) := same_upd np
  refine ⟨s2.trans s3, ts ++ [t1, t2], ?_, paired_app (paired_mono (pw_same (s2.trans s3)) all) (paired_mono (pw_same s3) q2)⟩
  rw [upd_same, List.map_append]
/-- some.append((..)) -/
theorem pairs_push {H : Hp} {p t1 : Addr} {x1 : Str} {y1 : Bool} {ts : List Addr} {ws : List (Str × Bool)} (at_p : H p = some (.lst (ts.map V.ref))) (all : Paired (Pw H) ts ws) (n1 : H t1 = none) :
    (∀ b o, H b = some o → b ≠ p → (upd (upd H t1 (.tup [.str x1, .bl y1])) p (.lst (ts.map V.ref ++ [V.ref t1]))) b = some o) ∧ PairsAt (upd (upd H t1 (.tup [.str x1, .bl y1])) p (.lst (ts.map V.ref ++ [V.ref t1]))) p (ws ++ [(x1, y1)]) := by
  have keep : ∀ b o, H b = some o → b ≠ p → (upd (upd H t1 (.tup [.str x1, .bl y1])) p (.lst (ts.map V.ref ++ [V.ref t1]))) b = some o := fun b o e n => by
    rw [upd_ne n]
    exact same_upd n1 _ _ e
  have ntp : t1 ≠ p := fun e => by
    rw [e, at_p] at n1
    cases n1
  refine ⟨keep, ts ++ [t1], ?_, paired_app (paired_mono (fun t w e => keep t _ e (ne_of e at_p (by intro z; cases z))) all) (.cons ?_ .nil)⟩
  · rw [upd_same, List.map_append]
    rfl
  · show (upd (upd H t1 (.tup [.str x1, .bl y1])) p (.lst (ts.map V.ref ++ [V.ref t1]))) t1 = _
    rw [upd_ne ntp, upd_same]
theorem ifF {c : Bool} {A B : Prop} (hc : c = false) (h : B) : if c = true then A else B := by
  rw [hc, if_neg Bool.false_ne_true]
  exact h
theorem ifT {c : Bool} {A B : Prop} (hc : c = true) (h : A) : if c = true then A else B := by
  rw [if_pos hc]
  exact h
theorem paired_get {α β : Type} {R : α → β → Prop} : ∀ {as : List α} {bs : List β}, Paired R as bs → ∀ (i : Nat) (a : α), as[i]? = some a → ∃ b, bs[i]? = some b ∧ R a b
  | _, _, .nil, i, a, h => by
    simp at h
  | _, _, .cons x t, 0, a, h => by
    have e := Option.some.inj h
    subst e
    exact ⟨_, rfl, x⟩
  | _, _, .cons x t, i + 1, a, h => paired_get t i a h
theorem kept_more {ws : List (Str × Bool)} {i : Nat} {w : Str × Bool} (h : ws[i]? = some w) :
    ((ws.take (i + 1)).filter (·.2)).map (·.1) = ((ws.take i).filter (·.2)).map (·.1) ++ (if w.2 = true then [w.1] else []) := by
  rw [List.take_succ, h, List.filter_append, List.map_append]
  obtain ⟨x, b⟩ := w
  cases b <;> rfl
end Lr

namespace L2
open PySem PySem.Spec PyProof.Rows

/-- at a: an exception of the class cls whose own dict (if any) is at d, whatever its other parts are -/
def exq (a : Addr) (cls : Value) (d : Option Addr) : HO := .ext fun h => ∃ (oe : Obj) (vs : Array Value), h.get? a = some oe ∧ Zc cls d oe ∧ oe.data = .fields vs
theorem exq_ok {P : Program} {w : World} {H : Hp} {h : Heap} {a : Addr} {cls : Value} {d : Option Addr} {oe : Obj} {vs : Array Value} (e : h.get? a = some oe) (z : Zc cls d oe) (dt : oe.data = .fields vs) : ObjOk P w H h a (exq a cls d) :=
  ⟨⟨oe, vs, e, z, dt⟩, ⟨oe, e⟩, fun _ _ ⟨o, v, q, r⟩ k => ⟨o, v, k o q, r⟩⟩
theorem exq_at {P : Program} {w : World} {H : Hp} {h : Heap} {a : Addr} {cls : Value} {d : Option Addr} (hok : HOk P w H h) (e : H a = some (exq a cls d)) : ∃ (oe : Obj) (vs : Array Value), h.get? a = some oe ∧ Zc cls d oe ∧ oe.data = .fields vs := by
  have x : ObjOk P w H h a (.ext fun h => ∃ (oe : Obj) (vs : Array Value), h.get? a = some oe ∧ Zc cls d oe ∧ oe.data = .fields vs) := hok a _ e
  exact x.1

/-! an exception as a value, new or caught, and its fields -/
def IsEx (H : Hp) (a C : Addr) (dd : Option Addr) : Prop := H a = some (exo a C dd) ∨ H a = some (exq a (.ref C) dd)
def IsDx (H : Hp) (d : Addr) (fs : List (Str × V)) : Prop := H d = some (exd d fs) ∨ H d = some (.xd fs)
def ExIn (H : Hp) (a C : Addr) (fs : List (Str × V)) : Prop := (IsEx H a C none ∧ fs = []) ∨ ∃ d, IsEx H a C (some d) ∧ IsDx H d fs
theorem IsEx.same {H H' : Hp} {a C : Addr} {dd : Option Addr} (sm : ∀ b o, H b = some o → H' b = some o) (h : IsEx H a C dd) : IsEx H' a C dd := h.imp (sm _ _) (sm _ _)
theorem IsDx.same {H H' : Hp} {d : Addr} {fs : List (Str × V)} (sm : ∀ b o, H b = some o → H' b = some o) (h : IsDx H d fs) : IsDx H' d fs := h.imp (sm _ _) (sm _ _)
theorem ExIn.same {H H' : Hp} {a C : Addr} {fs : List (Str × V)} (sm : ∀ b o, H b = some o → H' b = some o) (h : ExIn H a C fs) : ExIn H' a C fs := by
  rcases h with ⟨e, z⟩ | ⟨d, e, ed⟩
  · exact .inl ⟨e.same sm, z⟩
  · exact .inr ⟨d, e.same sm, ed.same sm⟩
theorem ExAt.to {H : Hp} {a C : Addr} {fs : List (Str × V)} (h : ExAt H a C fs) : ExIn H a C fs := by
  rcases h with ⟨e, z⟩ | ⟨d, e, ed⟩
  · exact .inl ⟨.inl e, z⟩
  · exact .inr ⟨d, .inl e, .inl ed⟩
section
variable {X : Cx} {pins : List (Addr × Obj)} {σ : L2.St} {H : Hp} {s : Shared} {a C : Addr} {fs : List (Str × V)} {dd : Option Addr}
theorem IsEx.obj (I : Inv X pins σ H s) (h : IsEx H a C dd) : ∃ (oe : Obj) (vs : Array Value), s.heap.get? a = some oe ∧ Zc (.ref C) dd oe ∧ oe.data = .fields vs := by
  rcases h with e | e
  · obtain ⟨t1, ho⟩ := exo_at I.hok e
    exact ⟨_, _, ho, ⟨rfl, rfl⟩, rfl⟩
  · exact exq_at I.hok e
theorem IsDx.ns (I : Inv X pins σ H s) {d : Addr} (h : IsDx H d fs) : ∃ mA, s.heap.Ns1 d mA ∧ ∀ f, RelO (fs.lookup f) (mA f) := by
  rcases h with e | e
  · exact exd_at I.hok e
  · exact (show ObjOk X.prog X.w H s.heap d (.xd fs) from I.hok d _ e)
theorem inst_of {h : Heap} {oe : Obj} {vs : Array Value} {od : Option Obj} (e : h.get? a = some oe) (z : Zc (.ref C) dd oe) (dt : oe.data = .fields vs) (hd : match dd, od with | none, none => True | some d, some o => h.get? d = some o | _, _ => False) :
    PySem.W.InstAt h a oe C od := by
  obtain ⟨oc, odd, oda, osl⟩ := oe
  obtain ⟨h1, h2⟩ := z
  dsimp only at h1 h2 dt
  subst h1 h2 dt
  refine ⟨e, rfl, rfl, ?_⟩
  cases odd with
  | none =>
    cases od with
    | none => exact trivial
    | some o => exact hd.elim
  | some d =>
    cases od with
    | none => exact hd.elim
    | some o => exact hd
theorem ExIn.inst (I : Inv X pins σ H s) (h : ExIn H a C fs) : ∃ (oe : Obj) (od : Option Obj), PySem.W.InstAt s.heap a oe C od := by
  rcases h with ⟨e, _⟩ | ⟨d, e, ed⟩
  · obtain ⟨oe, vs, h1, h2, h3⟩ := e.obj I
    exact ⟨oe, none, inst_of h1 h2 h3 trivial⟩
  · obtain ⟨oe, vs, h1, h2, h3⟩ := e.obj I
    obtain ⟨mA, hns, rel⟩ := ed.ns I
    obtain ⟨od, g1, g2⟩ := lookIn_ns hns
    exact ⟨oe, some od, inst_of h1 h2 h3 g1⟩
end
/-- isinstance(x, c), x an exception as a value -/
def rIsY (K : PySem.W.Frag) : List V → Hp → VK → Prop := fun xs H Q => ∃ (B newId initId : String) (tail : List Value) (a D : Addr) (fs : List (Str × V)) (c : V) (cv : Value) (b : Bool), xs = [.ref a, c] ∧
  XT K B newId initId tail D ∧ ExIn H a D fs ∧ ClsV c cv ∧ PySem.W.kitOne K (.ref D) cv = some b ∧ Q (.bl b) H
theorem call_isY {X : Cx} : CallR X (.builtin "isinstance") (rIsY X.K) := by
  intro pins s σ H xs us Q I r h
  obtain ⟨B, newId, initId, tail, a, D, fs, c, cv, b, rfl, T, ea, hc, e, q⟩ := h
  obtain ⟨u1, u2, rfl, r1, r2⟩ := vals2 r
  cases (show u1 = Value.ref a from r1)
  have z := hc.eq r2
  subst z
  obtain ⟨oe, od, J⟩ := ea.inst I
  have some_cls : (PySem.W.clsIn X.K D).isSome = true := by
    obtain ⟨cd, z, _⟩ := PySem.W.any_some T.hd
    rw [z]
    rfl
  exact PySem.W.kia_one (PySem.W.kitx_exc some_cls T.ga T.gg T.ex T.ha T.hn T.ht T.hm) I.kIn J e (fun z => nomatch z) fun tk => ⟨.bl b, H, I.tok tk, rfl, q⟩
/-- x.f, x an exception as a value that has the field -/
def tYa (K : PySem.W.Frag) (f : Str) (te : TE) : TE := fun σ H Q => te σ H fun x H1 => ∃ (B newId initId : String) (tail : List Value) (a D : Addr) (fs : List (Str × V)) (v : V), x = .ref a ∧ XT K B newId initId tail D ∧
  PySem.W.findIn K (.ref D) f = some none ∧ ExIn H1 a D fs ∧ fs.lookup f = some v ∧ Q v H1
theorem pe_ya {X : Cx} {e : Expr} {te : TE} {pos : Pos} {f : Str} (he : PE X e te) (hb : attributeBase e f X.env (eval e X.env) = eval e X.env := by rfl) : PE X (.Attribute e f pos) (tYa X.K f te) := by
  refine ⟨fun pins s σ H Q I h => attr_of hb (thn (he.run pins s σ H _ I h) fun u s1 hh => ?_)⟩
  obtain ⟨x, H1, I1, rx, B, newId, initId, tail, a, D, fs, v, ex, T, free, ea, l, q⟩ := hh
  subst ex
  obtain rfl : u = Value.ref a := rx
  rcases ea with ⟨_, z⟩ | ⟨d, e1, e2⟩
  · rw [z] at l
    cases l
  · obtain ⟨oe, vs, h1, h2, h3⟩ := e1.obj I1
    obtain ⟨mA, hns, rel⟩ := e2.ns I1
    obtain ⟨od, g1, g2⟩ := lookIn_ns hns
    obtain ⟨u, hu, ru⟩ := RelO.some_of (v := v) (o := mA f) (by rw [← l]; exact rel f)
    exact HandSPX.exc_get I1.kIn (inst_of h1 h2 h3 g1) T.ga T.gg T.ex (PySem.W.findObj_own T.hd free rfl (by rw [g2, hu])) (handed_of ru) ⟨v, H1, I1.tok _, ru, q⟩

section
variable {X : Cx} {pins : List (Addr × Obj)} {σ : L2.St} {H : Hp} {s : Shared} {a : Addr} {o : HO}
/-- an object that came after the entry and was not told of is told of from now on -/
theorem Inv.track (I : Inv X pins σ H s) (n0 : X.s_0.heap.get? a = none) (na : H a = none) (nL : a ≠ X.env.locals) (nC : ∀ x c, X.env.cells.lookup x = some c → c ≠ a) (np : ∀ p ∈ X.pn ++ pins, p.1 ≠ a)
    (new : ObjOk X.prog X.w (upd H a o) s.heap a o) : Inv X pins σ (upd H a o) s := by
  have ne0 : ∀ {b : Addr} {u : Obj}, X.s_0.heap.get? b = some u → b ≠ a := fun {b u} e z => by
    rw [z, n0] at e
    cases e
  have neS : ∀ {b : Addr} {u : HO}, H b = some u → b ≠ a := fun {b u} e z => by
    rw [z, na] at e
    cases e
  refine ⟨I.ok, I.os, I.bare, ⟨I.base.keep, I.base.slot, fun b u e n hb => ?_, I.base.there, fun b xs e => ?_, fun b u v e => ?_, fun b ps e => ?_⟩, I.loc, I.cell, ?_, fun x c e => ?_, fun p hp => ?_, fun b u e => ?_, I.len⟩
  · rw [upd_ne (ne0 e)]
    exact I.base.free b u e n hb
  · have z := I.base.tups b xs e
    rw [upd_ne (neS z)]
    exact z
  · have z := I.base.frzs b u v e
    rw [upd_ne (neS z)]
    exact z
  · obtain ⟨m, z⟩ := I.base.tbls b ps e
    exact ⟨m, by rw [upd_ne (neS z)]; exact z⟩
  · rw [upd_ne (Ne.symm nL)]
    exact I.free
  · rw [upd_ne (nC x c e)]
    exact I.freeC x c e
  · obtain ⟨e, n, h1, h2, h3⟩ := I.pin p hp
    exact ⟨e, by rw [upd_ne (np p hp)]; exact n, h1, h2, h3⟩
  · by_cases hb : b = a
    · subst hb
      rw [upd_same] at e
      cases e
      exact new
    · rw [upd_ne hb] at e
      exact (I.hok b u e).stay (fun c v _ z => z) (fun c z => by rw [upd_ne (neS z)]; exact z) fun c xs z => by rw [upd_ne (neS z)]; exact z
/-- into a suite and out of it, the exception being told of -/
theorem Inv.suite' (I : Inv X pins σ H s) : Inv (X.suite a (X.pn ++ pins)) [] σ H s :=
  ⟨I.ok.suite _ _, I.os, I.bare, I.base, I.loc, I.cell, I.free, I.freeC, fun p hp => I.pin p (by rw [List.append_nil] at hp; exact hp), I.hok, I.len⟩
theorem Inv.unsuite' {pn' : List (Addr × Obj)} (I : Inv (X.suite a (X.pn ++ pins)) pn' σ H s) (ok : X.Ok) : Inv X pins σ H s :=
  ⟨ok, I.os, I.bare, I.base, I.loc, I.cell, I.free, I.freeC, fun p hp => I.pin p (List.mem_append_left _ hp), I.hok, I.len⟩
end
end L2

namespace L2
open PySem PySem.Spec PyProof.Rows
/-- what the clause 'except x as n' wishes, where the suite may keep the exception: it is told of within and behind -/
def wOwn (K : PySem.W.Frag) (c : Value) (i : Nat) (ts : TS) (Wout : WX) (D : Ends) : WX := fun cls d σ H =>
  ∃ b, PySem.W.exmOne K cls c = some b ∧
    (b = true → ∀ a, H a = none → ts { nx := fun σ' H' => D.nx (σ'.set i none) H', rt := D.rt, bk := fun σ' H' => D.bk (σ'.set i none) H', ct := fun σ' H' => D.ct (σ'.set i none) H' } (σ.set i (some (.ref a))) (upd H a (exq a cls d))) ∧
    (b = false → Wout cls d σ H)
section
variable {X : Cx} {x n : Str} {c : Value} {i : Nat} {body suite : List Stmt} {b₀ : Stmt} {np pos pos' : Pos} {tb : WX → TS} {ts : TS} {Wout : WX}
theorem ps_try_own (stk : X.stack = X.env :: X.outer) (frm : X.env.frame = some X.env.locals) (noex : X.ex = []) (nodup : X.N.Nodup) (at_i : X.N[i]? = some n) (loc : X.env.kindOf n = some .local) (nm : Names X x c) (tk : Takes X Wout)
    (hb : ∀ (W : WX) (pn : List (Addr × Obj)) (xe : Value → Shared → Prop), Takes (X.tr pn xe) W → PassesOwn (model X.prog X.w) X.A X.env xe → PSs (X.tr pn xe) body (tb W))
    (hsu : ∀ (a : Addr) (pn : List (Addr × Obj)), PSs (X.suite a pn) (b₀ :: suite) ts) :
    PS X (.Try body [.ExceptHandler (some (.Name x np)) (some n) (b₀ :: suite) pos'] [] [] pos) (fun D σ H => tb (wOwn X.K c i ts Wout D) D σ H) := by
  refine ⟨fun pins s σ H D I h => ?_⟩
  have ok := I.ok
  have frames : X.A.frames = some (X.env :: X.outer) := by rw [ok.frames, stk]
  have isLoc : Loc X.env.scope n := .inl loc
  refine wpAny_Try_except ?_
  refine wpAny_mono ((hb (wOwn X.K c i ts Wout D) (X.pn ++ pins) (fun e s₁ => wpAny (model X.prog X.w) X.A (noteFrame e X.env)
    (fun _ s₂ => wpAny (model X.prog X.w) X.A (setFlight e none)
      (fun _ s₃ => wpAny (model X.prog X.w) X.A (handleBy e X.env [.ExceptHandler (some (.Name x np)) (some n) (b₀ :: suite) pos']) (SP X pins D) X.xe s₃) X.xe s₂) X.xe s₁)
    (fun u s' xx => ?_) PassesOwn.looking).run [] s σ H D (I.toTry _) h) (fun f s1 done => ?_) (fun e s1 he => he)
  · -- it is caught
    obtain ⟨a, B, sI, pins', σ', H', cls, d, rfl, J', inB, up, sky, na, os, ag, b, meets, yes, no⟩ := xx
    have J : Inv X pins σ' H' sI := J'.ofTry ok
    have sky' : Sky B (X.env :: X.outer) a (Zc cls d) X.env.locals s'.heap := by rw [← stk]; exact sky
    show wpAny (model X.prog X.w) X.A (noteFrame (.ref a) X.env) _ _ _
    refine Sky.land Zc.steady frames frm sky' fun h3 fl3 up3 => ?_
    have J3 : Inv X pins σ' H' { s' with heap := h3 } := J.landed inB fl3.1 (up.trans up3) os ag
    obtain ⟨oe3, vs3, he3, hz3, hd3⟩ := fl3.there
    -- a is none of the frames, and came after the entry
    have nfr : a ∉ frs (X.env :: X.outer) := fun hm => by
      obtain ⟨_, o', e', hnf⟩ := fl3.2.2.1.mem hm
      rw [he3] at e'
      cases e'
      exact hnf _ hd3
    have gone : sI.heap.get? a = none := by
      cases e : sI.heap.get? a with
      | none => rfl
      | some o =>
        have z := inB a o e (by rw [stk]; exact nfr)
        rw [fl3.2.1] at z
        cases z
    have nL : a ≠ X.env.locals := fun z => nfr (List.mem_filterMap.mpr ⟨X.env, List.mem_cons_self, by rw [frm, z]⟩)
    have n0 : X.s_0.heap.get? a = none := by
      cases e : X.s_0.heap.get? a with
      | none => rfl
      | some o =>
        obtain ⟨o', z⟩ := J.base.there a o e (by rw [noex]; exact fun z => nomatch z)
        rw [gone] at z
        cases z
    have nC : ∀ x c, X.env.cells.lookup x = some c → c ≠ a := fun x c e z => by
      obtain ⟨v, o, z2, _⟩ := J.cell x c e
      rw [z, gone] at z2
      cases z2
    have nP : ∀ p ∈ X.pn ++ pins, p.1 ≠ a := fun p hp z => by
      have z2 := (J.pin p hp).1
      rw [z, gone] at z2
      cases z2
    have trk : ∀ {h : Heap}, Inv X pins σ' H' { s' with heap := h } → (∃ oe vs, h.get? a = some oe ∧ Zc cls d oe ∧ oe.data = .fields vs) → Inv X pins σ' (upd H' a (exq a cls d)) { s' with heap := h } := fun {h} J4 th => by
      obtain ⟨oe, vs, h1, h2, h3⟩ := th
      exact J4.track n0 na nL nC nP (exq_ok h1 h2 h3)
    have S3 := (trk J3 ⟨oe3, vs3, he3, hz3, hd3⟩).suite' (a := a)
    refine wpAny_handleBy_cons (codeAny_handlers_test ?_) (by intro q; cases q)
    have LT : PySem.W.Looks (model X.prog X.w) h3 (typeOf (.ref a)) cls := fun A Q E s k q => wpAny_typeOf_ref (k _ _ he3) (by rw [hz3.1]; exact q)
    have LM := PySem.W.exm_one (M := model X.prog X.w) (J3.kIn) LT meets
    have test : ∀ {Q : Value → Shared → Prop} {E : Value → Shared → Prop}, Q c { s' with heap := h3 } →
        wpAny (model X.prog X.w) (X.A.mark (some (.ref a))) (eval (.Name x np) X.env) Q E { s' with heap := h3 } := fun {Q E} q => by
      obtain ⟨hg, hdbg, hm | ⟨hm, hv, hnn⟩⟩ := nm
      · exact ld_glob (X := X.suite a (X.pn ++ pins)) S3 hg hm q hdbg
      · exact ld_blt (X := X.suite a (X.pn ++ pins)) S3 hg hm hv q hnn hdbg
    refine test (LM.here ?_)
    cases b with
    | true =>
      refine codeAny_handlers_suite_as ?_
      refine HandSPX.lands_againZ fl3 fun h4 fl4 up4 => ?_
      have J4 : Inv X pins σ' H' { s' with heap := h4 } := J.landed inB fl4.1 ((up.trans up3).trans up4) os ag
      have S4 := (trk J4 fl4.there).suite' (a := a)
      refine store_ok (X := X.suite a (X.pn ++ pins)) (v := .ref a) S4 nodup at_i isLoc rfl (fun s5 S5 => ?_) (.inr loc)
      refine wpAny_mono ((hsu a (X.pn ++ pins)).run [] s5 _ _ _ S5 (yes rfl a na)) (fun f s6 done => ?_) (fun _ _ z => False.elim z)
      have leave : ∀ {σ6 : L2.St} {H6 : Hp} {Q : Shared → Prop}, Inv (X.suite a (X.pn ++ pins)) [] σ6 H6 s6 → (∀ s7, Inv X pins (σ6.set i none) H6 s7 → Q s7) →
          wpAny (model X.prog X.w) X.A (do bindName X.env n .none; unbindBehindTheSuite X.env n pos') (fun _ s7 => Q s7) X.xe s6 := fun {σ6 H6 Q} S6 hq => gone_ok (S6.unsuite' ok) nodup at_i loc hq
      match f, done with
      | .next, ⟨σ6, H6, S6, q6⟩ => exact leave S6 fun s7 J7 => ⟨_, _, J7, q6⟩
      | .brk, ⟨σ6, H6, S6, q6⟩ => exact leave S6 fun s7 J7 => ⟨_, _, J7, q6⟩
      | .cont, ⟨σ6, H6, S6, q6⟩ => exact leave S6 fun s7 J7 => ⟨_, _, J7, q6⟩
      | .ret u, ⟨v6, σ6, H6, S6, r6, q6⟩ => exact leave S6 fun s7 J7 => ⟨_, _, _, J7, r6, q6⟩
    | false =>
      show wpAny _ X.A (handleBy (.ref a) X.env []) _ _ _
      refine wpAny_handleBy_nil ?_
      obtain ⟨k1, k2, k3, oe, vs, T, oT, ts', he, hz, hd, h1, hr⟩ := id fl3
      unfold PySem.passOn
      refine wpAny_bind (wpAny_field he hd h1 ?_)
      rw [if_neg (show ¬ ((Value.ref T == Value.none) = true) from by simp)]
      have fin : wpAny (model X.prog X.w) X.A (setFlight (.ref a) X.env.frame) (fun _ s4 => wpAny (model X.prog X.w) X.A (throw (.ref a) : Sem Flow) (SP X pins D) X.xe s4) X.xe { s' with heap := h3 } := by
        rw [frm]
        refine HandSPX.setFlight_upZ fl3 fun h4 hh4 up4 => wpAny_throw (tk _ _ ?_)
        exact ⟨a, B, sI, pins, σ', H', cls, d, rfl, J, inB, (up.trans up3).trans up4, .inr (.inr (by rw [stk]; exact hh4)), na, os, ag, no rfl⟩
      first
        | exact wpAny_bind (wpAny_pure (wpAny_bind fin))
        | exact wpAny_bind fin
  · match f, done with
    | .next, ⟨σ', H', J', q⟩ => exact wpAny_execs_nil ⟨σ', H', J'.ofTry ok, q⟩
    | .brk, ⟨σ', H', J', q⟩ => exact ⟨σ', H', J'.ofTry ok, q⟩
    | .cont, ⟨σ', H', J', q⟩ => exact ⟨σ', H', J'.ofTry ok, q⟩
    | .ret u, ⟨v, σ', H', J', r, q⟩ => exact ⟨v, σ', H', J'.ofTry ok, r, q⟩
end
/-- raise e, e a new exception of an own class with a field -/
def tRaiseX (W : WX) (K : PySem.W.Frag) (H0 : Hp) (te : TE) : TS := fun _ σ H => te σ H fun x H1 => ∃ a C d, x = .ref a ∧ H1 a = some (exo a C (some d)) ∧ Fr0 H0 a ∧
  PySem.W.subIn K (.ref C) (.type "BaseException") = some true ∧ PySem.W.typeIn K (.ref C) = some (.type "type") ∧ W (.ref C) (some d) σ (delH H1 a)
theorem pmk_xk {X : Cx} {e : Expr} {te : TE} (K : PySem.W.Frag) (H0 : Hp) (hK : X.K = K) (h0 : X.H_0 = H0) (hx : X.ex = []) (he : PE X e te) :
    PMk X e (fun σ H Q => te σ H fun x H1 => ∃ a C d, x = .ref a ∧ H1 a = some (exo a C (some d)) ∧ Fr0 H0 a ∧
      PySem.W.subIn K (.ref C) (.type "BaseException") = some true ∧ PySem.W.typeIn K (.ref C) = some (.type "type") ∧ Q (.ref C) (some d) (delH H1 a)) := by
  subst hK h0
  intro pins s σ H Q I h
  refine wpAny_mono (he.run pins s σ H _ I h) (fun u s1 hu => ?_) fun _ _ z => z
  obtain ⟨v, H1, I1, r1, a, C, d, rfl, ea, f0, b1, b2, q⟩ := hu
  cases r1
  obtain ⟨t1, ho⟩ := exo_at I1.hok ea
  obtain ⟨G, sub, gone, J⟩ := I1.untrack ea f0 hx
  exact ⟨a, _, _, { s1 with heap := G }, delH H1 a, .ref C, some d, rfl, J, sub, gone, ho, ⟨rfl, rfl⟩, rfl, rfl, delH_same, rfl, I1.bare, raises_own b1 b2, q⟩
theorem ps_raiseX {X : Cx} {W : WX} {e : Expr} {te : TE} {pos : Pos} (K : PySem.W.Frag) (H0 : Hp) (hK : X.K = K) (h0 : X.H_0 = H0) (hc : X.calm = true) (hx : X.ex = []) (tk : Takes X W) (he : PE X e te) :
    PS X (.Raise (some e) none pos) (tRaiseX W K H0 te) := ps_raise hc tk (pmk_xk K H0 hK h0 hx he)
end L2

namespace Lr
open PySem PySem.Spec PyProof.Rows L2
/-- an __init__(self, x) that stores its argument as a field -/
def spOne (C : Addr) (f : Str) : Sp := fun vs H Q _ => ∃ (a : Addr) (v : V), vs = [.ref a, v] ∧ H a = some (exo a C none) ∧
  ∀ d, H d = none → d ≠ a → Q .non (upd (upd H d (exd d [(f, v)])) a (exo a C (some d)))
/-- an __init__(self, x, y) that stores both -/
def spTwo (C : Addr) (f g : Str) : Sp := fun vs H Q _ => ∃ (a : Addr) (v u : V), vs = [.ref a, v, u] ∧ H a = some (exo a C none) ∧
  ∀ d, H d = none → d ≠ a → Q .non (upd (upd (upd H d (exd d [(f, v)])) a (exo a C (some d))) d (exd d [(g, u), (f, v)]))
/-- what is said of a class with its own __init__ -/
structure Own (K : PySem.W.Frag) (mg : Str → Option Value) (name : Str) (B nid iid : String) (tl : List Value) (C fI : Addr) (fd : FuncData) (ps : List Str) : Prop where
  x : XT K B nid iid tl C
  g : mg name = some (.ref C)
  i : PySem.W.findIn K (.ref C) "__init__" = some (some (.ref fI))
  t : PySem.W.typeIn K (.ref fI) = some (.type "function")
  b : Binds K fd ps []
theorem Fun.kwb {K : PySem.W.Frag} {x qual : Str} {st : Stmt} {f : Addr} {fd : FuncData} {ps ks : List Str} {ord : List Value → List Value} (F : Fun K x qual st f fd)
    (h : ∀ (kV doc pm : Value) (an : Option Addr) (cdv ct : Value) (a : Value) (zs : List Value), (a :: ord zs).length = ps.length → bindArgs (PySem.W.fnOf x qual (defArgs st) (defBody st) (defScope st) .none kV doc pm an cdv ct) ⟨[a], ks.zip zs⟩ = pure (ps.zip (a :: ord zs))) :
    ∀ (s : Shared) (a : Value) (zs : List Value), K.In s.heap → (a :: ord zs).length = ps.length → BindsTo s fd ⟨[a], ks.zip zs⟩ (ps.zip (a :: ord zs)) := by
  obtain ⟨o1, o2, kV, doc, pm, an, cdv, ct, sl, rfl, _, _⟩ := F.ex
  exact fun s a zs _ hl => .of_eq (h kV doc pm an cdv ct a zs hl)
theorem made_same {H : Hp} {a d : Addr} {e0 e1 x : HO} (na : H a = none) (nd : (upd H a e0) d = none) : Same H (upd (upd (upd H a e0) d x) a e1) := fun b o e => by
  rw [upd_ne (ne_of_none e na)]
  exact same_upd nd _ _ (same_upd na _ _ e)
theorem made_at {H : Hp} {a d C : Addr} {e0 : HO} {fs : List (Str × V)} (ne : d ≠ a) : ExIn (upd (upd (upd H a e0) d (exd d fs)) a (exo a C (some d))) a C fs := .inr ⟨d, .inl upd_same, .inl (by rw [upd_ne ne, upd_same])⟩
/-- data that repr can tell, small -/
def fine (d : PyData) : Bool := d.showable && decide (d.shown.length ≤ 1000) && decide (d.depth ≤ 30)
theorem fine_of {d : PyData} (h : fine d = true) : d.showable = true ∧ d.shown.length ≤ sizeLine ∧ d.depth ≤ 60 := by
  unfold fine at h
  rw [Bool.and_eq_true, Bool.and_eq_true, decide_eq_true_eq, decide_eq_true_eq] at h
  refine ⟨h.1.1, ?_, Nat.le_trans h.2 (by decide)⟩
  rw [sizeLine_eq]
  exact Nat.le_trans h.1.2 (by decide)
theorem fine_pair {d e : PyData} (h : fine d = true) (g : fine e = true) : (PyData.list [d, e]).showable = true ∧ (PyData.list [d, e]).shown.length ≤ sizeLine ∧ (PyData.list [d, e]).depth ≤ 60 := by
  unfold fine at h g
  rw [Bool.and_eq_true, Bool.and_eq_true, decide_eq_true_eq, decide_eq_true_eq] at h g
  refine ⟨?_, ?_, ?_⟩
  · simp only [PyData.showable, PyData.showableAll, h.1.1, g.1.1, Bool.and_self]
  · simp only [PyData.shown, PyData.shownAll]
    have q : (listText [d.shown, e.shown]).length ≤ d.shown.length + e.shown.length + 10 := by
      unfold listText
      have e1 : textFrom 0 "[" [d.shown, e.shown] = ("[" : Str) ++ ("" : Str) ++ d.shown ++ (", " : Str) ++ e.shown := rfl
      rw [e1]
      simp only [strLen_append]
      have q1 : ("[" : Str).length = 1 := by rfl
      have q2 : ("]" : Str).length = 1 := by rfl
      have q3 : (", " : Str).length = 2 := by rfl
      have q4 : ("" : Str).length = 0 := by rfl
      omega
    rw [sizeLine_eq]
    have z1 := h.1.2
    have z2 := g.1.2
    omega
  · have z1 := h.2
    have z2 := g.2
    simp only [PyData.depth, PyData.depthAll]
    omega
end Lr

namespace PySem
namespace Ev
open PySem.W PyProof.Rows
/-- enumerate(v) of anything that has a simple iterator -/
theorem enum_new_one {v : Value} {o : Obj} {S : Heap → Prop} (B : Begins v o S) :
    Meets (Builtin.«enumerate.__new__» ⟨[.type "enumerate", v], []⟩) (fun _ R s => S s.heap ∧
      R (.ok (.ret (.ref (s.heap.push o).objs.size)))
        { s with heap := (s.heap.push o).push { cls := .type "enumerate", data := .fields #[.none, .bool false, .ref s.heap.objs.size, rawInt 0, .none, .none] } }) := .of_wp fun prog w A R s h => by
  obtain ⟨hp, g, d, tk, os⟩ := s
  obtain ⟨stands, want⟩ := h
  have hsub := sub_enumerate
  have begin_ : ∀ {A' : Around} {E : Value → Shared → Prop} {Q : Value → Shared → Prop}, Q (.ref hp.objs.size) ⟨hp.push o, g, d, tk, os⟩ → wpAny (model prog w) A' (pyIter v) Q E ⟨hp, g, d, tk, os⟩ :=
    fun q => B.iter prog w _ _ ⟨hp, g, d, tk, os⟩ _ stands q
  wp_walk using begin_
  refine wpAny_stack_any fun st => wpAny_pure ?_
  split
  · rename_i c _ _ _ _ _
    cases (c == Value.type "enumerate")
    all_goals
      wp_walk using begin_
      exact ⟨_, rfl, want⟩
  · wp_walk using begin_
    exact ⟨_, rfl, want⟩
section
variable {prog : Program} {w : World} {A : Around} {E : Value → Shared → Prop} {s : Shared}
theorem enum_one {v : Value} {o : Obj} {S : Heap → Prop} {Q : Value → Shared → Prop} (B : Begins v o S) (stands : S s.heap)
    (h : ∀ h', IsEnum h' (s.heap.objs.size + 1) s.heap.objs.size 0 .none → h'.get? s.heap.objs.size = some o → h'.objs.size = s.heap.objs.size + 2 →
      (∀ b u, s.heap.get? b = some u → h'.get? b = some u) → Q (.ref (s.heap.objs.size + 1)) { s with heap := h' }) :
    wpAny (model prog w) A (call (.type "enumerate") [v]) Q E s := by
  refine callType_new F.called_enumerate (by decide) (F.typeCall_enumerate_1 _) (F.newCall_enumerate_1 _) (fun obj => F.args_object_init_2 obj _) F.entry_enumerate_new (enum_new_one B) ⟨stands, ?_⟩
  have size1 : (s.heap.push o).objs.size = s.heap.objs.size + 1 := Heap.size_push ..
  show _ ∧ _
  rw [size1]
  have is_enum : IsEnum ((s.heap.push o).push { cls := .type "enumerate", data := .fields #[.none, .bool false, .ref s.heap.objs.size, rawInt 0, .none, .none] }) (s.heap.objs.size + 1) s.heap.objs.size 0 .none := by
    have z := Heap.get?_push_size (s.heap.push o) (o := { cls := .type "enumerate", data := .fields #[.none, .bool false, .ref s.heap.objs.size, rawInt 0, .none, .none] }) rfl
    rw [size1] at z
    exact z
  refine ⟨⟨_, is_enum, rfl⟩, h _ is_enum (Heap.get?_push_of_some _ (Heap.get?_push_size _ B.free)) (by rw [Heap.size_push, size1]) fun b u x => ?_⟩
  exact Heap.get?_push_of_some _ (Heap.get?_push_of_some _ x)
end
end Ev
end PySem
namespace L2
open PySem PySem.Spec PyProof.Rows
/-- the tuple at a, each item in a new pair -/
def Itte (K : PySem.W.Frag) (a : Addr) : It :=
  ⟨fun i H => ∃ (xs : List V) (x : V), SqT K H a xs ∧ xs[i]? = some x,
   fun i H v H' => ∃ T x, v = .ref T ∧ H T = none ∧ H' = upd H T (.tup [.int (i : Nat), x]) ∧ ∀ xs, SqT K H a xs → xs[i]? = some x,
   fun i H => ∃ xs : List V, SqT K H a xs ∧ xs.length = i⟩
theorem turn_enumT {P : Program} {w : World} {K : PySem.W.Frag} {elts : List Expr} {kk : Nat} {tpos : Pos} (a e it : Addr) :
    Turn P w K (.Tuple elts kk tpos) (Itte K a) [e, it] e (fun i h => (∃ old, IsEnum h e it ((i : Nat) : Int) old) ∧ h.IsTupleIter it a i ∧ e ≠ it ∧ a ≠ it ∧ e ≠ a) where
  mem := by simp
  obj := fun i h st b hb => by
    obtain ⟨⟨old, he⟩, ⟨o, ho, hc, hd⟩, _⟩ := st
    have one : b = e ∨ b = it := by simpa using hb
    rcases one with z | z
    · subst z
      exact ⟨_, he, fun v q => nomatch q⟩
    · subst z
      exact ⟨o, ho, fun v q => by rw [hd] at q; cases q⟩
  keep := fun i h h' st k => by
    obtain ⟨⟨old, he⟩, hit, rest⟩ := st
    exact ⟨⟨old, k e (by simp) _ he⟩, hit.at fun o q => k it (by simp) o q, rest⟩
  item := by
    intro X hP hw hK hc i pins s σ H E I hf st hg
    subst hP hw hK
    obtain ⟨⟨old, he⟩, hit, n1, n2, n3⟩ := st
    obtain ⟨xs, x, hq, hx⟩ := hg
    obtain ⟨its, rv, p, _⟩ := I.tuple hq
    obtain ⟨u, hu, ru⟩ := rv.get hx
    have low_e : e < s.heap.objs.size := Heap.lt_size he
    have low_it : it < s.heap.objs.size := by
      obtain ⟨_, q, _⟩ := hit
      exact Heap.lt_size q
    have D := Draws.tuple (prog := X.prog) (w := X.w) (A := X.A.in1) (show X.A.in1.handled = none from I.ok.hd hc) it a n2 its.toArray
    have lt : i < its.toArray.size := by
      have z := (List.getElem?_eq_some_iff.mp hu).1
      simpa using z
    refine wpAny_pyNext_enum_itemC (c := ((i : Nat) : Int)) D he ⟨hit, show s.heap.IsTuple a its.toArray from p⟩ lt n1 (by simp [n1, n3]) fun y h' tk got out st' new size keep => ?_
    have same : y = u := by
      have z : its[i]? = some y := by simpa using got
      rw [hu] at z
      exact (Option.some.inj z).symm
    subst same
    refine ⟨_, rfl, wpAny_letOwnedTupleGo_enum (s := { s with heap := h', toks := tk + 1 }) out fun h2 he2 sb => ?_⟩
    have new2 : h2.get? s.heap.objs.size = some { cls := .type "tuple", data := .seq #[.int i tk, y] } := (sb.2 _ (Nat.ne_of_gt low_e)).trans new
    have ok : ObjOk X.prog X.w (upd H s.heap.objs.size (.tup [.int (i : Nat), x])) h2 s.heap.objs.size (.tup [.int (i : Nat), x]) :=
      ⟨by show 2 ≤ sizeLine; decide, [.int i tk, y], .cons ⟨_, rfl⟩ (.cons ru .nil), ⟨_, new2, rfl, _, rfl⟩⟩
    have I1 : Inv X pins σ (upd H s.heap.objs.size (.tup [.int (i : Nat), x])) { s with heap := h2, toks := tk + 1 } :=
      I.turnedNew (ch := [e, it]) (fun b ob hb q => (sb.2 b (fun z => hb (by simp [z]))).trans (keep b ob (fun z => hb (by simp [z])) (fun z => hb (by simp [z])) q)) hf (Nat.le_refl _) ok
    refine ⟨.ref s.heap.objs.size, _, I1, rfl, ⟨_, x, rfl, I.hok.fresh (Nat.le_refl _), rfl, fun ys hy => by rw [I.tuple_inj hy hq]; exact hx⟩, ⟨⟨y, ?_⟩, st'.1.at fun o q => (sb.2 it (Ne.symm n1)).trans q, n1, n2, n3⟩, fun b hb => ?_⟩
    · have z : ((i + 1 : Nat) : Int) = (i : Int) + 1 := by omega
      rw [z]
      exact he2
    · have low : b < s.heap.objs.size := by
        have one : b = e ∨ b = it := by simpa using hb
        rcases one with z | z
        · exact z ▸ low_e
        · exact z ▸ low_it
      rw [upd_ne (Nat.ne_of_lt low)]
      exact (hf b hb).1
  done := by
    intro X hP hw hK hc i pins s σ H E I hf st hg
    subst hP hw hK
    obtain ⟨⟨old, he⟩, hit, n1, n2, n3⟩ := st
    obtain ⟨xs, hq, hx⟩ := hg
    obtain ⟨its, rv, p, _⟩ := I.tuple hq
    obtain ⟨f0, f1, f2, f3, f4, f5⟩ := hf it (by simp)
    have hl := rv.length
    have D := Draws.tuple (prog := X.prog) (w := X.w) (A := X.A.in1) (show X.A.in1.handled = none from I.ok.hd hc) it a n2 its.toArray
    have at_end : its.toArray.size = i := by
      rw [List.size_toArray, ← hl]
      exact hx
    refine wpAny_pyNext_enum_endD D he (by rw [at_end]; exact ⟨hit, show s.heap.IsTuple a its.toArray from p⟩) fun h' eb => ?_
    exact ⟨rfl, I.turned (t' := s.toks) (fun b o hb q => eb b o hb q) f0 f1 f3 f4 f5⟩
  self := fun A i s Q E st h => by
    obtain ⟨⟨_, he⟩, _⟩ := st
    exact wpAny_pyIter_enum he h
def iEnumT (K : PySem.W.Frag) (ta : TA) : TI := fun σ H R => ta σ H fun vs H1 => ∃ a xs, vs = [.ref a] ∧ SqT K H1 a xs ∧ R (Itte K a) H1
theorem pi_enumT {X : Cx} {e : Expr} {ta : TA} {p pos tpos : Pos} {elts : List Expr} {kk : Nat} (hg : Gl X "enumerate") (hm : X.mg "enumerate" = none) (ha : PA X [e] ta) (hs : starEach [e] X.env = [(false, eval e X.env)] := by rfl) :
    PI X (.Tuple elts kk tpos) (.Call (.Name "enumerate" p) [e] [] pos) (iEnumT X.K ta) := by
  refine ⟨fun pins s σ H R I h => Call_ (ld_blt I hg hm boot_enumerate (PyProof.Rows.callWith_type1 (thn (ha.run pos pins s σ H _ I h) fun us s1 hu => ?_) hs rfl))⟩
  obtain ⟨vs, H1, I1, r1, a, xs, ex, hq, q⟩ := hu
  subst ex
  cases r1 with
  | cons r rr =>
    cases rr
    cases r
    obtain ⟨its, rv, tp, _⟩ := I1.tuple hq
    have tp' : s1.heap.IsTuple a its.toArray := tp
    have low : a < s1.heap.objs.size := by
      obtain ⟨o, z, _⟩ := tp'
      exact Heap.lt_size z
    refine Ev.enum_one (begins_tuple a its.toArray) tp' fun h' he hit size keep => wpAny_pyIter_enum he ?_
    have I2 : Inv X pins σ H1 { s1 with heap := h' } := I1.kept (t' := s1.toks) keep
    refine ⟨s1.heap.objs.size + 1, [s1.heap.objs.size + 1, s1.heap.objs.size], _, _, H1, rfl, I2, turn_enumT a (s1.heap.objs.size + 1) s1.heap.objs.size,
      ⟨⟨.none, he⟩, ⟨_, hit, rfl, rfl⟩, Nat.succ_ne_self _, Nat.ne_of_lt low, Nat.ne_of_gt (Nat.lt_succ_of_lt low)⟩, fun b hb => ?_, q⟩
    have high : s1.heap.objs.size ≤ b := by
      have one : b = s1.heap.objs.size + 1 ∨ b = s1.heap.objs.size := by simpa using hb
      rcases one with z | z
      · rw [z]
        exact Nat.le_add_right _ _
      · exact Nat.le_of_eq z.symm
    exact I1.fpOk high (I1.hok.fresh high)
theorem walk_enumT {K : PySem.W.Frag} {a : Addr} {xs : List V} : Walk (Itte K a) xs.length (fun H => SqT K H a xs) (YPair (fun i => some (.int (i : Nat))) (fun i => xs[i]?)) :=
  ⟨fun i H hi h => ⟨xs, xs[i], h, by simp [hi]⟩, fun H h => ⟨xs, h, rfl⟩, fun i H x H' hi h y => by
    obtain ⟨T, u, e1, n, e2, all⟩ := y
    exact ⟨T, _, u, e1, n, e2, rfl, all xs h⟩⟩
end L2

namespace Lr
open PySem PySem.Spec PyProof.Rows L2

/-! sets of nested keys, of at most four -/
section
variable {P : Program} {w : World}
/-- v asks no class of its own, n levels down -/
def NoCls (P : Program) (w : World) (s : Shared) (n : Nat) (v : Value) : Prop := ∀ (A : Around) (E : Value → Shared → Prop) (Q : Bool → Shared → Prop), Q false s → wpAny (model P w) A (ofAClassStatement n v) Q E s
/-- hashing v by value is asked, whatever comes of it -/
def AnyBy (P : Program) (w : World) (s : Shared) (n : Nat) (v : Value) : Prop := ∀ (A : Around) (E : Value → Shared → Prop) (Q : Bool → Shared → Prop), (∀ b, Q b s) → wpAny (model P w) A (hashByValue n v) Q E s
theorem NoCls.seq {s : Shared} {n m : Nat} {a : Addr} {o : Obj} {vs : Array Value} (ho : s.heap.get? a = some o) (hc : o.cls = .type "tuple") (hd : o.data = .seq vs m) (all : ∀ u ∈ vs.toList, NoCls P w s n u) : NoCls P w s (n + 1) (.ref a) := by
  intro A E Q q
  have ty : s.TypeIs (.ref a) "tuple" := ⟨o, ho, hc⟩
  have et : (("tuple" : String) == "tuple") = true := by decide
  unfold ofAClassStatement
  refine wpAny_bind (wpAny_typeOf ty ?_)
  dsimp only
  simp only [et, ↓reduceIte, Bool.not_true, Bool.false_eq_true]
  try refine wpAny_bind (wpAny_pure ?_)
  try simp only [Bool.not_true, Bool.false_eq_true, ↓reduceIte]
  show wpAny _ A (seqItems? (.ref a) >>= _) _ _ _
  refine wpAny_bind (wpAny_seqItems ho hd ?_)
  dsimp only
  refine wpAny_bind ?_
  show wpAny _ A (forIn vs _ _) _ _ _
  rw [← Array.forIn_toList]
  refine wpAny_forIn_list _ (fun left z s1 => s1 = s ∧ z.1 = none ∧ ∀ u ∈ left, NoCls P w s n u) _ ?_ ?_ vs.toList _ ⟨rfl, rfl, all⟩
  · rintro u left z s1 ⟨rfl, e0, more⟩
    refine wpAny_bind (more u (.head _) A E _ ?_)
    simp only [Bool.false_eq_true, ↓reduceIte]
    exact wpAny_pure ⟨rfl, rfl, fun y hy => more y (.tail _ hy)⟩
  · rintro ⟨z1, z2⟩ s1 ⟨rfl, e0, _⟩
    cases (show z1 = none from e0)
    exact wpAny_pure q
theorem AnyBy.seq {s : Shared} {n m : Nat} {a : Addr} {o : Obj} {vs : Array Value} (ho : s.heap.get? a = some o) (hc : o.cls = .type "tuple") (hd : o.data = .seq vs m) (all : ∀ u ∈ vs.toList, AnyBy P w s n u) : AnyBy P w s (n + 1) (.ref a) := by
  intro A E Q q
  have ty : s.TypeIs (.ref a) "tuple" := ⟨o, ho, hc⟩
  unfold hashByValue
  refine wpAny_bind (wpAny_specialOf ty F.slot_tuple_hash.lookup ?_)
  show wpAny _ A (seqItems? (.ref a) >>= _) _ _ _
  refine wpAny_bind (wpAny_seqItems ho hd ?_)
  refine wpAny_bind ?_
  show wpAny _ A (forIn vs _ _) _ _ _
  rw [← Array.forIn_toList]
  refine wpAny_forIn_list _ (fun left z s1 => s1 = s ∧ z.1 = none ∧ ∀ u ∈ left, AnyBy P w s n u) _ ?_ ?_ vs.toList _ ⟨rfl, rfl, all⟩
  · rintro u left z s1 ⟨rfl, e0, more⟩
    refine wpAny_bind (more u (.head _) A E _ fun b => ?_)
    cases b with
    | true =>
      simp only [Bool.not_true, Bool.false_eq_true, ↓reduceIte]
      exact wpAny_pure ⟨rfl, rfl, fun y hy => more y (.tail _ hy)⟩
    | false =>
      simp only [Bool.not_false, ↓reduceIte]
      refine wpAny_pure ?_
      exact wpAny_pure (q false)
  · rintro ⟨z1, z2⟩ s1 ⟨rfl, e0, _⟩
    cases (show z1 = none from e0)
    exact wpAny_pure (q true)
mutual
theorem nk_cls : ∀ (k : NestedKey) (v : Value) (n : Nat) (s : Shared), NestedIs s.heap k v → k.depth ≤ n → NoCls P w s n v
  | .none, _, n, s, x, _ => by
    cases x
    intro A E Q q
    cases n <;> exact wpAny_pure q
  | .num i, _, n, s, x, _ => by
    cases x <;> intro A E Q q <;> cases n <;> exact wpAny_pure q
  | .text y, _, n, s, x, _ => by
    cases x
    intro A E Q q
    cases n <;> exact wpAny_pure q
  | .tup ks, _, n, s, x, hn => by
    simp only [NestedKey.depth] at hn
    cases x with
    | tup hg hc hd hk =>
      obtain ⟨n, rfl⟩ : ∃ m, n = m + 1 := ⟨n - 1, by omega⟩
      exact .seq hg hc hd (nk_clsAll ks _ n s hk (by omega))
theorem nk_clsAll : ∀ (ks : List NestedKey) (vs : List Value) (n : Nat) (s : Shared), NestedAll s.heap ks vs → NestedKey.depthAll ks ≤ n → ∀ v ∈ vs, NoCls P w s n v
  | [], _, n, s, x, _ => by
    cases x
    intro v hv
    cases hv
  | k :: ks, _, n, s, x, hn => by
    simp only [NestedKey.depthAll] at hn
    cases x with
    | cons x1 x2 =>
      intro v hv
      cases hv with
      | head => exact nk_cls k _ n s x1 (by omega)
      | tail _ hv => exact nk_clsAll ks _ n s x2 (by omega) v hv
end
mutual
theorem nk_any : ∀ (k : NestedKey) (v : Value) (n : Nat) (s : Shared), NestedIs s.heap k v → k.depth ≤ n → AnyBy P w s n v
  | .none, _, n, s, x, _ => by
    cases x
    intro A E Q q
    cases n <;> exact wpAny_pure (q true)
  | .num i, _, n, s, x, _ => by
    cases x <;> intro A E Q q <;> cases n <;> exact wpAny_pure (q true)
  | .text y, _, n, s, x, _ => by
    cases x
    intro A E Q q
    cases n <;> exact wpAny_pure (q false)
  | .tup ks, _, n, s, x, hn => by
    simp only [NestedKey.depth] at hn
    cases x with
    | tup hg hc hd hk =>
      obtain ⟨n, rfl⟩ : ∃ m, n = m + 1 := ⟨n - 1, by omega⟩
      exact .seq hg hc hd (nk_anyAll ks _ n s hk (by omega))
theorem nk_anyAll : ∀ (ks : List NestedKey) (vs : List Value) (n : Nat) (s : Shared), NestedAll s.heap ks vs → NestedKey.depthAll ks ≤ n → ∀ v ∈ vs, AnyBy P w s n v
  | [], _, n, s, x, _ => by
    cases x
    intro v hv
    cases hv
  | k :: ks, _, n, s, x, hn => by
    simp only [NestedKey.depthAll] at hn
    cases x with
    | cons x1 x2 =>
      intro v hv
      cases hv with
      | head => exact nk_any k _ n s x1 (by omega)
      | tail _ hv => exact nk_anyAll ks _ n s x2 (by omega) v hv
end
/-- an object that is a nested key -/
def NkAt (h : Heap) (k : NestedKey) (a : Addr) : Prop := NestedIs h k (.ref a) ∧ k.depth ≤ 8
theorem nk_seen {A : Around} {E : Value → Shared → Prop} {s : Shared} {x : Addr} {k : NestedKey} {Q : Bool → Shared → Prop} (hx : NkAt s.heap k x) {ys : List Value} (hy : ∀ y ∈ ys, ∃ k' c, y = Value.ref c ∧ NkAt s.heap k' c) (q : Q false s) :
    wpAny (model P w) A (searchCouldBeSeen (.ref x) ys) Q E s := by
  unfold searchCouldBeSeen
  refine wpAny_bind ?_
  refine wpAny_forIn_list _ (fun left z s1 => s1 = s ∧ z.1 = none ∧ ∀ y ∈ left, ∃ k' c, y = Value.ref c ∧ NkAt s.heap k' c) _ ?_ ?_ ys _ ⟨rfl, rfl, hy⟩
  · rintro u left z s1 ⟨rfl, e0, more⟩
    obtain ⟨k', c, rfl, hc⟩ := more u (.head _)
    have go : (none : Option Bool) = none ∧ ∀ y ∈ left, ∃ k' c, y = Value.ref c ∧ NkAt s1.heap k' c := ⟨rfl, fun y hy => more y (.tail _ hy)⟩
    dsimp only
    by_cases very : (x == c || (carriedByValue (.ref x) && carriedByValue (.ref c))) = true
    · exact wp_if_pos very (wpAny_pure ⟨rfl, go⟩)
    · refine wp_if_neg very (wpAny_bind (quiet_key k _ 8 s1 hx.1 hx.2 A E _ ?_))
      simp only [Bool.not_true, Bool.false_eq_true, ↓reduceIte]
      refine wpAny_bind (quiet_key k' _ 8 s1 hc.1 hc.2 A E _ ?_)
      simp only [Bool.not_true, Bool.false_eq_true, ↓reduceIte]
      refine wpAny_bind (nk_cls k _ 8 s1 hx.1 hx.2 A E _ ?_)
      simp only [Bool.false_eq_true, ↓reduceIte]
      refine wpAny_bind (nk_cls k' _ 8 s1 hc.1 hc.2 A E _ ?_)
      simp only [Bool.false_eq_true, ↓reduceIte]
      exact wpAny_pure ⟨rfl, go⟩
  · rintro ⟨z1, z2⟩ s1 ⟨rfl, e0, _⟩
    cases (show z1 = none from e0)
    exact wpAny_pure q
end
end Lr

namespace Lr
open PySem PySem.Spec PyProof.Rows L2
section
variable {P : Program} {w : World}
/-- the rows of a set of the keys in L, each at its address -/
def nrows (w : World) (L : List (NestedKey × Addr)) : List (Int × Value) := L.map fun q => (q.1.hash w, Value.ref q.2)
/-- at a: a set of at most four nested keys, all different, over eight places -/
structure Nst (P : Program) (w : World) (h : Heap) (a : Addr) (L : List (NestedKey × Addr)) (es : Array (Int × Value)) (ep : Nat) (t : SetTable) : Prop where
  ob : ∃ o, h.get? a = some o ∧ o.ExactSet ∧ o.data = .set es ep t
  rows : es.toList = nrows w L
  tab : TabOk t (L.map fun q => q.1.hash w)
  keys : ∀ q ∈ L, NkAt h q.1 q.2
  mask : t.mask = 7
  few : L.length ≤ 4
variable {A : Around} {E : Value → Shared → Prop} {s : Shared} {a : Addr} {L : List (NestedKey × Addr)} {es : Array (Int × Value)} {ep : Nat} {t : SetTable}
theorem Nst.num (N : Nst P w s.heap a L es ep t) : es.size = L.length := by
  rw [← Array.length_toList, N.rows, nrows, List.length_map]
theorem Nst.fit (N : Nst P w s.heap a L es ep t) : t.fits es.size = true := by
  have z1 : t.place.size = L.length := by
    rw [N.tab.sz, List.length_map]
  have z2 := N.few
  have z3 := N.mask
  unfold SetTable.fits SetTable.fill
  rw [N.num, N.tab.dm, z1, z3]
  simp only [beq_self_eq_true, Bool.true_and, decide_eq_true_eq]
  show L.length + 0 ≤ 7
  omega
theorem Nst.whole (N : Nst P w s.heap a L es ep t) : ¬ t.gaveWay = true := by
  unfold SetTable.gaveWay
  rw [N.mask]
  decide
theorem Nst.at (N : Nst P w s.heap a L es ep t) {i : Nat} {q : NestedKey × Addr} (h : L[i]? = some q) : es[i]? = some (q.1.hash w, Value.ref q.2) := by
  have z : es.toList[i]? = some (q.1.hash w, Value.ref q.2) := by
    rw [N.rows, nrows, List.getElem?_map, h]
    rfl
  rwa [Array.getElem?_toList] at z
theorem nth_dummy {m : Nat} : ∀ (n : Nat) (p : SetTable.Probe), p.dummy = none → (nth m p n).dummy = none
  | 0, _, h => h
  | n + 1, p, h => nth_dummy n (adv m p) (by
      unfold adv
      split <;> exact h)
/-- the start of the way of a hash -/
abbrev way0 (m : Nat) (g : Int) : SetTable.Probe := runAt m (SetTable.bits g % (m + 1)) (SetTable.bits g)
/-- looking for a key that isn't in: the first empty place of its way -/
theorem nst_seek (N : Nst P w s.heap a L es ep t) {x : Addr} {k : NestedKey} (hx : NkAt s.heap k x) (hu : A.units + 8 < cLine) (new : ∀ q ∈ L, q.1 ≠ k) {K : Nat} (kf : K < 10 * SetTable.turns t.mask)
    (free : way t.mask (k.hash w) K ∉ t.place.toList) (full : ∀ c, c < K → way t.mask (k.hash w) c ∈ t.place.toList) {Q : SetFound → Shared → Prop} (out : Q (.free (way t.mask (k.hash w) K) false) s) :
    ∀ (n c : Nat) (st : Option SetTable.Probe), st.getD (t.probeStart (k.hash w)) = nth t.mask (way0 t.mask (k.hash w)) c → c ≤ K → K < c + n → wpAny (model P w) A (setSearchFrom a (.ref x) (k.hash w) true n st) Q E s := by
  intro n
  induction n with
  | zero =>
    intro c st _ h1 h2
    omega
  | succ n ih =>
    intro c st from_c le lt
    obtain ⟨o, ho, hex, hd⟩ := N.ob
    rw [setSearchFrom_succ]
    refine wpAny_bind (wpAny_setState_of ho hd N.fit ?_)
    dsimp only
    refine wp_if_neg N.whole ?_
    try refine wpAny_bind (wpAny_pure ?_)
    have nd := nth_dummy (m := t.mask) c (way0 t.mask (k.hash w)) rfl
    have ahead : ∀ j, (nth t.mask (nth t.mask (way0 t.mask (k.hash w)) c) j).j = way t.mask (k.hash w) (c + j) := fun j => congrArg SetTable.Probe.j (nth_add t.mask c (way0 t.mask (k.hash w)) j).symm
    have cK : c + (K - c) = K := by omega
    rcases go_spec t N.tab.ris N.tab.dm (fun i => (es[i]?.map (·.1)).getD 0) (k.hash w) (10 * SetTable.turns t.mask) (K - c) (nth t.mask (way0 t.mask (k.hash w)) c) nd (by omega)
      (fun j hj => by rw [ahead]; exact full _ (by omega)) (by rw [ahead, cK]; exact free) with ⟨j, i, jK, at_i, same, _, met⟩ | ⟨_, met⟩
    · rw [ahead] at at_i met
      have met' : t.probe (fun i => (es[i]?.map (·.1)).getD 0) (k.hash w) (st.getD (t.probeStart (k.hash w))) = some (.candidate (way t.mask (k.hash w) (c + j)) i (nth t.mask (way0 t.mask (k.hash w)) (c + (j + 1)))) := by
        rw [from_c, nth_add]
        exact met
      rw [met']
      dsimp only
      have iL : i < L.length := by
        have z := (List.getElem?_eq_some_iff.mp at_i).1
        rw [Array.length_toList, N.tab.sz, List.length_map] at z
        exact z
      obtain ⟨q, hq⟩ : ∃ q, L[i]? = some q := ⟨_, List.getElem?_eq_getElem iL⟩
      have qm : q ∈ L := List.mem_of_getElem? hq
      have rest : wpAny (model P w) A (searchRest a (.ref x) (k.hash w) true n es t (way t.mask (k.hash w) (c + j)) i (nth t.mask (way0 t.mask (k.hash w)) (c + (j + 1)))) Q E s := by
        unfold searchRest
        rw [N.at hq]
        dsimp only
        have no : decide (q.1 = k) = false := decide_eq_false (new q qm)
        refine wpAny_bind (wpAny_holding ((nestedKind P w).eqBool (x := q.1) (y := k) hu (N.keys q qm) hx ?_))
        rw [no]
        refine wpAny_bind (wpAny_setState_of ho hd N.fit ?_)
        dsimp only
        refine wp_if_neg (by simp) ?_
        try refine wpAny_bind (wpAny_pure ?_)
        rw [sameMem]
        dsimp only
        simp only [↓reduceIte, slot_live N.tab.ris at_i, N.at hq]
        refine wpAny_bind (wpAny_isSame_ref_self (wpAny_bind (wpAny_pure ?_)))
        simp only [↓reduceIte]
        refine wp_if_neg (by simp) ?_
        exact ih (c + (j + 1)) _ rfl (by omega) (by omega)
      by_cases led : t.led = true
      · refine wp_if_neg (by rw [led]; decide) ?_
        try refine wpAny_bind (wpAny_pure ?_)
        exact rest
      · refine wp_if_pos (by rw [Bool.not_eq_true] at led; rw [led]; rfl) (wpAny_bind (nk_seen hx (fun y hy => ?_) ?_))
        · obtain ⟨e, he, rfl⟩ := List.mem_map.mp hy
          rw [Array.mem_toList_iff, Array.mem_filter, ← Array.mem_toList_iff, N.rows] at he
          obtain ⟨p, hp, rfl⟩ := List.mem_map.mp he.1
          exact ⟨p.1, p.2, rfl, N.keys p hp⟩
        · refine wp_if_neg (by decide) ?_
          try refine wpAny_bind (wpAny_pure ?_)
          exact rest
    · rw [ahead, cK] at met
      have met' : t.probe (fun i => (es[i]?.map (·.1)).getD 0) (k.hash w) (st.getD (t.probeStart (k.hash w))) = some (.empty (way t.mask (k.hash w) K) none) := by
        rw [from_c]
        exact met
      rw [met']
      exact wpAny_pure out
theorem nst_find (N : Nst P w s.heap a L es ep t) {x : Addr} {k : NestedKey} (hx : NkAt s.heap k x) (hu : A.units + 8 < cLine) (new : ∀ q ∈ L, q.1 ≠ k) {Q : SetFound → Shared → Prop}
    (out : ∀ K, way t.mask (k.hash w) K ∉ t.place.toList → (∀ c, c < K → way t.mask (k.hash w) c ∈ t.place.toList) → Q (.free (way t.mask (k.hash w) K) false) s) :
    wpAny (model P w) A (setSearch a (.ref x) (k.hash w) true) Q E s := by
  have z1 := N.few
  have z2 := N.mask
  obtain ⟨K, kf, free, full⟩ := N.tab.first (by rw [List.length_map, z2]; omega) (k.hash w)
  have small : 10 * SetTable.turns t.mask ≤ 1420 := by
    unfold SetTable.turns
    rw [z2]
    omega
  exact nst_seek N hx hu new kf free full (out K free full) 100000 0 none rfl (Nat.zero_le _) (by omega)
end
end Lr

namespace Lr
open PySem PySem.Spec PyProof.Rows L2
section
variable {P : Program} {w : World}
theorem nk_keep {h h' : Heap} {k : NestedKey} {b : Addr} (x : NkAt h k b) (keep : ∀ c o vs n, h.get? c = some o → o.data = .seq vs n → h'.get? c = some o) : NkAt h' k b := ⟨x.1.at keep, x.2⟩
variable {A : Around} {E : Value → Shared → Prop} {s : Shared} {a : Addr} {L : List (NestedKey × Addr)} {es : Array (Int × Value)} {ep : Nat} {t : SetTable}
theorem Nst.keep {h h' : Heap} (N : Nst P w h a L es ep t) (ha : ∀ o, h.get? a = some o → h'.get? a = some o) (hk : ∀ q ∈ L, NkAt h' q.1 q.2) : Nst P w h' a L es ep t := by
  obtain ⟨o, ho, more⟩ := N.ob
  exact { N with ob := ⟨o, ha o ho, more⟩, keys := hk }
/-- a key that isn't in is put in -/
theorem nst_add (N : Nst P w s.heap a L es ep t) {x : Addr} {k : NestedKey} (hx : NkAt s.heap k x) (hu : A.units + 8 < cLine) (new : ∀ q ∈ L, q.1 ≠ k) (room : L.length + 1 ≤ 4) {Q : Bool → Shared → Prop}
    (out : ∀ h' L' es' ep' t', Heap.SameBut a s.heap h' → Nst P w h' a L' es' ep' t' → L'.Perm ((k, x) :: L) → Q true { s with heap := h' }) : wpAny (model P w) A (setAddHashed a (.ref x) (k.hash w)) Q E s := by
  obtain ⟨o, ho, hex, hd⟩ := N.ob
  have num := N.num
  unfold setAddHashed
  refine wpAny_holding ?_
  have fuel : (100000 : Nat) = 99999 + 1 := rfl
  rw [fuel, setAddHashedIn_succ]
  refine wpAny_bind (wpAny_setState_of ho hd N.fit ?_)
  dsimp only
  refine wp_if_neg (by simp [byScan, Value.scannable]) ?_
  try refine wpAny_bind (wpAny_pure ?_)
  refine wpAny_bind (nst_find N hx hu new fun K free full => ?_)
  dsimp only
  refine wpAny_bind (wpAny_setState_of ho hd N.fit ?_)
  dsimp only
  obtain ⟨p1, p2, p3, p4, _, _, _, _, p9⟩ := N.tab.put free full
  have er : (SetTable.insertAt es (SetTable.below t.place (way t.mask (k.hash w) K)) (k.hash w, Value.ref x)).toList = nrows w (L.take (SetTable.below t.place (way t.mask (k.hash w) K)) ++ (k, x) :: L.drop (SetTable.below t.place (way t.mask (k.hash w) K))) := by
    rw [SetTable.toList_insertAt, N.rows]
    unfold nrows
    rw [List.map_append, List.map_cons, List.map_take, List.map_drop]
  have eh : (L.take (SetTable.below t.place (way t.mask (k.hash w) K)) ++ (k, x) :: L.drop (SetTable.below t.place (way t.mask (k.hash w) K))).map (fun q => q.1.hash w) = (L.map fun q => q.1.hash w).take (SetTable.below t.place (way t.mask (k.hash w) K)) ++ k.hash w :: (L.map fun q => q.1.hash w).drop (SetTable.below t.place (way t.mask (k.hash w) K)) := by
    rw [List.map_append, List.map_cons, List.map_take, List.map_drop]
  rw [← eh] at p3
  have pm : (L.take (SetTable.below t.place (way t.mask (k.hash w) K)) ++ (k, x) :: L.drop (SetTable.below t.place (way t.mask (k.hash w) K))).Perm ((k, x) :: L) := by
    refine List.perm_middle.trans ?_
    rw [List.take_append_drop]
  generalize hput : t.put (way t.mask (k.hash w) K) = pt at p1 p3 p4 p9 ⊢
  obtain ⟨t1, place⟩ := pt
  dsimp only at p1 p3 p4 p9 ⊢
  rw [p1]
  generalize L.take (SetTable.below t.place (way t.mask (k.hash w) K)) ++ (k, x) :: L.drop (SetTable.below t.place (way t.mask (k.hash w) K)) = L1 at er p3 pm ⊢
  generalize SetTable.insertAt es (SetTable.below t.place (way t.mask (k.hash w) K)) (k.hash w, Value.ref x) = es1 at er ⊢
  have n1 : L1.length = L.length + 1 := by rw [pm.length_eq, List.length_cons]
  have z1 : es1.size = L.length + 1 := by rw [← Array.length_toList, er, nrows, List.length_map, n1]
  have same_tab : ∀ by1 : Bool, ∃ t2 : SetTable, (if by1 = true then t1 else { t1 with plain := false }) = t2 ∧ TabOk t2 (L1.map fun q => q.1.hash w) ∧ t2.mask = t.mask ∧ t2.fill = L.length + 1 := fun by1 => by
    rw [List.length_map] at p9
    cases by1 with
    | true => exact ⟨t1, rfl, p3, p4, p9⟩
    | false => exact ⟨{ t1 with plain := false }, rfl, ⟨p3.ris, p3.dm, p3.sz, p3.mok, p3.bd, p3.reach⟩, p4, p9⟩
  have go : ∀ by1 : Bool, wpAny (model P w) A (do
      storeSet a es1 (if by1 = true then t1 else { t1 with plain := false })
      if (!false && (if by1 = true then t1 else { t1 with plain := false }).tooFull) = true then setRelay a (SetTable.grown (es.size + 1))
      return true) Q E s := fun by1 => by
    obtain ⟨t2, e2, T2, m2, f2⟩ := same_tab by1
    rw [e2]
    refine wpAny_bind (wpAny_storeSet_of ho hd ?_ (by rw [z1, sizeLine_eq]; omega))
    have calm : t2.tooFull = false := by
      unfold SetTable.tooFull
      rw [f2, m2, N.mask]
      exact decide_eq_false (by omega)
    have sb : Heap.SameBut a s.heap (s.heap.update a (Obj.putSet es1 t2)) := Heap.SameBut.update ..
    have sat := store_at (es' := es1) (t' := t2) ho hd
    generalize s.heap.update a (Obj.putSet es1 t2) = h1 at sb sat ⊢
    have stay : ∀ c o vs n, s.heap.get? c = some o → o.data = .seq vs n → h1.get? c = some o := fun c oc vs n hc dc => by
      refine (sb.2 c fun e => ?_).trans hc
      subst e
      rw [ho] at hc
      cases hc
      rw [hd] at dc
      cases dc
    have done : Q true { s with heap := h1 } := by
      refine out h1 L1 es1 (ep + 1) t2 sb ⟨⟨_, sat, ⟨hex.1, hex.2.1, hex.2.2⟩, rfl⟩, er, T2, fun q hq => ?_, m2.trans N.mask, by omega⟩ pm
      rcases List.mem_cons.mp (pm.mem_iff.mp hq) with e | hq
      · rw [e]
        exact nk_keep hx stay
      · exact nk_keep (N.keys q hq) stay
    first
      | exact wp_if_neg (by rw [calm]; decide) (wpAny_pure done)
      | exact wpAny_bind (wp_if_neg (by rw [calm]; decide) (wpAny_pure (wpAny_pure done)))
  by_cases pl : t1.plain = true
  · first
      | (refine wp_if_pos pl (wpAny_bind (nk_any k _ 8 s hx.1 hx.2 A E _ fun by1 => ?_)); exact go by1)
      | (refine wpAny_bind (wp_if_pos pl (nk_any k _ 8 s hx.1 hx.2 A E _ fun by1 => ?_)); exact go by1)
  · first
      | (refine wp_if_neg pl (wpAny_bind (wpAny_pure ?_)); exact go true)
      | (refine wpAny_bind (wp_if_neg pl (wpAny_pure ?_)); exact go true)
theorem nst_new {h : Heap} (ho : h.get? a = some { cls := .type "set", dict := none, data := .set #[] 0 (.fresh 0 0 (!w.params.followText "set-order")) }) : Nst P w h a [] #[] 0 (.fresh 0 0 (!w.params.followText "set-order")) := by
  refine ⟨⟨_, ho, ⟨rfl, rfl, rfl⟩, rfl⟩, rfl, ⟨.nil, rfl, rfl, .inl rfl, ?_, ?_⟩, ?_, rfl, Nat.zero_le 4⟩
  · intro x hx
    cases hx
  · intro i g j hi
    simp at hi
  · intro q hq
    cases hq
end
end Lr

namespace Lr
open PySem PySem.Spec PyProof.Rows L2
section
variable {P : Program} {w : World} {A : Around} {E : Value → Shared → Prop} {s : Shared}
/-- the empty set that set.__new__ makes -/
abbrev bareSet (w : World) : Obj := { cls := .type "set", dict := none, data := .set #[] 0 (.fresh 0 0 (!w.params.followText "set-order")) }
/-- L holds what the first i of ks are -/
def Taken (ks : List (NestedKey × Addr)) (i : Nat) (L : List (NestedKey × Addr)) : Prop := L.Perm (ks.take i)
theorem taken_all {ks L : List (NestedKey × Addr)} {i : Nat} (g : Taken ks i L) {q : NestedKey × Addr} (h : q ∈ L) : q ∈ ks := List.mem_of_mem_take (g.mem_iff.mp h)
theorem taken_next {ks L L' : List (NestedKey × Addr)} {i : Nat} {q : NestedKey × Addr} (g : Taken ks i L) (at_i : ks[i]? = some q) (p : L'.Perm (q :: L)) : Taken ks (i + 1) L' := by
  unfold Taken
  rw [List.take_succ, at_i]
  refine p.trans ((g.cons q).trans ?_)
  exact (List.perm_append_singleton q (ks.take i)).symm
theorem taken_new {ks L : List (NestedKey × Addr)} {i : Nat} {q : NestedKey × Addr} (nd : (ks.map (·.1)).Nodup) (g : Taken ks i L) (at_i : ks[i]? = some q) : ∀ p ∈ L, p.1 ≠ q.1 := by
  intro p hp e
  obtain ⟨j, hj, ej⟩ := List.getElem_of_mem (g.mem_iff.mp hp)
  rw [List.length_take] at hj
  have ji : j < i := by omega
  have jk : j < ks.length := by omega
  have ik : i < ks.length := (List.getElem?_eq_some_iff.mp at_i).1
  have e1 : ks[j] = p := by
    rw [List.getElem_take] at ej
    exact ej
  have e2 : ks[i] = q := (List.getElem?_eq_some_iff.mp at_i).2
  have z := List.pairwise_iff_getElem.mp nd j i (by rw [List.length_map]; exact jk) (by rw [List.length_map]; exact ik) ji
  rw [List.getElem_map, List.getElem_map, e1, e2] at z
  exact z e
theorem nst_update {I : Addr} {fp wr : List Addr} {G : Array GenState → Array GenState → Prop} {n : Nat} {Pv : Nat → Value → Prop} {St : Nat → Shared → Prop} {R : Result → Shared → Prop} (W : WalksS P w A.in1 I fp wr G n Pv St)
    (S : Addr) (apart : S ∉ fp) (ks : List (NestedKey × Addr)) (nk : ks.length = n) (few : ks.length ≤ 4) (nd : (ks.map (·.1)).Nodup) (item : ∀ i v, Pv i v → ∃ q, ks[i]? = some q ∧ v = .ref q.2) (h0 : Heap) (keys : ∀ q ∈ ks, NkAt h0 q.1 q.2)
    (noS : h0.get? S = none) (nowr : ∀ b ∈ wr, h0.get? b = none) (hu : A.in1.units + 8 < cLine) :
    ∀ (left i : Nat) (s : Shared), i + left = n → St i s → (∀ b o, h0.get? b = some o → s.heap.get? b = some o) → (∃ L es ep t, Nst P w s.heap S L es ep t ∧ Taken ks i L) →
      (∀ s' L es ep t, Moved (S :: wr) G s s' → Nst P w s'.heap S L es ep t → Taken ks n L → (∀ b o, h0.get? b = some o → s'.heap.get? b = some o) → R (.ok (.ret .none)) s') →
      codeAny (model P w) A (.builtin "set.update.loop" ⟨[.ref S, .ref I], []⟩) R s := by
  have Swr : S ∉ wr := fun z => apart (W.sub _ z)
  have more : ∀ b ∈ wr, b ∈ S :: wr := fun b z => .tail _ z
  have carry : ∀ {u v : Shared}, Moved wr G u v → (∀ b o, h0.get? b = some o → u.heap.get? b = some o) → ∀ b o, h0.get? b = some o → v.heap.get? b = some o := by
    intro u v mv old b o e
    refine mv.heap b o (fun z => ?_) (old b o e)
    rw [nowr b z] at e
    cases e
  intro left
  induction left with
  | zero =>
    intro i s in_ st old ⟨L, es, ep, t, N, g⟩ fin
    have ei : i = n := by omega
    subst ei
    refine codeAny_builtin F.entry_set_update_loop ?_
    rw [Around.under_plainId F.plain_set_update_loop _]
    show wpAny _ A.in1 (pyNext (.ref I) >>= _) _ _ _
    refine wpAny_bind (W.done s _ _ st fun s2 mv => ?_)
    show wpAny _ A.in1 (ret Value.none) _ _ _
    have old2 := carry mv old
    exact wpAny_pure (fin s2 L es ep t (mv.mono more) (N.keep (fun o e => mv.heap S o Swr e) fun q hq => nk_keep (keys q (taken_all g hq)) fun c o _ _ e _ => old2 c o e) g old2)
  | succ left ih =>
    intro i s in_ st old ⟨L, es, ep, t, N, g⟩ fin
    refine codeAny_builtin F.entry_set_update_loop ?_
    rw [Around.under_plainId F.plain_set_update_loop _]
    show wpAny _ A.in1 (pyNext (.ref I) >>= _) _ _ _
    refine wpAny_bind (W.item i s _ _ (by omega) st fun v s2 pv st2 mv => ?_)
    obtain ⟨q, at_i, rfl⟩ := item i v pv
    have old2 := carry mv old
    have N2 : Nst P w s2.heap S L es ep t := N.keep (fun o e => mv.heap S o Swr e) fun p hp => nk_keep (keys p (taken_all g hp)) fun c o _ _ e _ => old2 c o e
    have hx : NkAt s2.heap q.1 q.2 := nk_keep (keys q (List.mem_of_getElem? at_i)) fun c o _ _ e _ => old2 c o e
    have len : L.length + 1 ≤ 4 := by
      have z := g.length_eq
      rw [List.length_take] at z
      have il : i < ks.length := (List.getElem?_eq_some_iff.mp at_i).1
      omega
    show wpAny _ A.in1 (holding [Value.ref q.2] (setAdd S (.ref q.2)) >>= _) _ _ _
    refine wpAny_bind (wpAny_holding ?_)
    unfold setAdd
    refine wpAny_holding (wpAny_bind ((nestedKind P w).pyHash (k := q.1) hu hx ?_))
    refine nst_add (s := { s2 with toks := s2.toks + (nestedKind P w).draws q.1 }) N2 hx hu (taken_new nd g at_i) len fun h3 L3 es3 ep3 t3 sb N3 pm => ?_
    have old3 : ∀ b o, h0.get? b = some o → h3.get? b = some o := fun b o e => by
      refine (sb.2 b fun z => ?_).trans (old2 b o e)
      rw [z, noS] at e
      cases e
    refine wpAny_pure ⟨plainId_quiet F.plain_set_update_loop _, ih (i + 1) _ (by omega) (W.frame _ s2 _ _ st2 (Nat.le_add_right _ _) fun b hb o e => ?_) old3 ⟨L3, es3, ep3, t3, N3, taken_next g at_i pm⟩ fun s4 L4 es4 ep4 t4 mv4 N4 g4 old4 => ?_⟩
    · refine (sb.2 b fun z => ?_).trans e
      rw [z] at hb
      exact apart hb
    · refine fin s4 L4 es4 ep4 t4 (Moved.trans W.gtrans ((mv.mono more).then_heap (Nat.le_add_right _ _) fun b o hb e => ?_) mv4) N4 g4 old4
      refine (sb.2 b fun z => ?_).trans e
      rw [z] at hb
      exact hb (.head _)
end
end Lr

namespace Lr
open PySem PySem.Spec PyProof.Rows L2
section
variable {P : Program} {w : World} {A : Around} {E : Value → Shared → Prop} {s : Shared}
/-- set(t), t a tuple of at most four nested keys, all different -/
theorem nst_call {l : Addr} {items : Array Value} (ks : List (NestedKey × Addr)) {Q : Value → Shared → Prop} (calm : A.handled = none) (at_l : s.heap.IsTuple l items) (its : items.toList = ks.map fun q => Value.ref q.2)
    (keys : ∀ q ∈ ks, NkAt s.heap q.1 q.2) (few : ks.length ≤ 4) (nd : (ks.map (·.1)).Nodup) (hu : A.units + 12 < cLine)
    (out : ∀ (h' : Heap) (tk : Nat) L es ep t, Nst P w h' s.heap.objs.size L es ep t → L.length = ks.length → (∀ b o, s.heap.get? b = some o → h'.get? b = some o) → Q (.ref s.heap.objs.size) { s with heap := h', toks := tk }) :
    wpAny (model P w) A (call (.type "set") [.ref l]) Q E s := by
  have size : items.size = ks.length := by rw [← Array.length_toList, its, List.length_map]
  obtain ⟨c, tl, hmro⟩ := F.called_set.mro
  have made := F.called_set.made
  have sub := F.called_set.sub
  refine wpAny_call (codeAny_of_tree ?_)
  show wpAny _ A.in1 (callAny (.type "set") _) _ _ _
  refine wpAny_pure ⟨Code.quiet_builtin _ (by decide +kernel), codeAny_builtin F.entry_type_call ?_⟩
  rw [Around.under_plain (weight_type_call_type "set" [.ref l] []) rfl]
  have notType := F.called_set.notType
  have canCreate := F.called_set.canCreate
  have typeCall := F.typeCall_set_1 (.ref l)
  repeat (any_goals (first | assumption | wp_step))
  refine codeAny_mono (code_set_led1 (.ref l) (E := E) (Q₁ := fun obj u => obj = .ref s.heap.objs.size ∧ u = { s with heap := s.heap.push (bareSet w) }) ⟨rfl, rfl⟩) fun r u back => ?_
  match r, back with
  | .error e, back => exact back
  | .ok .next, back => exact back.elim
  | .ok .brk, back => exact back.elim
  | .ok .cont, back => exact back.elim
  | .ok (.ret obj), ⟨e1, e2⟩ =>
    subst e1
    subst e2
    have at_S : (s.heap.push (bareSet w)).get? s.heap.objs.size = some (bareSet w) := Heap.get?_push_size _ rfl
    have ty_S : Shared.TypeIs { s with heap := s.heap.push (bareSet w) } (.ref s.heap.objs.size) "set" := ⟨_, at_S, rfl⟩
    have iLook := F.called_set.init.lookup
    have iBind := F.called_set.init.bind (.ref s.heap.objs.size)
    repeat (any_goals (first | assumption | wp_step))
    refine codeAny_mono (codeAny_call_builtin (R := wants (fun r u => r = .none ∧ ∃ h' tk L es ep t, u = { s with heap := h', toks := tk } ∧ Nst P w h' s.heap.objs.size L es ep t ∧ L.length = ks.length ∧
      (∀ b o, s.heap.get? b = some o → h'.get? b = some o)) E) F.called_set.init.plain F.entry_set_init (check_set_init_1 ty_S ?_)) fun r2 u2 back2 => ?_
    · obtain ⟨⟨ocls, odict, odata, oslots⟩, at_o, ecls, nl, edata⟩ := at_l
      simp only at ecls edata
      subst ecls
      subst edata
      have at_o1 : (s.heap.push (bareSet w)).get? l = some { cls := .type "tuple", dict := odict, data := .seq items nl, slots := oslots } := Heap.get?_push_of_some _ at_o
      have subS := F.sub_tuple_set
      have subF := F.sub_tuple_frozenset
      have notDict : (Value.type "tuple" == Value.type "dict") = false := by decide
      have tup1 : (s.heap.push (bareSet w)).IsTuple l items := ⟨_, at_o1, rfl, nl, rfl⟩
      have low : l < s.heap.objs.size := Heap.lt_size at_o
      unfold Builtin.«set.__init__» noKeywords Builtin.Frozenset.updateFrom
      generalize hIt : pyIter = it
      wp_walk
      subst hIt
      refine wpAny_pyIter_tuple tup1 ?_
      refine wpAny_bind (wpAny_runValue ?_)
      have calm3 : A.in1.in1.in1.handled = none := by simp [calm]
      have size1 : (s.heap.push (bareSet w)).objs.size = s.heap.objs.size + 1 := Heap.size_push ..
      have beyond : ∀ b, s.heap.objs.size ≤ b → s.heap.get? b = none := fun b hb => by
        cases z : s.heap.get? b with
        | none => rfl
        | some o => exact absurd (Nat.lt_of_lt_of_le (Heap.lt_size z) hb) (Nat.lt_irrefl b)
      have neI : l ≠ (s.heap.push (bareSet w)).objs.size := by
        rw [size1]
        exact Nat.ne_of_lt (Nat.lt_succ_of_lt low)
      refine nst_update ((Walks.tuple calm3 _ l neI items).toS) s.heap.objs.size ?apart ks size.symm few nd ?item s.heap keys (beyond _ (Nat.le_refl _)) ?nowr (by simp only [Around.in1_units]; omega) items.size 0 _ (Nat.zero_add _)
        ⟨⟨_, Heap.get?_push_size _ rfl, rfl, rfl⟩, (tup1.push _)⟩ (fun b o e => Heap.get?_push_of_some _ (Heap.get?_push_of_some _ e)) ?start ?fin
      case apart =>
        rw [size1]
        simp only [List.mem_cons, List.not_mem_nil, or_false, not_or]
        exact ⟨Nat.ne_of_lt (Nat.lt_succ_self _), Nat.ne_of_gt low⟩
      case item =>
        intro i v hv
        have z : items.toList[i]? = some v := by
          rw [Array.getElem?_toList]
          exact hv
        rw [its, List.getElem?_map, Option.map_eq_some_iff] at z
        obtain ⟨q, hq, e⟩ := z
        exact ⟨q, hq, e.symm⟩
      case nowr =>
        intro b hb
        rw [List.mem_singleton.mp hb, size1]
        exact beyond _ (Nat.le_succ _)
      case start =>
        exact ⟨[], #[], 0, _, nst_new (Heap.get?_push_of_some _ at_S), .refl _⟩
      case fin =>
        intro s' L es ep t mv N g old
        obtain ⟨h', g2, d2, tk2, os2⟩ := s'
        cases (show g2 = s.gens from mv.gens)
        cases (show d2 = s.drawn from mv.drawn)
        cases (show os2 = s.os from mv.os)
        show wpAny _ _ _ _ _ _
        refine wpAny_pure ?_
        show wpAny _ _ (ret Value.none) _ _ _
        refine wpAny_pure ⟨rfl, h', tk2, L, es, ep, t, rfl, N, ?_, old⟩
        have z := g.length_eq
        rw [List.length_take] at z
        omega
    · match r2, back2 with
      | .error e, back2 => exact back2
      | .ok .next, back2 => exact back2.elim
      | .ok .brk, back2 => exact back2.elim
      | .ok .cont, back2 => exact back2.elim
      | .ok (.ret r), ⟨e1, h', tk, L, es, ep, t, e2, N, len, old⟩ =>
        subst e1
        subst e2
        repeat (any_goals (first | assumption | wp_step))
        exact out _ _ _ _ _ _ N len old
end
end Lr

namespace Lr
open PySem PySem.Spec PyProof.Rows L2
section
variable {X : Cx}
/-- a value of the layer that is a nested key -/
def Nk (K : PySem.W.Frag) (H : Hp) (v : V) (k : NestedKey) : Prop := Dp K H v k.data
mutual
theorem dp_nested {pins : List (Addr × Obj)} {σ : L2.St} {H : Hp} {s : Shared} (I : Inv X pins σ H s) : ∀ (k : NestedKey) (v : V) (u : Value), Dp X.K H v k.data → RelV v u → NestedIs s.heap k u
  | .none, _, _, h, r => by
    cases h
    cases r
    exact .none
  | .num i, _, _, h, r => by
    cases h
    obtain ⟨t, rfl⟩ := r
    exact .int i t
  | .text x, _, _, h, r => by
    cases h
    obtain ⟨t, rfl⟩ := r
    exact .text x t
  | .tup ks, _, _, h, r => by
    cases h with
    | tup hs ha =>
      cases r
      obtain ⟨its, rv, ⟨o, ho, hc, n, hd⟩, _⟩ := I.tuple hs
      exact .tup ho hc hd (by simpa using dp_nestedAll I ks _ its ha rv)
theorem dp_nestedAll {pins : List (Addr × Obj)} {σ : L2.St} {H : Hp} {s : Shared} (I : Inv X pins σ H s) : ∀ (ks : List NestedKey) (vs : List V) (us : List Value), DpAll X.K H vs (NestedKey.datas ks) → Vals vs us → NestedAll s.heap ks us
  | [], _, _, h, r => by
    cases h
    cases r
    exact .nil
  | k :: ks, _, _, h, r => by
    cases h with
    | cons h1 h2 =>
      cases r with
      | cons r1 r2 => exact .cons (dp_nested I k _ _ h1 r1) (dp_nestedAll I ks _ _ h2 r2)
end
theorem refs_at : ∀ {as : List Addr} {us : List Value}, Vals (as.map V.ref) us → us = as.map Value.ref
  | [], _, .nil => rfl
  | a :: as, _, .cons r t => by
    cases r
    rw [refs_at t]
    rfl
/-- len(set(t)), t a tuple of nested keys -/
def tLenNst (K : PySem.W.Frag) (ta : TE) : TE := fun σ H Q => ta σ H fun x H1 => ∃ (l : Addr) (ks : List (NestedKey × Addr)), x = V.ref l ∧ SqT K H1 l (ks.map fun q => V.ref q.2) ∧ (∀ q ∈ ks, Dp K H1 (.ref q.2) q.1.data ∧ q.1.depth ≤ 8) ∧ ks.length ≤ 4 ∧ (ks.map (·.1)).Nodup ∧ Q (.int ks.length) H1
theorem pe_lenNst {e : Expr} {ta : TE} {p p2 q pos : Pos} (hc : X.calm = true) (hu : X.A.units + 20 < cLine) (hg : Gl X "len") (hm : X.mg "len" = none) (hg2 : Gl X "set") (hm2 : X.mg "set" = none) (ha : PE X e ta)
    (na : starEach [e] X.env = (false, eval e X.env) :: starEach [] X.env := by rfl) : PE X (.Call (.Name "len" p) [.Call (.Name "set" p2) [e] [] q] [] pos) (tLenNst X.K ta) := by
  refine ⟨fun pins s σ H Q I h => Call_ (ld_blt I hg hm PySem.boot_len ?_)⟩
  refine PyProof.Rows.callWith_builtin1 (PyProof.Rows.args_cons (Call_ (ld_blt I hg2 hm2 PyProof.Rows.boot_set ?_)) rfl) rfl rfl
  refine PyProof.Rows.callWith_type1 (PyProof.Rows.args_cons (thn (ha.run pins s σ H _ I h) fun v s1 ⟨x, H1, I1, r1, want⟩ => PyProof.Rows.args_nil ?_) na) na rfl
  obtain ⟨l, ks, rfl, hq, keys, few, nd, want⟩ := want
  cases r1
  obtain ⟨its, r, tup, _⟩ := I1.tuple hq
  have er : its = ks.map fun q => Value.ref q.2 := by
    have z := refs_at (as := ks.map (·.2)) (us := its) (by rw [List.map_map]; exact r)
    rw [z, List.map_map]
    rfl
  obtain ⟨o, ho, hcl, n, hd⟩ := tup
  refine nst_call (P := X.prog) (w := X.w) ks (I1.ok.hd hc) ⟨o, ho, hcl, n, hd⟩ (by simpa using er) (fun p hp => ⟨dp_nested I1 p.1 _ _ (keys p hp).1 rfl, (keys p hp).2⟩) few nd (by omega) fun h' tk L es ep t N len old => ?_
  refine PyProof.Rows.args_nil ?_
  obtain ⟨oS, hoS, hex, hdS⟩ := N.ob
  have I2 : Inv X pins σ H1 { s1 with heap := h', toks := tk } := I1.kept old
  have nS : es.size = L.length := Nst.num (a := s1.heap.objs.size) (ep := ep) (t := t) (P := X.prog) (w := X.w) (s := { s1 with heap := h', toks := tk }) N
  have fitS : t.fits es.size = true := Nst.fit (P := X.prog) (w := X.w) (s := { s1 with heap := h', toks := tk }) N
  refine call_len_set hoS hex hdS fitS (by omega) ⟨.int ks.length, H1, I2.tok _, ⟨_, by rw [nS, len]⟩, want⟩
end
end Lr

namespace Lr
open PySem PySem.Spec PyProof.Rows L2
section
variable {X : Cx}
/-- sorted(t), t a tuple of texts -/
def rSortedTs (K : PySem.W.Frag) : List V → Hp → VK → Prop := fun vs H Q => ∃ (a : Addr) (xs : List Str), vs = [V.ref a] ∧ SqT K H a (xs.map V.str) ∧ xs.length < 64 ∧ ∀ (ys : List Str) (p : Addr), ys.Perm xs → sortedS ys = true → H p = none → Q (.ref p) (upd H p (.lst (ys.map V.str)))
theorem cr_sortedTs : CallR X (.builtin "sorted") (rSortedTs X.K) := by
  intro pins s σ H vs us Q I r h
  obtain ⟨a, xs, rfl, hs, few, q⟩ := h
  obtain ⟨its, rv, ⟨o, ho, hc, n, hd⟩, _⟩ := I.tuple hs
  rw [Vals.ref1 r]
  have len : its.length = xs.length := by
    have z := rv.length
    rw [List.length_map] at z
    exact z.symm
  have sts : StrsAre its xs := rv.strs
  refine Calls.call_function_entry kind_sorted plain_sorted entry_sorted (args_sorted1 _) ?_
  unfold Builtin.«sorted»
  refine wpAny_bind (m := checkCount "sorted" 1 1 _) (wpAny_pure ?_)
  refine wpAny_bind (wpAny_collect_seq a (.inr rfl) ho hc hd (fun h1 keep => ?_) (by rw [List.size_toArray, len, sizeLine_eq]; omega))
  refine wpAny_bind (wpAny_newList ?_ (by rw [show its.toArray.toList.length = its.length by simp, len, sizeLine_eq]; omega))
  have e0 : its.toArray.toList = its := by simp
  rw [e0]
  have at_p : (h1.push (seqObj "list" its.toArray 0)).get? h1.objs.size = some (seqObj "list" its.toArray 0) := Heap.get?_push_size _ rfl
  show wpAny _ _ _ _ _ { s with heap := h1.push (seqObj "list" its.toArray 0) }
  refine wpAny_bind (wpAny_holding (wpAny_call_entry slot_list_sort ⟨_, at_p, rfl⟩ entry_list_sort (list_sort_treeK strKind_oneLt at_p sts.keysOf (fun v₁ v₂ rest e => keyKind_strs (by rw [← e]; exact sts)) (by rw [len]; exact few) fun st' perm srt => ⟨_, rfl, ?_⟩) (args_list_sort _)))
  refine wpAny_pure ⟨_, rfl, ?_⟩
  obtain ⟨ys, s1, s2, s3⟩ := sorted_out_str sts perm srt
  obtain ⟨e, at_q⟩ := sortedHeap_at (vs := its) (out := (arrOf st').map (·.2)) at_p
  have old : ∀ b u, s.heap.get? b = some u → (sortedHeap (h1.push (seqObj "list" its.toArray 0)) h1.objs.size its ((arrOf st').map (·.2))).get? b = some u := fun b u z => by
    have z1 := keep b u z
    have lt := Heap.lt_size z1
    rw [sortedHeap_old (Nat.ne_of_lt lt) (by rw [size_push']; exact Nat.lt_succ_of_lt lt)]
    exact Heap.get?_push_of_some _ z1
  have not_old : s.heap.get? h1.objs.size = none := by
    cases z : s.heap.get? h1.objs.size with
    | none => rfl
    | some u => exact absurd (Heap.lt_size (keep _ u z)) (Nat.lt_irrefl _)
  have free : H h1.objs.size = none := by
    cases z : H h1.objs.size with
    | none => rfl
    | some u => exact absurd ((I.hok.kept keep).lt z) (Nat.lt_irrefl _)
  have hlen : (ys.map V.str).length ≤ sizeLine := by
    rw [List.length_map, s2.length_eq, sizeLine_eq]
    omega
  exact ⟨.ref _, upd H h1.objs.size (.lst (ys.map V.str)), I.laidN (t' := s.toks) old not_old free ⟨hlen, _, e, vals_of_strs s1, at_q⟩, rfl, q ys _ s2 s3 free⟩
/-- (i, x) <= (j, y), ints and texts -/
def lePair (a b : Int × Str) : Bool := if a.1 = b.1 then (if a.2 = b.2 then true else !decide (b.2.cps.toList < a.2.cps.toList)) else decide (a.1 ≤ b.1)
def rLeP (K : PySem.W.Frag) : R2 := fun x y H Q => ∃ (p q : Addr) (a b : Int × Str), x = .ref p ∧ y = .ref q ∧ SqT K H p [.int a.1, .str a.2] ∧ SqT K H q [.int b.1, .str b.2] ∧ Q (.bl (lePair a b)) H
theorem op_leP (hu : X.A.units < cLine) : OpR X (compareOp .LtE) (rLeP X.K) := by
  intro pins s σ H x y v u Q I rx ry h
  obtain ⟨p, q, ⟨i, x⟩, ⟨j, y⟩, rfl, rfl, hp, hq, k⟩ := h
  cases rx
  cases ry
  obtain ⟨its, r1, t1, _⟩ := I.tuple hp
  obtain ⟨its2, r2, t2, _⟩ := I.tuple hq
  cases r1 with
  | cons a1 r1 =>
    cases r1 with
    | cons a2 r1 =>
      cases r1
      cases r2 with
      | cons b1 r2 =>
        cases r2 with
        | cons b2 r2 =>
          cases r2
          obtain ⟨ti, rfl⟩ := a1
          obtain ⟨tx, rfl⟩ := a2
          obtain ⟨tj, rfl⟩ := b1
          obtain ⟨ty, rfl⟩ := b2
          have R := Ob.RcOp.tuples_le (A := X.A) (s := s) (e := fun n => if n = 0 then (i == j) else (x == y)) (r := fun n => if n = 0 then decide (i ≤ j) else !decide (y.cps.toList < x.cps.toList)) t1 t2 hu (fun n h1 h2 => by
            match n, h1, h2 with
            | 0, _, _ => exact SeqAt.EqAt.int_int i ti j tj
            | 1, _, _ => exact SeqAt.EqAt.str_str x tx y ty
            | n + 2, h1, _ => exact absurd h1 (by simp)) (fun n h1 h2 _ => by
            match n, h1, h2 with
            | 0, _, _ => exact Ob.RcOp.le_int i j ti tj
            | 1, _, _ => exact fun _ _ _ _ h => PySem.P.le_str h
            | n + 2, h1, _ => exact absurd h1 (by simp))
          refine R _ _ _ _ (fin_bl I k (Eq.symm ?_))
          show Ob.lexAt (fun n => if n = 0 then (i == j) else (x == y)) (fun n => if n = 0 then decide (i ≤ j) else !decide (y.cps.toList < x.cps.toList)) (decide ((2 : Nat) ≤ 2)) 0 2 = lePair (i, x) (j, y)
          unfold lePair Ob.lexAt Ob.lexAt Ob.lexAt
          by_cases e1 : i = j
          · by_cases e2 : x = y
            · simp [e1, e2]
            · simp [e1, e2]
          · simp [e1]
end
end Lr

namespace Lr
open PySem PySem.Spec PyProof.Rows L2
section
variable {prog : Program} {w : World} {A : Around} {E : Value → Shared → Prop} {s : Shared}
theorem back_adjust (n : Nat) : Builtin.Slice.sliceAdjust none none (-1) (n : Int) = ((n : Int) - 1, -1) := by
  unfold Builtin.Slice.sliceAdjust
  have h1 : (-1 : Int) < 0 := by decide
  simp only [h1, if_true]
theorem back_places (n : Nat) : Builtin.Slice.slicePlaces ((n : Int) - 1) (-1) (-1) = n := by
  unfold Builtin.Slice.slicePlaces
  have h1 : ¬ (-1 : Int) > 0 := by decide
  simp only [h1, if_false]
  split
  · have e : (- -1 : Int) = 1 := by decide
    rw [e, Int.ediv_one]
    omega
  · omega
theorem back_pick (xs : Array Value) : ((List.range xs.size).filterMap fun (m : Nat) => xs[(((xs.size : Nat) : Int) - 1 + (m : Int) * (-1)).toNat]?).toArray = xs.toList.reverse.toArray := by
  have e : (fun (m : Nat) => xs[(((xs.size : Nat) : Int) - 1 + (m : Int) * (-1)).toNat]?) = ((fun x => xs[x]?) ∘ fun k => xs.size - 1 - k) := by
    funext m
    show xs[(((xs.size : Nat) : Int) - 1 + (m : Int) * (-1)).toNat]? = xs[xs.size - 1 - m]?
    have z : (((xs.size : Nat) : Int) - 1 + (m : Int) * (-1)).toNat = xs.size - 1 - m := by omega
    rw [z]
  rw [e, ← List.filterMap_map, PySem.W.krv_range, List.filterMap_reverse, PySem.W.krv_all]
theorem back_applied {sl : Addr} {vs : Value} {n : Nat} {Q : Int × Int × Nat → Shared → Prop} (hs : s.heap.IsSliceOf sl .none .none vs) (ps : IsPart vs (some (-1))) (h : Q ((n : Int) - 1, -1, n) s) : wpAny (model prog w) A (Builtin.Slice.sliceApplied (.ref sl) (pure (n : Int))) Q E s := by
  obtain ⟨os, hos, hcs, hds⟩ := id hs
  unfold Builtin.Slice.sliceApplied Builtin.Slice.sliceFields
  refine wpAny_bind (wpAny_bind (wpAny_field hos hds (x := .none) rfl (wpAny_bind (wpAny_field hos hds (x := .none) rfl (wpAny_bind (wpAny_field hos hds (x := vs) rfl (wpAny_pure ?_)))))))
  refine wpAny_bind (HT.slicePart_ ps ?_)
  show wpAny _ _ (if ((-1 : Int) == 0) = true then _ else _) _ _ s
  rw [if_neg (by decide)]
  refine wpAny_bind (HT.slicePart_ .none (wpAny_bind (HT.slicePart_ .none (wpAny_bind (wpAny_pure ?_)))))
  show wpAny _ _ (match Builtin.Slice.sliceAdjust none none (-1) (n : Int) with | (lo, hi) => pure (lo, (-1 : Int), Builtin.Slice.slicePlaces lo hi (-1))) _ _ s
  rw [back_adjust n]
  show wpAny _ _ (pure ((n : Int) - 1, (-1 : Int), Builtin.Slice.slicePlaces ((n : Int) - 1) (-1) (-1))) _ _ s
  rw [back_places]
  exact wpAny_pure h
theorem back_item {t sl : Addr} {items : Array Value} {vs : Value} {Q : Value → Shared → Prop} (ht : IsTup s.heap t items) (hs : s.heap.IsSliceOf sl .none .none vs) (ps : IsPart vs (some (-1)))
    (h : Q (.ref s.heap.objs.size) { s with heap := s.heap.push { cls := .type "tuple", data := .seq items.toList.reverse.toArray } }) (hsz : items.size ≤ sizeLine) : wpAny (model prog w) A (getItem (.ref t) (.ref sl)) Q E s := by
  obtain ⟨os, hos, hcs, hds⟩ := id hs
  have ty : s.TypeIs (.ref sl) "slice" := ⟨os, hos, hcs⟩
  have fits : sizeOk (.seq items.toList.reverse.toArray) := by
    show items.toList.reverse.toArray.size ≤ sizeLine
    rw [List.size_toArray, List.length_reverse, Array.length_toList]
    exact hsz
  unfold getItem
  try with_reducible refine wpAny_holding ?_
  first | refine wpAny_bind (wpAny_pure ?_) | skip
  refine wpAny_bind (wpAny_sequenceKey ht.typeIs (by decide) ?_)
  refine wpAny_bind (wpAny_callSpecial?_slot (name := Str.ofString "__getitem__") ht.typeIs PyProof.Rows.slot_tuple_getitem
    (wpAny_call_entry PyProof.Rows.slot_tuple_getitem ht.typeIs PyProof.Rows.entry_tuple_getitem ?_ (PyProof.Rows.args_tuple_getitem _ _)))
  show wpAny _ _ (Builtin.Tuple.tupleItemsOf (.ref t) >>= _) _ _ s
  refine wpAny_bind (PyProof.Rows.tupleItemsOf_ ht ?_)
  refine wpAny_bind (wpAny_typeOf ty ?_)
  rw [if_pos (by decide)]
  refine wpAny_bind (back_applied hs ps ?_)
  show wpAny _ _ (if (((items.size : Nat) : Int) - 1 == 0 && (-1 : Int) == 1 && items.size == items.size) = true then _ else _) _ _ s
  rw [if_neg (by simp), back_pick]
  first
    | exact wpAny_bind (m := Builtin.Tuple.tupleExact _) (wpAny_newObj_type (wpAny_pure ⟨_, rfl, wpAny_pure h⟩) fits)
    | exact wpAny_bind (m := Builtin.Tuple.tupleExact _) (wpAny_newObj_type (wpAny_bind (wpAny_pure (wpAny_pure ⟨_, rfl, wpAny_pure h⟩))) fits)
    | exact wpAny_bind (wpAny_bind (m := Builtin.Tuple.tupleExact _) (wpAny_newObj_type (wpAny_pure (wpAny_pure ⟨_, rfl, wpAny_pure h⟩)) fits))
    | exact wpAny_bind (wpAny_bind (m := Builtin.Tuple.tupleExact _) (wpAny_newObj_type (wpAny_pure ⟨_, rfl, wpAny_pure h⟩) fits))
end
section
variable {X : Cx} {e st : Expr} {te : TE} {ts : TO} {pos p2 : Pos}
/-- t[::-1]: a new tuple -/
def tRevT (K : PySem.W.Frag) (te : TE) (ts : TO) : TE := fun σ H Q => te σ H fun x H1 => ts σ H1 fun o H2 => o = some (-1) ∧ ∃ a xs, x = .ref a ∧ SqT K H2 a xs ∧ ∀ p, H2 p = none → Q (.ref p) (upd H2 p (.tup xs.reverse))
theorem pe_revT (he : PE X e te) (hs : PO X (some st) ts) : PE X (.Subscript e (.Slice none none (some st) p2) pos) (tRevT X.K te ts) := by
  refine ⟨fun pins s σ H Q I h => ?_⟩
  refine Subscript_ (thn (he.run pins s σ H _ I h) fun v s1 ⟨x, H1, I1, r1, q1⟩ => ?_)
  refine wpAny_Slice (wpAny_pure (wpAny_pure ?_))
  refine thn (hs.run pins s1 σ H1 _ I1 q1) fun vs s3 ⟨o, H3, I3, ps, q3⟩ => ?_
  obtain ⟨rfl, a, xs, rfl, hx, q⟩ := q3
  cases r1
  have I4 : Inv X pins σ H3 { s3 with heap := s3.heap.push { cls := .type "slice", data := .fields #[.none, .none, vs] } } := I3.kept (t' := s3.toks) fun b ob q => Heap.get?_push_of_some _ q
  obtain ⟨its, r, ht, hz⟩ := I4.tuple hx
  have len : its.length = xs.length := r.length.symm
  have hg : wpAny (model X.prog X.w) X.A (getItem (.ref a) (.ref s3.heap.objs.size)) (EP X pins σ Q) X.xe { s3 with heap := s3.heap.push { cls := .type "slice", data := .fields #[.none, .none, vs] } } := by
    refine back_item ht (Heap.IsSliceOf.new ..) ps ?_ (by rw [List.size_toArray, len]; exact hz)
    have e1 : its.toArray.toList.reverse = its.reverse := by simp
    rw [e1]
    refine ⟨.ref (s3.heap.push { cls := .type "slice", data := .fields #[.none, .none, vs] }).objs.size, _, I4.laid (t' := s3.toks) (o := .tup xs.reverse) (fun b ob q => Heap.get?_push_of_some _ q) (Nat.le_refl _) ?_, rfl, q _ (I4.hok.fresh (Nat.le_refl _))⟩
    exact ⟨by rw [List.length_reverse]; exact hz, _, r.reverse, IsTup.new _ _⟩
  show wpAny (model X.prog X.w) X.A (subscriptTail e (.Slice none none (some st) p2) (.ref a) (.ref s3.heap.objs.size)) (EP X pins σ Q) X.xe { s3 with heap := s3.heap.push { cls := .type "slice", data := .fields #[.none, .none, vs] } }
  exact tail_any (ops := [.ref a, .ref s3.heap.objs.size]) ht.typeIs PyProof.Rows.slot_tuple_getitem.lookup hg (by with_unfolding_all rfl)
end
end Lr

namespace Lr
open PySem PySem.Spec PyProof.Rows L2
section
variable {X : Cx}
/-- (v,) * k, k up to ten thousand -/
def rRepOne (K : PySem.W.Frag) : R2 := fun x y H Q => ∃ l k v, x = .ref l ∧ y = .int k ∧ SqT K H l [v] ∧ 2 ≤ k ∧ k ≤ 10000 ∧ ∀ p, H p = none → Q (.ref p) (upd H p (.tup (List.replicate k.toNat v)))
theorem flat_one {α : Type} (v : α) : ∀ n, (List.replicate n [v]).flatten = List.replicate n v
  | 0 => rfl
  | n + 1 => by
    rw [List.replicate_succ, List.flatten_cons, flat_one v n, List.replicate_succ]
    rfl
theorem op_repOne : OpR X (binaryOp .Mult) (rRepOne X.K) := by
  intro pins s σ H x y v u Q I rx ry h
  obtain ⟨l, k, z, rfl, rfl, hT, h1, h2, q⟩ := h
  cases rx
  obtain ⟨t, rfl⟩ := ry
  obtain ⟨its, r, ⟨⟨cls, dd, data, sl⟩, ho, hc, n, hd⟩, hs⟩ := I.tuple hT
  simp only at hc hd
  subst hc hd
  cases r with
  | cons r0 r1 =>
    cases r1
    rename_i vz
    have c0 : (decide (k < -(2 ^ 63)) || decide (k ≥ 2 ^ 63)) = false := by
      rw [decide_eq_false (by omega), decide_eq_false (by omega)]
      rfl
    have c1 : (([vz] : List Value).toArray.isEmpty || k == 1) = false := by
      have e : (k == 1) = false := beq_eq_false_iff_ne.mpr (by omega)
      rw [e]
      rfl
    have c2 : (decide (k ≤ 0) || ([vz] : List Value).toArray.isEmpty) = false := by
      rw [decide_eq_false (by omega)]
      rfl
    have sz : ((([vz] : List Value).toArray.size : Nat) : Int) = 1 := rfl
    have c4 : Builtin.Tuple.tupleTooMany (((([vz] : List Value).toArray.size : Nat) : Int) * k) = false := by
      unfold Builtin.Tuple.tupleTooMany
      rw [sizeLine_eq, sz, Int.one_mul]
      exact decide_eq_false (by omega)
    have flen : (List.replicate k.toNat [vz]).flatten.length ≤ sizeLine := by
      rw [flat_one, List.length_replicate, sizeLine_eq]
      omega
    refine wpAny_binaryOp_repeat_ref (T := "tuple") (U := "int") (by decide) ⟨_, ho, rfl⟩ (fun s' => typeIs_int s' k t) L2.noFill_tuple_mul F.fills_int_mul F.slot_int_rmul L2.repeat_tuple F.slot_int_index.lookup
      (call_meets F.slot_int_rmul (typeIs_int s k t) F.entry_int_rmul (F.args_int_rmul_2 _ _) (L2.int_rmul_tuple k t l ([vz] : List Value).toArray n dd sl)
        ⟨ho, rfl, ⟨_, ho, rfl⟩, call_meets F.slot_tuple_mul ⟨_, ho, rfl⟩ F.entry_tuple_mul (F.args_tuple_mul_2 _ _) (L2.tuple_mulW l ([vz] : List Value).toArray n dd sl k t c0 c1 c2 (by rw [sz]; omega) c4 (by rw [L2.size_rep, List.size_toArray]; exact flen)) ⟨ho, ?_⟩⟩)
    rw [L2.size_rep, flat_one]
    refine ⟨.ref s.heap.objs.size, _, I.laid (t' := s.toks) (o := .tup (List.replicate k.toNat z)) (fun b ob q => Heap.get?_push_of_some _ q) (Nat.le_refl _) ?_, rfl, q _ (I.hok.fresh (Nat.le_refl _))⟩
    refine ⟨by rw [List.length_replicate, sizeLine_eq]; omega, _, ?_, IsTup.new _ _⟩
    have z := Vals.rep (xs := [z]) (us := [vz]) (.cons r0 .nil) k.toNat
    rw [flat_one, flat_one] at z
    exact z
end
end Lr

namespace Lr
open PySem PySem.Spec PyProof.Rows L2

/-! {e for a in xs for b in ys}, a set of ints -/
/-- such a comprehension -/
abbrev scE (e t0 i0 t1 i1 : Expr) (scope : Scope) (pos : Pos) : Expr := .SetComp e [⟨t0, i0, [], 0⟩, ⟨t1, i1, [], 0⟩] scope pos
section
variable {prog : Program} {w : World} {A : Around} {R : Result → Shared → Prop} {s : Shared} {e t0 i0 t1 i1 : Expr} {scope : Scope} {pos : Pos} {it acc : Value} {env : Env}
theorem sc_turn0 : compTurn (scE e t0 i0 t1 i1 scope pos) 0 it acc env = (do
      standAt i0.pos
      match ← pyNext it with
      | none => pure (.done .next)
      | some v =>
        letOwnedTupleGo t0 it v
        assign t0 env v
        let mut ok := true
        for c in ([] : List Expr) do
          if ok then ok ← isTrue c env (eval c env)
        if ok then
          let src ← eval i1 env
          standAt i1.pos
          let src ← foldedSetIterable i1 env src
          let _ ← runOwn (.compStart (scE e t0 i0 t1 i1 scope pos) 1 (← holding [src] (pyIter src)) acc env) env
        again (.compLoop (scE e t0 i0 t1 i1 scope pos) 0 it acc env)) := by rfl
theorem sc_turn1 : compTurn (scE e t0 i0 t1 i1 scope pos) 1 it acc env = (do
      standAt i1.pos
      match ← pyNext it with
      | none => pure (.done .next)
      | some v =>
        letOwnedTupleGo t1 it v
        assign t1 env v
        let mut ok := true
        for c in ([] : List Expr) do
          if ok then ok ← isTrue c env (eval c env)
        if ok then
          (do let v ← eval e env; standAt e.pos; let _ ← call (.builtin "set.add") [acc, v])
        again (.compLoop (scE e t0 i0 t1 i1 scope pos) 1 it acc env)) := by rfl
/-- what is asked of an exception in the block -/
abbrev offB (prog : Program) (w : World) (A : Around) (env : Env) (R : Result → Shared → Prop) : Value → Shared → Prop := notedBy (model prog w) A env fun x s' => R (.error x) s'
theorem sc_loop0 (fold : ∀ x, foldedSetIterable i1 env x = pure x) (I : Nat → Shared → Prop)
    (turn : ∀ n s, I n s → wpAny (model prog w) A (pyNext it) (fun r u => match r with
      | none => R (.ok .next) u
      | some v => wpAny (model prog w) A (letOwnedTupleGo t0 it v) (fun _ u1 => wpAny (model prog w) A (assign t0 env v) (fun _ u2 => wpAny (model prog w) A (eval i1 env) (fun x u3 => wpAny (model prog w) A (pyIter x) (fun it1 u4 =>
          codeAny (model prog w) A (.compStart (scE e t0 i0 t1 i1 scope pos) 1 it1 acc env) (fun r u5 => match r with
            | .ok _ => ∃ m, m < n ∧ I m u5
            | .error _ => False) u4) (offB prog w A env R) u3) (offB prog w A env R) u2) (offB prog w A env R) u1) (offB prog w A env R) u) (offB prog w A env R) s)
    (n : Nat) (h : I n s) : codeAny (model prog w) A (.compLoop (scE e t0 i0 t1 i1 scope pos) 0 it acc env) R s := by
  refine codeAny_loop rfl I (fun n s hI => ?_) n h
  show wpAny _ A ((compTurn (scE e t0 i0 t1 i1 scope pos) 0 it acc env).onRaise (fun x => do noteFrame x env; theTreesLotGoes x)) _ _ s
  refine wpAny_noted ?_
  rw [sc_turn0]
  refine wpAny_bind (wpAny_standAt (wpAny_bind (wpAny_mono (turn n s hI) (fun r u hu => ?_) fun _ _ z => z)))
  match r, hu with
  | none, hu => exact wpAny_pure hu
  | some v, hu =>
    refine wpAny_bind (wpAny_mono hu (fun _ u1 h1 => wpAny_bind (wpAny_mono h1 (fun _ u2 h2 => wpAny_bind (wpAny_tests_nil ?_)) fun _ _ z => z)) fun _ _ z => z)
    refine wpAny_bind (wpAny_mono h2 (fun x u3 h3 => wpAny_bind (wpAny_standAt (wpAny_bind (wpAny_of_eq (fold x) (wpAny_bind (wpAny_holding (wpAny_mono h3 (fun it1 u4 h4 => ?_) fun _ _ z => z))))))) fun _ _ z => z)
    refine wpAny_bind (wpAny_runOwn ?_)
    rw [Around.mark_none]
    refine codeAny_mono h4 fun r u5 h5 => ?_
    match r, h5 with
    | .ok f, h5 =>
      first
        | exact wpAny_pure ⟨rfl, h5⟩
        | exact wpAny_bind (wpAny_pure (wpAny_pure ⟨rfl, h5⟩))
    | .error x, h5 => exact h5.elim
theorem sc_loop1 (I : Nat → Shared → Prop)
    (turn : ∀ n s, I n s → wpAny (model prog w) A (pyNext it) (fun r u => match r with
      | none => R (.ok .next) u
      | some v => wpAny (model prog w) A (letOwnedTupleGo t1 it v) (fun _ u1 => wpAny (model prog w) A (assign t1 env v) (fun _ u2 => wpAny (model prog w) A (eval e env) (fun x u3 =>
          wpAny (model prog w) A (call (.builtin "set.add") [acc, x]) (fun _ u4 => ∃ m, m < n ∧ I m u4) (offB prog w A env R) u3) (offB prog w A env R) u2) (offB prog w A env R) u1) (offB prog w A env R) u) (offB prog w A env R) s)
    (n : Nat) (h : I n s) : codeAny (model prog w) A (.compLoop (scE e t0 i0 t1 i1 scope pos) 1 it acc env) R s := by
  refine codeAny_loop rfl I (fun n s hI => ?_) n h
  show wpAny _ A ((compTurn (scE e t0 i0 t1 i1 scope pos) 1 it acc env).onRaise (fun x => do noteFrame x env; theTreesLotGoes x)) _ _ s
  refine wpAny_noted ?_
  rw [sc_turn1]
  refine wpAny_bind (wpAny_standAt (wpAny_bind (wpAny_mono (turn n s hI) (fun r u hu => ?_) fun _ _ z => z)))
  match r, hu with
  | none, hu => exact wpAny_pure hu
  | some v, hu =>
    refine wpAny_bind (wpAny_mono hu (fun _ u1 h1 => wpAny_bind (wpAny_mono h1 (fun _ u2 h2 => wpAny_bind (wpAny_tests_nil ?_)) fun _ _ z => z)) fun _ _ z => z)
    exact wpAny_bind (wpAny_bind (wpAny_mono h2 (fun x u3 h3 => wpAny_bind (wpAny_standAt (wpAny_bind (wpAny_mono h3 (fun _ u4 h4 => wpAny_pure (wpAny_pure ⟨rfl, h4⟩)) fun _ _ z => z)))) fun _ _ z => z))
theorem sc_start0 (h0 : codeAny (model prog w) A (.compLoop (scE e t0 i0 t1 i1 scope pos) 0 it acc env) R s)
    (h : wpAny (model prog w) A (pyIter it) (fun it' s' => codeAny (model prog w) A (.compLoop (scE e t0 i0 t1 i1 scope pos) 0 it' acc env) R s') (offB prog w A env R) s) :
    codeAny (model prog w) A (.compStart (scE e t0 i0 t1 i1 scope pos) 0 it acc env) R s := by
  refine codeAny_of_tree ?_
  show wpAny _ _ ((compStart (scE e t0 i0 t1 i1 scope pos) 0 it acc env).onRaise (fun x => do noteFrame x env; standAt theWindowsPlace)) _ _ s
  refine wpAny_notedAt ?_
  unfold compStart
  show wpAny _ _ (ask >>= _) _ _ s
  refine wpAny_bind (wpAny_askSetting (wpAny_ite ?_))
  split
  · first
      | exact wpAny_pure ⟨rfl, h0⟩
      | exact wpAny_bind (wpAny_pure (wpAny_pure ⟨rfl, h0⟩))
  · refine wpAny_bind (wpAny_rule ?_)
    first
      | exact wpAny_bind (wpAny_standAt (wpAny_bind (wpAny_mono h (fun it' s' h' => wpAny_pure ⟨rfl, h'⟩) fun _ _ z => z)))
      | (show wpAny _ _ (standAt i0.pos >>= _) _ _ s; exact wpAny_bind (wpAny_standAt (wpAny_bind (wpAny_mono h (fun it' s' h' => wpAny_pure ⟨rfl, h'⟩) fun _ _ z => z))))
theorem sc_start1 (h0 : codeAny (model prog w) A (.compLoop (scE e t0 i0 t1 i1 scope pos) 1 it acc env) R s)
    (h : wpAny (model prog w) A (pyIter it) (fun it' s' => codeAny (model prog w) A (.compLoop (scE e t0 i0 t1 i1 scope pos) 1 it' acc env) R s') (offB prog w A env R) s) :
    codeAny (model prog w) A (.compStart (scE e t0 i0 t1 i1 scope pos) 1 it acc env) R s := by
  refine codeAny_of_tree ?_
  show wpAny _ _ ((compStart (scE e t0 i0 t1 i1 scope pos) 1 it acc env).onRaise (fun x => do noteFrame x env; standAt theWindowsPlace)) _ _ s
  refine wpAny_notedAt ?_
  unfold compStart
  show wpAny _ _ (ask >>= _) _ _ s
  refine wpAny_bind (wpAny_askSetting (wpAny_ite ?_))
  split
  · first
      | exact wpAny_pure ⟨rfl, h0⟩
      | exact wpAny_bind (wpAny_pure (wpAny_pure ⟨rfl, h0⟩))
  · refine wpAny_bind (wpAny_rule ?_)
    first
      | exact wpAny_bind (wpAny_standAt (wpAny_bind (wpAny_mono h (fun it' s' h' => wpAny_pure ⟨rfl, h'⟩) fun _ _ z => z)))
      | (show wpAny _ _ (standAt i1.pos >>= _) _ _ s; exact wpAny_bind (wpAny_standAt (wpAny_bind (wpAny_mono h (fun it' s' h' => wpAny_pure ⟨rfl, h'⟩) fun _ _ z => z))))
end
section
variable {X : Cx}
/-- set.add of an int -/
theorem sc_add {pins : List (Addr × Obj)} {σ : L2.St} {H : Hp} {s : Shared} {E : Value → Shared → Prop} {D : Addr} {S : Int → Bool} {n : Nat} {y : Int} {u : Value} {Q : Value → Shared → Prop} (I : Inv X pins σ H s) (at_D : H D = some (SetO X.w D S n)) (room : n + 1 < scanBound) (r : RelV (.int y) u)
    (out : ∀ s', Inv X pins σ (upd H D (SetO X.w D (fun j => S j || decide (j = y)) (if S y = true then n else n + 1))) s' → Q .none s') : wpAny (model X.prog X.w) X.A (call (.builtin "set.add") [.ref D, u]) Q E s := by
  obtain ⟨t, rfl⟩ := r
  refine setR_add (setO_get I at_D) room fun h' sb new => ?_
  have stands : ∃ o, h'.get? D = some o := by
    obtain ⟨o, es, ep, t', ho, _⟩ := new
    exact ⟨o, ho⟩
  exact out _ (I.write (e := D) (t' := s.toks + 1) (by rw [at_D]; trivial) (.inl rfl) (fun b u hb hu => (sb.2 b hb).trans hu) stands (setO_new new))
end
end Lr

namespace Lr
open PySem PySem.Spec PyProof.Rows L2
section
variable {X : Cx}
/-- {e for a in xs for b in ys}: D the new set of ints, W and W1 the words of the outer and the inner loop -/
def tSc2 (w : World) (wi : TI) (g : TG) (wi1 : TI) (g1 : TG) (te : TE) (vs vs1 : List Nat) : TE := fun σ H Q => wi σ H fun J H1 => ∀ D, H1 D = none → ∃ W : Nat → Nat → Hp → Prop, (∃ m, W 0 m (upd H1 D (SetO w D (fun _ => false) 0))) ∧ ∀ i m H, W i m H →
  (J.stop i H ∧ Q (.ref D) H) ∨ (J.go i H ∧ ∃ Nx : Hp → Prop, (∀ H', Nx H' → ∃ m', m' < m ∧ W (i + 1) m' H') ∧ ∀ x H', J.yld i H x H' → g x (wipe σ vs) H' fun σ2 H2 => wipe σ2 vs = wipe σ vs ∧
    wi1 σ2 H2 fun J1 H4 => ∃ W1 : Nat → Nat → Hp → Prop, (∃ m, W1 0 m H4) ∧ ∀ j k H, W1 j k H →
      (J1.stop j H ∧ Nx H) ∨ (J1.go j H ∧ ∃ Nx1 : Hp → Prop, (∀ H', Nx1 H' → ∃ k', k' < k ∧ W1 (j + 1) k' H') ∧ ∀ x H', J1.yld j H x H' → g1 x (wipe σ2 vs1) H' fun σ3 H5 => wipe σ3 vs1 = wipe σ2 vs1 ∧
        te σ3 H5 fun y H7 => ∃ (z : Int) (S : Int → Bool) (n : Nat), y = .int z ∧ H7 D = some (SetO w D S n) ∧ n + 1 < scanBound ∧ Nx1 (upd H7 D (SetO w D (fun j => S j || decide (j = z)) (if S z = true then n else n + 1)))))
theorem pe_sc2 {e t0 i0 t1 i1 : Expr} {scope : Scope} {own : List (Str × Nat)} {vs1 : List Nat} {pos : Pos} {wi wi1 : TI} {g g1 : TG} {te : TE} (hc : X.calm = true) (nd : X.N.Nodup) (src : PI X t0 i0 wi) (ok : BlkOk X.N X.env.scope scope own) (inner : ∀ i ∈ vs1, i ∈ own.map (·.2))
    (put0 : ∀ (s : Shared) (H : Hp) (C : Addr) (cl : List (Str × Addr)) (fp : List Addr), PG (X.blk s H scope (compEnvC scope cl C X.env) fp) t0 g)
    (src1 : ∀ (s : Shared) (H : Hp) (C : Addr) (cl : List (Str × Addr)) (fp : List Addr), PI (X.blk s H scope (compEnvC scope cl C X.env) fp) t1 i1 wi1)
    (put1 : ∀ (s : Shared) (H : Hp) (C : Addr) (cl : List (Str × Addr)) (fp : List Addr), PG (X.blk s H scope (compEnvC scope cl C X.env) fp) t1 g1)
    (elt : ∀ (s : Shared) (H : Hp) (C : Addr) (cl : List (Str × Addr)) (fp : List Addr), PE (X.blk s H scope (compEnvC scope cl C X.env) fp) e te)
    (fold0 : ∀ x, foldedSetIterable i0 X.env x = pure x := by intro _; rfl) (fold1 : ∀ env x, foldedSetIterable i1 env x = pure x := by intro _ _; rfl) :
    PE X (scE e t0 i0 t1 i1 scope pos) (tSc2 X.w wi g wi1 g1 te (own.map (·.2)) vs1) := by
  refine ⟨fun pins s σ H Q I h => ?_⟩
  have clos : ∀ y ∈ scope.names, y.2 = .free → ∃ c, X.env.cells.lookup y.1 = some c := fun y hy z => by
    rcases ok.free y hy z with k | k
    · exact I.ok.has _ (.inl k)
    · exact I.ok.has _ (.inr k)
  show wpAny _ _ (comprehension (scE e t0 i0 t1 i1 scope pos) scope X.env _ (newSet (.type "set")) false (eval i0 X.env)) _ _ s
  refine wpAny_comprehension_free (use := none) rfl fold0 (closure_ok clos) ok.kind (fun y hy z => by rw [ok.uniq y hy, z])
    (thn (src.run pins s σ H _ I h) fun xv s1 hx => thn hx fun itv s2 h2 => ?_)
  obtain ⟨it, fp, tn, J, H2, e1, I2, T, st2, f2, q⟩ := h2
  subst e1
  refine PpSet.newSet_ok (newEnv_comp ?_)
  generalize eD : s2.heap.objs.size = D
  have nD : H2 D = none := I2.hok.fresh (Nat.le_of_eq eD)
  obtain ⟨W, ⟨m0, w0⟩, turn⟩ := q D nD
  generalize e3 : ({ s2 with heap := s2.heap.push { cls := .type "set", dict := none, data := .set #[] 0 (.fresh 0 0 (!X.w.params.followText "set-order")) } } : Shared) = s3
  have h3 : s3.heap = s2.heap.push { cls := .type "set", dict := none, data := .set #[] 0 (.fresh 0 0 (!X.w.params.followText "set-order")) } := by rw [← e3]
  have I3 : Inv X pins σ (upd H2 D (SetO X.w D (fun _ => false) 0)) s3 := by
    rw [← e3]
    refine I2.laid (t' := s2.toks) (fun b o z => Heap.get?_push_of_some _ z) (Nat.le_of_eq eD) ?_
    rw [← eD]
    exact setO_new (setR_fresh X.w)
  have low : ∀ b ∈ fp, b < s2.heap.objs.size := fun b hb => by
    obtain ⟨o, z, _⟩ := T.obj _ _ st2 b hb
    exact Heap.lt_size z
  have f3 : ∀ b ∈ fp, FpOk X pins (upd H2 D (SetO X.w D (fun _ => false) 0)) b ∧ b < s3.heap.objs.size := fun b hb => by
    have lt := low b hb
    have nb : b ≠ D := by
      rw [← eD]
      exact Nat.ne_of_lt lt
    refine ⟨⟨?_, (f2 b hb).2⟩, ?_⟩
    · rw [upd_ne nb]
      exact (f2 b hb).1
    · rw [h3, Heap.size_push]
      exact Nat.lt_succ_of_lt lt
  have st3 : tn 0 s3.heap := T.keep _ _ _ st2 fun b _ o z => by
    rw [h3]
    exact Heap.get?_push_of_some _ z
  have I4 := block_start I3 ok nd f3
  generalize eH3 : upd H2 D (SetO X.w D (fun _ => false) 0) = H3 at I3 I4 w0 f3
  have pg := put0 s3 H3 s3.heap.objs.size (cellsFrom (s3.heap.objs.size + 1) scope.names (cloFrom X.env.cells scope.names [])) fp
  have pi1 := src1 s3 H3 s3.heap.objs.size (cellsFrom (s3.heap.objs.size + 1) scope.names (cloFrom X.env.cells scope.names [])) fp
  have pg1 := put1 s3 H3 s3.heap.objs.size (cellsFrom (s3.heap.objs.size + 1) scope.names (cloFrom X.env.cells scope.names [])) fp
  have pe := elt s3 H3 s3.heap.objs.size (cellsFrom (s3.heap.objs.size + 1) scope.names (cloFrom X.env.cells scope.names [])) fp
  have nfp : ∀ b ∈ fp, H3 b = none := fun b hb => (f3 b hb).1.1
  have end_ : ∀ s' m H', Inv X pins σ H' s' → Q (.ref D) H' → s'.heap.Ns s3.heap.objs.size m → FpOk X pins H' s3.heap.objs.size → compPost (model X.prog X.w) X.A X.xe none (EP X pins σ Q) (.ref D) s3.heap.objs.size (.ok .next) s' := fun s' m H' I' q' hn f => ⟨m, hn, fun h'' sb => by
    obtain ⟨a0, a1, a2, a3, a4, a5⟩ := f
    exact ⟨.ref D, H', I'.turned (t' := s'.toks) (fun b o hb z => (sb.2 b hb).trans z) a0 a1 a3 a4 a5, rfl, q'⟩⟩
  show codeAny _ _ (.compStart (scE e t0 i0 t1 i1 scope pos) 0 (.ref it) (.ref D) (compEnvC scope (cellsFrom (s3.heap.objs.size + 1) scope.names (cloFrom X.env.cells scope.names [])) s3.heap.objs.size X.env)) (compPost (model X.prog X.w) X.A X.xe none (EP X pins σ Q) (.ref D) s3.heap.objs.size) { s3 with heap := pushCells (s3.heap.push { cls := .type "dict", data := .dict #[] }) scope.names }
  generalize ece : compEnvC scope (cellsFrom (s3.heap.objs.size + 1) scope.names (cloFrom X.env.cells scope.names [])) s3.heap.objs.size X.env = ce at I4 pg pe pi1 pg1 ⊢
  have here : ce.locals = s3.heap.objs.size := by
    subst ece
    rfl
  generalize e4 : ({ s3 with heap := pushCells (s3.heap.push { cls := .type "dict", data := .dict #[] }) scope.names } : Shared) = s4 at I4 ⊢
  have st4 : tn 0 s4.heap := T.keep _ _ _ st3 fun b _ o z => by
    rw [← e4]
    exact pushCells_keeps _ _ _ _ (Heap.get?_push_of_some _ z)
  have fpB : ∀ {σ' : L2.St} {H' : Hp} {s' : Shared}, Inv (X.blk s3 H3 scope ce fp) [] σ' H' s' → (∀ b ∈ fp, H' b = none) → ∀ b ∈ fp, FpOk (X.blk s3 H3 scope ce fp) [] H' b := fun {σ' H' s'} I' hn b hb =>
    ⟨hn b hb, (I'.ok.exf b hb).1, I'.ok.exfs b hb, .inl hb, fun x c z => (I'.ok.exf b hb).2 x c z, fun p hp => absurd (show p ∈ ([] : List (Addr × Obj)) ++ [] from hp) (by simp)⟩
  have loop : codeAny (model X.prog X.w) X.A (.compLoop (scE e t0 i0 t1 i1 scope pos) 0 (.ref it) (.ref D) ce) (compPost (model X.prog X.w) X.A X.xe none (EP X pins σ Q) (.ref D) s3.heap.objs.size) s4 := by
    refine sc_loop0 (fold1 ce) (fun n s' => ∃ i H', Inv (X.blk s3 H3 scope ce fp) [] (wipe σ (own.map (·.2))) H' s' ∧ tn i s'.heap ∧ (∀ b ∈ fp, H' b = none) ∧ W i n H') ?_ m0 ⟨0, H3, I4, st4, nfp, w0⟩
    rintro n s5 ⟨i, H5, I5, st5, n5, w5⟩
    rcases turn i n H5 w5 with ⟨stop, qq⟩ | ⟨go, Nx, next, step⟩
    · refine thnF (T.done (X.blk s3 H3 scope ce fp) rfl rfl rfl hc i [] s5 _ H5 (fun _ _ => False) I5 (fpB I5 n5) st5 stop) fun r s6 ⟨er, I6⟩ => ?_
      subst er
      have I7 : Inv X pins σ H5 s6 := I3.call' (ch := fp) I6.os I6.base I6.hok I6.bare fun b hb => ⟨(f3 b hb).1.2.2.2.1, (f3 b hb).1.2.1, (f3 b hb).1.2.2.2.2.1, (f3 b hb).1.2.2.2.2.2⟩
      have free : H5 s3.heap.objs.size = none := by
        have z : H5 ce.locals = none := I6.free
        rw [here] at z
        exact z
      obtain ⟨m, hn, _⟩ := I6.loc
      have hn : s6.heap.Ns ce.locals m := hn
      rw [here] at hn
      exact end_ s6 m H5 I7 qq hn (I3.fpOk (Nat.le_refl _) free)
    · refine thnF (T.item (X.blk s3 H3 scope ce fp) rfl rfl rfl hc i [] s5 _ H5 (fun _ _ => False) I5 (fpB I5 n5) st5 go) fun r s6 ⟨u, er, h6⟩ => ?_
      subst er
      refine thnF h6 fun _ s7 ⟨x, H7, I7, r7, y7, st7, n7⟩ => ?_
      refine thnF (pg.run _ s7 _ H7 x u _ (I7.pinned (fpB I7 n7) (T.obj _ _ st7)) r7 (step x H7 y7)) fun _ s8 ⟨σ8, H8, I8, w8, q8⟩ => ?_
      have len8 : (wipe σ (own.map (·.2))).length = σ8.length := by rw [← w8, wipe_length]
      have old8 : ∀ (j : Nat) v, (wipe σ (own.map (·.2)))[j]? = some (some v) → (wipe σ8 vs1)[j]? = some (some v) := fun j v z => by
        rw [← w8] at z
        obtain ⟨z1, z2⟩ := wipe_some z
        rw [wipe_out fun k => z2 (inner j k)]
        exact z1
      have fin : ∀ {σ9 : L2.St} {s' : Shared} {H' : Hp}, Inv (X.blk s3 H3 scope ce fp) ([] ++ pinsAt fp s7.heap) σ9 H' s' → (wipe σ (own.map (·.2))).length = σ9.length → (∀ (j : Nat) v, (wipe σ (own.map (·.2)))[j]? = some (some v) → σ9[j]? = some (some v)) → Nx H' →
          ∃ m, m < n ∧ ∃ i H', Inv (X.blk s3 H3 scope ce fp) [] (wipe σ (own.map (·.2))) H' s' ∧ tn i s'.heap ∧ (∀ b ∈ fp, H' b = none) ∧ W i m H' := fun {σ9 s' H'} I' hl hk nx => by
        obtain ⟨m', lt, w'⟩ := next H' nx
        have still : ∀ b ∈ fp, ∀ o, s7.heap.get? b = some o → s'.heap.get? b = some o ∧ H' b = none := fun b hb o z => by
          have p := I'.pin (b, o) (List.mem_append_right _ (List.mem_append_right _ (mem_pinsAt hb z)))
          exact ⟨p.1, p.2.1⟩
        refine ⟨m', lt, i + 1, H', (I'.unpinned (pins := [])).weak hl hk, T.keep _ _ _ st7 fun b hb o z => (still b hb o z).1, fun b hb => ?_, w'⟩
        obtain ⟨o, z, _⟩ := T.obj _ _ st7 b hb
        exact (still b hb o z).2
      refine thnF (pi1.run _ s8 σ8 H8 _ I8 q8) fun xv s10 hx => thnF hx fun itv s11 h11 => ?_
      obtain ⟨it1, fp1, tn1, J1, H11, e11, I11, T1, st11, f11, W1, ⟨m1, w1⟩, turn1⟩ := h11
      subst e11
      have fpB1 : ∀ {H' : Hp}, (∀ b ∈ fp1, H' b = none) → ∀ b ∈ fp1, FpOk (X.blk s3 H3 scope ce fp) ([] ++ pinsAt fp s7.heap) H' b := fun hn b hb => ⟨hn b hb, (f11 b hb).2⟩
      have loop1 : codeAny (model X.prog X.w) X.A (.compLoop (scE e t0 i0 t1 i1 scope pos) 1 (.ref it1) (.ref D) ce) (fun r s' => match r with
          | .ok _ => ∃ m, m < n ∧ ∃ i H', Inv (X.blk s3 H3 scope ce fp) [] (wipe σ (own.map (·.2))) H' s' ∧ tn i s'.heap ∧ (∀ b ∈ fp, H' b = none) ∧ W i m H'
          | .error _ => False) s11 := by
        refine sc_loop1 (fun k s' => ∃ j H', Inv (X.blk s3 H3 scope ce fp) ([] ++ pinsAt fp s7.heap) (wipe σ8 vs1) H' s' ∧ tn1 j s'.heap ∧ (∀ b ∈ fp1, H' b = none) ∧ W1 j k H') ?_ m1 ⟨0, H11, I11.weak (wipe_length _ _) (fun j v z => (wipe_some z).1), st11, fun b hb => (f11 b hb).1, w1⟩
        rintro k s12 ⟨j, H12, I12, st12, n12, w12⟩
        rcases turn1 j k H12 w12 with ⟨stop1, nx1⟩ | ⟨go1, Nx1, next1, step1⟩
        · refine thnF (T1.done (X.blk s3 H3 scope ce fp) rfl rfl rfl hc j _ s12 (wipe σ8 vs1) H12 (fun _ _ => False) I12 (fpB1 n12) st12 stop1) fun r s13 ⟨er, I13⟩ => ?_
          subst er
          exact fin I13 (len8.trans (wipe_length σ8 vs1).symm) old8 nx1
        · refine thnF (T1.item (X.blk s3 H3 scope ce fp) rfl rfl rfl hc j _ s12 (wipe σ8 vs1) H12 (fun _ _ => False) I12 (fpB1 n12) st12 go1) fun r s13 ⟨u1, er, h13⟩ => ?_
          subst er
          refine thnF h13 fun _ s14 ⟨x1, H14, I14, r14, y14, st14, n14⟩ => ?_
          refine thnF (pg1.run _ s14 (wipe σ8 vs1) H14 x1 u1 _ (I14.pinned (fpB1 n14) (T1.obj _ _ st14)) r14 (step1 x1 H14 y14)) fun _ s15 ⟨σ15, H15, I15, w15, q15⟩ => ?_
          refine thnF (pe.run _ s15 σ15 H15 _ I15 q15) fun z s17 ⟨yv, H17, I17, r17, zi, S, cnt, ey, at_D, room, nx⟩ => ?_
          subst ey
          refine sc_add (X := X.blk s3 H3 scope ce fp) I17 at_D room r17 fun s18 I18 => ?_
          obtain ⟨m', lt, w'⟩ := next1 _ nx
          have still : ∀ b ∈ fp1, ∀ o, s14.heap.get? b = some o → s18.heap.get? b = some o ∧ (upd H17 D (SetO X.w D (fun j => S j || decide (j = zi)) (if S zi = true then cnt else cnt + 1))) b = none := fun b hb o z => by
            have p := I18.pin (b, o) (List.mem_append_right _ (List.mem_append_right _ (mem_pinsAt hb z)))
            exact ⟨p.1, p.2.1⟩
          refine ⟨m', lt, j + 1, _, I18.unpinned.weak (by rw [← w15, wipe_length]) (fun j v z => by rw [← w15] at z; exact (wipe_some z).1), T1.keep _ _ _ st14 fun b hb o z => (still b hb o z).1, fun b hb => ?_, w'⟩
          obtain ⟨o, z, _⟩ := T1.obj _ _ st14 b hb
          exact (still b hb o z).2
      exact sc_start1 loop1 (T1.self X.A 0 _ _ _ st11 loop1)
  exact sc_start0 loop (T.self X.A 0 _ _ _ st4 loop)
end
end Lr

namespace L2
open PySem PySem.Spec PyProof.Rows
/-- what the clause 'except (x, y) as n' wishes, where the suite may keep the exception -/
def wOwn2 (K : PySem.W.Frag) (c c' : Value) (i : Nat) (ts : TS) (Wout : WX) (D : Ends) : WX := fun cls d σ H =>
  ∃ b, PySem.W.exmAny K cls [c, c'] = some b ∧
    (b = true → ∀ a, H a = none → ts { nx := fun σ' H' => D.nx (σ'.set i none) H', rt := D.rt, bk := fun σ' H' => D.bk (σ'.set i none) H', ct := fun σ' H' => D.ct (σ'.set i none) H' } (σ.set i (some (.ref a))) (upd H a (exq a cls d))) ∧
    (b = false → Wout cls d σ H)
theorem flying_push {B h : Heap} {l : List Env} {e : Addr} {Z : Obj → Prop} (o : Obj) (x : HandSPX.FlyingZ B l e Z h) : HandSPX.FlyingZ B l e Z (h.push o) := by
  obtain ⟨f1, f2, f3, oe, vs, T, oT, ts, he, hz, hd, h1, hnT, hTe, hT, hdT, h3⟩ := x
  exact ⟨fun b u z => Heap.get?_push_of_some _ (f1 b u z), f2, f3.of_keeps fun b u z _ => ⟨u, Heap.get?_push_of_some _ z, rfl⟩, oe, vs, T, oT, ts, Heap.get?_push_of_some _ he, hz, hd, h1, hnT, hTe, Heap.get?_push_of_some _ hT, hdT, h3⟩
section
variable {X : Cx} {x y n : Str} {c c' : Value} {i k : Nat} {body suite : List Stmt} {b₀ : Stmt} {np mp tp pos pos' : Pos} {tb : WX → TS} {ts : TS} {Wout : WX}
theorem ps_try_own2 (stk : X.stack = X.env :: X.outer) (frm : X.env.frame = some X.env.locals) (noex : X.ex = []) (nodup : X.N.Nodup) (at_i : X.N[i]? = some n) (loc : X.env.kindOf n = some .local) (nm : Names X x c) (nm' : Names X y c') (tk : Takes X Wout)
    (hb : ∀ (W : WX) (pn : List (Addr × Obj)) (xe : Value → Shared → Prop), Takes (X.tr pn xe) W → PassesOwn (model X.prog X.w) X.A X.env xe → PSs (X.tr pn xe) body (tb W))
    (hsu : ∀ (a : Addr) (pn : List (Addr × Obj)), PSs (X.suite a pn) (b₀ :: suite) ts) :
    PS X (.Try body [.ExceptHandler (some (.Tuple [.Name x np, .Name y mp] k tp)) (some n) (b₀ :: suite) pos'] [] [] pos) (fun D σ H => tb (wOwn2 X.K c c' i ts Wout D) D σ H) := by
  refine ⟨fun pins s σ H D I h => ?_⟩
  have ok := I.ok
  have frames : X.A.frames = some (X.env :: X.outer) := by rw [ok.frames, stk]
  have isLoc : Loc X.env.scope n := .inl loc
  refine wpAny_Try_except ?_
  refine wpAny_mono ((hb (wOwn2 X.K c c' i ts Wout D) (X.pn ++ pins) (fun e s₁ => wpAny (model X.prog X.w) X.A (noteFrame e X.env)
    (fun _ s₂ => wpAny (model X.prog X.w) X.A (setFlight e none)
      (fun _ s₃ => wpAny (model X.prog X.w) X.A (handleBy e X.env [.ExceptHandler (some (.Tuple [.Name x np, .Name y mp] k tp)) (some n) (b₀ :: suite) pos']) (SP X pins D) X.xe s₃) X.xe s₂) X.xe s₁)
    (fun u s' xx => ?_) PassesOwn.looking).run [] s σ H D (I.toTry _) h) (fun f s1 done => ?_) (fun e s1 he => he)
  · -- it is caught
    obtain ⟨a, B, sI, pins', σ', H', cls, d, rfl, J', inB, up, sky, na, os, ag, b, meets, yes, no⟩ := xx
    have J : Inv X pins σ' H' sI := J'.ofTry ok
    have sky' : Sky B (X.env :: X.outer) a (Zc cls d) X.env.locals s'.heap := by rw [← stk]; exact sky
    show wpAny (model X.prog X.w) X.A (noteFrame (.ref a) X.env) _ _ _
    refine Sky.land Zc.steady frames frm sky' fun h3 fl3 up3 => ?_
    have J3 : Inv X pins σ' H' { s' with heap := h3 } := J.landed inB fl3.1 (up.trans up3) os ag
    obtain ⟨oe3, vs3, he3, hz3, hd3⟩ := fl3.there
    -- a is none of the frames, and came after the entry
    have nfr : a ∉ frs (X.env :: X.outer) := fun hm => by
      obtain ⟨_, o', e', hnf⟩ := fl3.2.2.1.mem hm
      rw [he3] at e'
      cases e'
      exact hnf _ hd3
    have gone : sI.heap.get? a = none := by
      cases e : sI.heap.get? a with
      | none => rfl
      | some o =>
        have z := inB a o e (by rw [stk]; exact nfr)
        rw [fl3.2.1] at z
        cases z
    have nL : a ≠ X.env.locals := fun z => nfr (List.mem_filterMap.mpr ⟨X.env, List.mem_cons_self, by rw [frm, z]⟩)
    have n0 : X.s_0.heap.get? a = none := by
      cases e : X.s_0.heap.get? a with
      | none => rfl
      | some o =>
        obtain ⟨o', z⟩ := J.base.there a o e (by rw [noex]; exact fun z => nomatch z)
        rw [gone] at z
        cases z
    have nC : ∀ x c, X.env.cells.lookup x = some c → c ≠ a := fun x c e z => by
      obtain ⟨v, o, z2, _⟩ := J.cell x c e
      rw [z, gone] at z2
      cases z2
    have nP : ∀ p ∈ X.pn ++ pins, p.1 ≠ a := fun p hp z => by
      have z2 := (J.pin p hp).1
      rw [z, gone] at z2
      cases z2
    have trk : ∀ {h : Heap}, Inv X pins σ' H' { s' with heap := h } → (∃ oe vs, h.get? a = some oe ∧ Zc cls d oe ∧ oe.data = .fields vs) → Inv X pins σ' (upd H' a (exq a cls d)) { s' with heap := h } := fun {h} J4 th => by
      obtain ⟨oe, vs, h1, h2, h3⟩ := th
      exact J4.track n0 na nL nC nP (exq_ok h1 h2 h3)
    have S3 := (trk J3 ⟨oe3, vs3, he3, hz3, hd3⟩).suite' (a := a)
    refine wpAny_handleBy_cons (codeAny_handlers_test ?_) (by intro q; cases q)
    have LT : PySem.W.Looks (model X.prog X.w) h3 (typeOf (.ref a)) cls := fun A Q E s k q => wpAny_typeOf_ref (k _ _ he3) (by rw [hz3.1]; exact q)
    -- the tuple of both classes is made
    have name1 : ∀ {z : Str} {cz : Value} {zp : Pos} {Q : Value → Shared → Prop} {E : Value → Shared → Prop}, Names X z cz → Q cz { s' with heap := h3 } →
        wpAny (model X.prog X.w) (X.A.mark (some (.ref a))) (eval (.Name z zp) X.env) Q E { s' with heap := h3 } := fun {z cz zp Q E} nz q => by
      obtain ⟨hg, hdbg, hm | ⟨hm, hv, hnn⟩⟩ := nz
      · exact ld_glob (X := X.suite a (X.pn ++ pins)) S3 hg hm q hdbg
      · exact ld_blt (X := X.suite a (X.pn ++ pins)) S3 hg hm hv q hnn hdbg
    refine Tuple_ (spliced_more (name1 nm (spliced_more (name1 nm' (spliced_none ?_)))))
    refine wpAny_newObj_type ?_ (by show 2 ≤ sizeLine; rw [sizeLine_eq]; decide)
    generalize hp : h3.push { cls := .type "tuple", data := .seq [c, c'].toArray } = hP
    have keepP : ∀ b o, h3.get? b = some o → hP.get? b = some o := fun b o z => by
      rw [← hp]
      exact Heap.get?_push_of_some _ z
    have at_t : hP.get? h3.objs.size = some { cls := .type "tuple", data := .seq [c, c'].toArray } := by
      rw [← hp]
      exact Heap.get?_push_size _ rfl
    have flP : HandSPX.FlyingZ B (X.env :: X.outer) a (Zc cls d) hP := by
      rw [← hp]
      exact flying_push _ fl3
    have upP : s'.heap.UpToSlots hP := up3.trans (Heap.UpToSlots.of_keeps keepP)
    have JP : Inv X pins σ' H' { s' with heap := hP } := J.landed inB flP.1 (up.trans upP) os ag
    have LM := PySem.W.exm_tup2 (M := model X.prog X.w) JP.kIn (LT.keeps keepP) at_t meets
    refine LM.here ?_
    cases b with
    | true =>
      refine codeAny_handlers_suite_as ?_
      refine HandSPX.lands_againZ flP fun h4 fl4 up4 => ?_
      have J4 : Inv X pins σ' H' { s' with heap := h4 } := J.landed inB fl4.1 ((up.trans upP).trans up4) os ag
      have S4 := (trk J4 fl4.there).suite' (a := a)
      refine store_ok (X := X.suite a (X.pn ++ pins)) (v := .ref a) S4 nodup at_i isLoc rfl (fun s5 S5 => ?_) (.inr loc)
      refine wpAny_mono ((hsu a (X.pn ++ pins)).run [] s5 _ _ _ S5 (yes rfl a na)) (fun f s6 done => ?_) (fun _ _ z => False.elim z)
      have leave : ∀ {σ6 : L2.St} {H6 : Hp} {Q : Shared → Prop}, Inv (X.suite a (X.pn ++ pins)) [] σ6 H6 s6 → (∀ s7, Inv X pins (σ6.set i none) H6 s7 → Q s7) →
          wpAny (model X.prog X.w) X.A (do bindName X.env n .none; unbindBehindTheSuite X.env n pos') (fun _ s7 => Q s7) X.xe s6 := fun {σ6 H6 Q} S6 hq => gone_ok (S6.unsuite' ok) nodup at_i loc hq
      match f, done with
      | .next, ⟨σ6, H6, S6, q6⟩ => exact leave S6 fun s7 J7 => ⟨_, _, J7, q6⟩
      | .brk, ⟨σ6, H6, S6, q6⟩ => exact leave S6 fun s7 J7 => ⟨_, _, J7, q6⟩
      | .cont, ⟨σ6, H6, S6, q6⟩ => exact leave S6 fun s7 J7 => ⟨_, _, J7, q6⟩
      | .ret u, ⟨v6, σ6, H6, S6, r6, q6⟩ => exact leave S6 fun s7 J7 => ⟨_, _, _, J7, r6, q6⟩
    | false =>
      show wpAny _ X.A (handleBy (.ref a) X.env []) _ _ _
      refine wpAny_handleBy_nil ?_
      obtain ⟨k1, k2, k3, oe, vs, T, oT, ts', he, hz, hd, h1, hr⟩ := id flP
      unfold PySem.passOn
      refine wpAny_bind (wpAny_field he hd h1 ?_)
      rw [if_neg (show ¬ ((Value.ref T == Value.none) = true) from by simp)]
      have fin : wpAny (model X.prog X.w) X.A (setFlight (.ref a) X.env.frame) (fun _ s4 => wpAny (model X.prog X.w) X.A (throw (.ref a) : Sem Flow) (SP X pins D) X.xe s4) X.xe { s' with heap := hP } := by
        rw [frm]
        refine HandSPX.setFlight_upZ flP fun h4 hh4 up4 => wpAny_throw (tk _ _ ?_)
        exact ⟨a, B, sI, pins, σ', H', cls, d, rfl, J, inB, (up.trans upP).trans up4, .inr (.inr (by rw [stk]; exact hh4)), na, os, ag, no rfl⟩
      first
        | exact wpAny_bind (wpAny_pure (wpAny_bind fin))
        | exact wpAny_bind fin
  · match f, done with
    | .next, ⟨σ', H', J', q⟩ => exact wpAny_execs_nil ⟨σ', H', J'.ofTry ok, q⟩
    | .brk, ⟨σ', H', J', q⟩ => exact ⟨σ', H', J'.ofTry ok, q⟩
    | .cont, ⟨σ', H', J', q⟩ => exact ⟨σ', H', J'.ofTry ok, q⟩
    | .ret u, ⟨v, σ', H', J', r, q⟩ => exact ⟨v, σ', H', J'.ofTry ok, r, q⟩
end
end L2

namespace Lr
open PySem PySem.Spec PyProof.Rows L2

/-! ### data without lists and dicts -/
mutual
def flatD : PyData → Bool
  | .list _ => false
  | .dict _ => false
  | .tuple xs => flatAll xs
  | _ => true
def flatAll : List PyData → Bool
  | [] => true
  | x :: xs => flatD x && flatAll xs
end
/-- tuples stay -/
def Tk (H H' : Hp) : Prop := ∀ b xs, (H b = some (.tup xs) → H' b = some (.tup xs)) ∧ ∀ o, H b = some (.frz o (.tup xs)) → H' b = some (.frz o (.tup xs))
theorem Tk.refl (H : Hp) : Tk H H := fun b xs => ⟨fun e => e, fun o e => e⟩
theorem Tk.trans {H H1 H2 : Hp} (a : Tk H H1) (b : Tk H1 H2) : Tk H H2 := fun c xs => ⟨fun e => (b c xs).1 ((a c xs).1 e), fun o e => (b c xs).2 o ((a c xs).2 o e)⟩
theorem Tk.of {H H' : Hp} (s : Same H H') : Tk H H' := fun b xs => ⟨fun e => s _ _ e, fun o e => s _ _ e⟩
theorem Tk.seq {K : PySem.W.Frag} {H H' : Hp} {a : Addr} {xs : List V} (t : Tk H H') (h : SqT K H a xs) : SqT K H' a xs := by
  rcases h with (e | ⟨o, e⟩) | z
  · exact .inl (.inl ((t a xs).1 e))
  · exact .inl (.inr ⟨o, (t a xs).2 o e⟩)
  · exact .inr z
mutual
theorem dp_tk {K : PySem.W.Frag} {H H' : Hp} (t : Tk H H') : ∀ (d : PyData) (v : V), flatD d = true → Dp K H v d → Dp K H' v d
  | .none, _, _, h => by
    cases h
    exact .non
  | .bool b, _, _, h => by
    cases h
    exact .bl b
  | .int i, _, _, h => by
    cases h
    exact .int i
  | .str x, _, _, h => by
    cases h
    exact .str x
  | .list ds, _, f, h => by
    simp [flatD] at f
  | .tuple ds, _, f, h => by
    cases h with
    | tup hs ha => exact .tup (t.seq hs) (dp_tkAll t ds _ f ha)
  | .dict ds, _, f, h => by
    simp [flatD] at f
theorem dp_tkAll {K : PySem.W.Frag} {H H' : Hp} (t : Tk H H') : ∀ (ds : List PyData) (vs : List V), flatAll ds = true → DpAll K H vs ds → DpAll K H' vs ds
  | [], _, _, h => by
    cases h
    exact .nil
  | d :: ds, _, f, h => by
    rw [flatAll, Bool.and_eq_true] at f
    cases h with
    | cons h1 h2 => exact .cons (dp_tk t d _ f.1 h1) (dp_tkAll t ds _ f.2 h2)
end
theorem dpAll_app {K : PySem.W.Frag} {H : Hp} : ∀ {vs : List V} {ds : List PyData} {us : List V} {es : List PyData}, DpAll K H vs ds → DpAll K H us es → DpAll K H (vs ++ us) (ds ++ es)
  | _, _, _, _, .nil, q => q
  | _, _, _, _, .cons x t, q => .cons x (dpAll_app t q)
theorem dpAll_len {K : PySem.W.Frag} {H : Hp} : ∀ {vs : List V} {ds : List PyData}, DpAll K H vs ds → vs.length = ds.length
  | _, _, .nil => rfl
  | _, _, .cons x t => by rw [List.length_cons, List.length_cons, dpAll_len t]
theorem dpAll_get {K : PySem.W.Frag} {H : Hp} : ∀ {vs : List V} {ds : List PyData}, DpAll K H vs ds → ∀ (i : Nat) (v : V), vs[i]? = some v → ∃ d, ds[i]? = some d ∧ Dp K H v d
  | _, _, .nil, i, v, h => by simp at h
  | _, _, .cons x t, 0, v, h => by
    cases Option.some.inj h
    exact ⟨_, rfl, x⟩
  | _, _, .cons x t, i + 1, v, h => dpAll_get t i v h
theorem dpAll_at {K : PySem.W.Frag} {H : Hp} : ∀ {vs : List V} {ds : List PyData}, DpAll K H vs ds → ∀ (i : Nat) (d : PyData), ds[i]? = some d → ∃ v, vs[i]? = some v ∧ Dp K H v d
  | _, _, .nil, i, d, h => by simp at h
  | _, _, .cons x t, 0, d, h => by
    cases Option.some.inj h
    exact ⟨_, rfl, x⟩
  | _, _, .cons x t, i + 1, d, h => dpAll_at t i d h
theorem dpAll_take {K : PySem.W.Frag} {H : Hp} : ∀ {vs : List V} {ds : List PyData} (n : Nat), DpAll K H vs ds → DpAll K H (vs.take n) (ds.take n)
  | _, _, 0, _ => .nil
  | _, _, n + 1, .nil => .nil
  | _, _, n + 1, .cons x t => .cons x (dpAll_take n t)
theorem dpAll_drop {K : PySem.W.Frag} {H : Hp} : ∀ {vs : List V} {ds : List PyData} (n : Nat), DpAll K H vs ds → DpAll K H (vs.drop n) (ds.drop n)
  | _, _, 0, t => t
  | _, _, n + 1, .nil => .nil
  | _, _, n + 1, .cons x t => dpAll_drop n t
theorem dp_strs {K : PySem.W.Frag} {H : Hp} : ∀ ws : List Str, DpAll K H (ws.map V.str) (ws.map PyData.str)
  | [] => .nil
  | w :: ws => .cons (.str w) (dp_strs ws)
theorem strs_dp {K : PySem.W.Frag} {H : Hp} : ∀ {ws : List Str} {vs : List V}, DpAll K H vs (ws.map PyData.str) → vs = ws.map V.str
  | [], _, h => by
    cases h
    rfl
  | w :: ws, _, h => by
    cases h with
    | cons h1 h2 =>
      cases h1
      rw [strs_dp h2]
      rfl
theorem dp_of_tup {K : PySem.W.Frag} {H : Hp} {v : V} {ds : List PyData} (h : Dp K H v (.tuple ds)) : ∃ p xs, v = .ref p ∧ SqT K H p xs ∧ DpAll K H xs ds := by
  cases h with
  | tup hs ha => exact ⟨_, _, rfl, hs, ha⟩

/-! ### nets -/
abbrev Chc := Int × List Str
abbrev Gr := List Chc
abbrev Gs := Option (List Gr)
abbrev Hd := Int × Str
abbrev Rwt := Hd × Gs
structure Nt where
  roads : List (Int × Int)
  labels : List Str
  rows : List Rwt
def dWd (w : List Str) : PyData := .tuple (w.map .str)
def dCh (c : Chc) : PyData := .tuple [.int c.1, dWd c.2]
def dGr (g : Gr) : PyData := .tuple (g.map dCh)
def dGs : Gs → PyData
  | none => .str "home"
  | some gs => .tuple (gs.map dGr)
def dHd (h : Hd) : PyData := .tuple [.int h.1, .str h.2]
def dRw (r : Rwt) : PyData := .tuple [dHd r.1, dGs r.2]
def dPr (p : Int × Int) : PyData := .tuple [.int p.1, .int p.2]
def dNt (n : Nt) : PyData := .tuple [.tuple (n.roads.map dPr), dWd n.labels, .tuple (n.rows.map dRw)]
theorem flat_map {α : Type} (f : α → PyData) (h : ∀ x, flatD (f x) = true) : ∀ xs : List α, flatAll (xs.map f) = true
  | [] => rfl
  | x :: xs => by
    show (flatD (f x) && flatAll (xs.map f)) = true
    rw [h x, flat_map f h xs]
    rfl
theorem flat_wd (w : List Str) : flatD (dWd w) = true := flat_map _ (fun _ => rfl) w
theorem flat_ch (c : Chc) : flatD (dCh c) = true := by
  show (flatD (.int c.1) && (flatD (dWd c.2) && true)) = true
  rw [flat_wd]
  rfl
theorem flat_gr (g : Gr) : flatD (dGr g) = true := flat_map _ flat_ch g
theorem flat_gs : ∀ g : Gs, flatD (dGs g) = true
  | none => rfl
  | some gs => flat_map _ flat_gr gs
theorem flat_hd (h : Hd) : flatD (dHd h) = true := rfl
theorem flat_rw (r : Rwt) : flatD (dRw r) = true := by
  show (flatD (dHd r.1) && (flatD (dGs r.2) && true)) = true
  rw [flat_gs]
  rfl
theorem flat_pr (p : Int × Int) : flatD (dPr p) = true := rfl
theorem flat_nt (n : Nt) : flatD (dNt n) = true := by
  show (flatD (.tuple (n.roads.map dPr)) && (flatD (dWd n.labels) && (flatD (.tuple (n.rows.map dRw)) && true))) = true
  rw [flat_wd]
  have h1 : flatD (.tuple (n.roads.map dPr)) = true := flat_map _ flat_pr _
  have h2 : flatD (.tuple (n.rows.map dRw)) = true := flat_map _ flat_rw _
  rw [h1, h2]
  rfl
/-- the labels that are drawn, and those of the net by hand -/
def L5 : List Str := ["a", "ab", "b", "abc", "bb"]
def ChOk (roads : List (Int × Int)) (labels : List Str) (road : Int) (c : Chc) : Prop := 0 ≤ c.1 ∧ c.1 < roads.length ∧ (roads.getD c.1.toNat (0, 0)).1 = (roads.getD road.toNat (0, 0)).2 ∧ c.2.length ≤ 3 ∧ ∀ x ∈ c.2, x ∈ labels
def GrOk (roads : List (Int × Int)) (labels : List Str) (road : Int) (g : Gr) : Prop := 1 ≤ g.length ∧ g.length ≤ 3 ∧ (∀ c ∈ g, ChOk roads labels road c) ∧ g.Nodup
def GsOk (roads : List (Int × Int)) (labels : List Str) (road : Int) : Gs → Prop
  | none => True
  | some gs => 1 ≤ gs.length ∧ gs.length ≤ 3 ∧ ∀ g ∈ gs, GrOk roads labels road g
def RwOk (roads : List (Int × Int)) (labels : List Str) (r : Rwt) : Prop := 0 ≤ r.1.1 ∧ r.1.1 < roads.length ∧ (r.1.2 = "" ∨ r.1.2 ∈ labels) ∧ GsOk roads labels r.1.1 r.2
structure NtOk (n : Nt) : Prop where
  r1 : 1 ≤ n.roads.length
  r2 : n.roads.length ≤ 10
  rh : ∀ p ∈ n.roads, 0 ≤ p.1 ∧ p.1 ≤ 7 ∧ 0 ≤ p.2 ∧ p.2 ≤ 7
  l1 : 1 ≤ n.labels.length
  l2 : n.labels.length ≤ 4
  lw : ∀ x ∈ n.labels, x ∈ L5
  ln : n.labels.Nodup
  w1 : n.rows.length ≤ n.roads.length * (n.labels.length + 1)
  ro : ∀ r ∈ n.rows, RwOk n.roads n.labels r
  asc : ∀ (i : Nat) (a b : Rwt), n.rows[i]? = some a → n.rows[i + 1]? = some b → lePair b.1 a.1 = false
end Lr

namespace Lr
open PySem PySem.Spec PyProof.Rows L2

abbrev sNu : Stmt := top 20
abbrev sTu : Stmt := top 21
abbrev sPa : Stmt := top 22
abbrev sWo : Stmt := top 23
abbrev sHo : Stmt := top 24
abbrev sHp : Stmt := top 25
abbrev sLa : Stmt := top 26
abbrev sRd : Stmt := top 27
abbrev sLb : Stmt := top 28
abbrev sLs : Stmt := top 29
abbrev sSg : Stmt := top 30
abbrev sHd : Stmt := top 31
abbrev sCh : Stmt := top 32
abbrev sGr : Stmt := top 33
abbrev sGs : Stmt := top 34
abbrev sRw : Stmt := top 35
abbrev sSh : Stmt := top 36
abbrev sNN : Stmt := top 40
abbrev sNR : Stmt := top 41
abbrev sNL : Stmt := top 42
abbrev sNW : Stmt := top 43
abbrev sNS : Stmt := top 46
abbrev sLe : Stmt := top 47
abbrev sMe : Stmt := top 48
abbrev sHs : Stmt := top 49
abbrev sFi : Stmt := top 50
abbrev sLk : Stmt := top 56
abbrev sLW : Stmt := top 57
abbrev sLG : Stmt := top 58
abbrev sLN : Stmt := top 59
abbrev sLS : Stmt := top 60
abbrev sSt : Stmt := top 61
abbrev sHe : Stmt := top 62
abbrev sCu : Stmt := top 63
abbrev sLaw : Stmt := top 64
/-- a def of the text, as a caller finds it -/
structure Cal (K : PySem.W.Frag) (mg : Str → Option Value) (name : Str) (f : Addr) (fd : FuncData) (ps : List Str) : Prop where
  g : mg name = some (.ref f)
  k : PySem.W.keepIn K (.ref f) = true
  b : Binds K fd ps []
structure Bt (mg : Str → Option Value) : Prop where
  isi : mg "isinstance" = none
  len : mg "len" = none
  set : mg "set" = none
  all : mg "all" = none
  any : mg "any" = none
  int : mg "int" = none
  bool : mg "bool" = none
  str : mg "str" = none
  tuple : mg "tuple" = none
  list : mg "list" = none
  enum : mg "enumerate" = none
  range : mg "range" = none
  sorted : mg "sorted" = none
  zip : mg "zip" = none
  h7 : ∃ t, mg "MOST_HOUSE" = some (.int 7 t)
  l8 : ∃ t, mg "MOST_LETTERS" = some (.int 8 t)
  w3 : ∃ t, mg "MOST_WORD" = some (.int 3 t)
  c3 : ∃ t, mg "MOST_CHOICES" = some (.int 3 t)
  g3 : ∃ t, mg "MOST_GROUPS" = some (.int 3 t)
  i6 : ∃ t, mg "MOST_ITEMS" = some (.int 6 t)
  r10 : ∃ t, mg "MOST_ROADS" = some (.int 10 t)
  l4 : ∃ t, mg "MOST_LABELS" = some (.int 4 t)
  s3 : ∃ t, mg "MOST_STACK" = some (.int 3000 t)
theorem ty_tup {K : PySem.W.Frag} {H : Hp} {p : Addr} {xs : List V} (h : SqT K H p xs) : TyX K H (.ref p) (.type "tuple") := by
  rcases h with (e | ⟨o, e⟩) | ⟨o, its, n, e, c, _⟩
  · exact .base (.tup e)
  · exact .fTuple e
  · exact .kTuple e c
/-- a value that is no tuple -/
def NotTup (K : PySem.W.Frag) (H : Hp) (x : V) : Prop := ∃ ty : String, ty ∈ ["NoneType", "int", "bool", "str", "list", "dict"] ∧ TyX K H x (.type ty)
theorem kit_not {K : PySem.W.Frag} {ty : String} (h : ty ∈ ["NoneType", "int", "bool", "str", "list", "dict"]) : PySem.W.kitOne K (.type ty) (.type "tuple") = some false := by
  simp only [List.mem_cons, List.not_mem_nil, or_false] at h
  rcases h with rfl | rfl | rfl | rfl | rfl | rfl <;> exact kit_ty (by decide +kernel)
def spNu : Sp := fun vs H Q _ => ∃ v lo hi : Int, vs = [.int v, .int lo, .int hi] ∧ lo ≤ v ∧ v ≤ hi ∧ Q (.bl true) H
def spTu (K : PySem.W.Frag) : Sp := fun vs H Q _ => ∃ (x : V) (lo hi : Int), vs = [x, .int lo, .int hi] ∧ ((∃ p xs, x = .ref p ∧ SqT K H p xs ∧ lo ≤ (xs.length : Nat) ∧ Q (.bl (decide (((xs.length : Nat) : Int) ≤ hi))) H) ∨ (NotTup K H x ∧ Q (.bl false) H))
def spPa (K : PySem.W.Frag) : Sp := fun vs H Q _ => ∃ (p : Addr) (x y : V), vs = [.ref p] ∧ SqT K H p [x, y] ∧ Q (.bl true) H
def spHo : Sp := fun vs H Q _ => ∃ v : Int, vs = [.int v] ∧ 0 ≤ v ∧ v ≤ 7 ∧ Q (.bl true) H
def spHp (K : PySem.W.Frag) : Sp := fun vs H Q _ => ∃ (p : Addr) (x y : Int), vs = [.ref p] ∧ SqT K H p [.int x, .int y] ∧ 0 ≤ x ∧ x ≤ 7 ∧ 0 ≤ y ∧ y ≤ 7 ∧ Q (.bl true) H
def spWo : Sp := fun vs H Q _ => ∃ x : Str, vs = [.str x] ∧ x ∈ L5 ∧ ∀ H', Same H H' → Q (.bl true) H'
def spRd (K : PySem.W.Frag) : Sp := fun vs H Q _ => ∃ (r : Addr) (xs : List V) (v : Int), vs = [.ref r, .int v] ∧ SqT K H r xs ∧ 0 ≤ v ∧ v < (xs.length : Nat) ∧ Q (.bl true) H
/-- a label's place in labels; what is no text is none -/
def spLb (K : PySem.W.Frag) : Sp := fun vs H Q _ => ∃ (l : Addr) (ls : List Str) (x : V), vs = [.ref l, x] ∧ SqT K H l (ls.map V.str) ∧ ((∃ y, x = .str y ∧ Q (.bl (decide (y ∈ ls))) H) ∨ ((∃ i : Int, x = .int i) ∨ ∃ p xs, x = .ref p ∧ SqT K H p xs) ∧ Q (.bl false) H)
theorem inV_strs (y : Str) : ∀ ls : List Str, inV (V.str y) (ls.map V.str) = decide (y ∈ ls)
  | [] => rfl
  | l :: ls => by
    have ih := inV_strs y ls
    unfold inV at ih ⊢
    rw [List.map_cons, List.any_cons, ih]
    by_cases e : l = y
    · subst e
      have z : eqV (V.str l) (V.str l) = true := by
        simp [eqV]
      rw [z]
      simp
    · have z : eqV (V.str l) (V.str y) = false := by
        simp [eqV, e]
      have e' : y ≠ l := fun k => e k.symm
      rw [z]
      simp [e']
theorem flat_strs : ∀ ls : List Str, (ls.map V.str).all flatV = true
  | [] => rfl
  | l :: ls => by
    rw [List.map_cons, List.all_cons, flat_strs ls]
    rfl
def L5ok : Bool := L5.all fun x => decide (1 ≤ x.length) && decide (x.length ≤ 8) && x.cps.toList.all (fun c => c == 97 || c == 98 || c == 99) && !(x == "any") && !(x == "all") && !(x == "") && !(x == "zz")
theorem L5_ok : L5ok = true := by decide +kernel
theorem L5_of {x : Str} (h : x ∈ L5) : 1 ≤ x.length ∧ x.length ≤ 8 ∧ (∀ c ∈ x.cps.toList, c = 97 ∨ c = 98 ∨ c = 99) ∧ x ≠ "any" ∧ x ≠ "all" ∧ x ≠ "" ∧ x ≠ "zz" := by
  have z := List.all_eq_true.mp L5_ok x h
  simp only [Bool.and_eq_true, decide_eq_true_eq, List.all_eq_true, Bool.or_eq_true, beq_iff_eq, Bool.not_eq_true', beq_eq_false_iff_ne] at z
  obtain ⟨⟨⟨⟨⟨⟨z1, z2⟩, z3⟩, z4⟩, z5⟩, z6⟩, z7⟩ := z
  refine ⟨z1, z2, fun c hc => ?_, z4, z5, z6, z7⟩
  rcases z3 c hc with (e | e) | e
  · exact .inl e
  · exact .inr (.inl e)
  · exact .inr (.inr e)
section
variable {P : Program} {w : World} {K : PySem.W.Frag} {mg : Str → Option Value} {base : Heap}
theorem scNu : FnScope ["value", "least", "greatest"] ["value", "least", "greatest"] (defScope sNu) := ⟨rfl, rfl, rfl, by decide +kernel, rfl, by decide +kernel, by decide +kernel⟩
theorem scTu : FnScope ["value", "least", "greatest"] ["value", "least", "greatest"] (defScope sTu) := ⟨rfl, rfl, rfl, by decide +kernel, rfl, by decide +kernel, by decide +kernel⟩
theorem scPa : FnScope ["value"] ["value"] (defScope sPa) := ⟨rfl, rfl, rfl, by decide +kernel, rfl, by decide +kernel, by decide +kernel⟩
theorem scWo : FnScope ["value", "letter"] ["value"] (defScope sWo) := ⟨rfl, rfl, rfl, by decide +kernel, rfl, by decide +kernel, by decide +kernel⟩
theorem scHo : FnScope ["value"] ["value"] (defScope sHo) := ⟨rfl, rfl, rfl, by decide +kernel, rfl, by decide +kernel, by decide +kernel⟩
theorem scHp : FnScope ["value"] ["value"] (defScope sHp) := ⟨rfl, rfl, rfl, by decide +kernel, rfl, by decide +kernel, by decide +kernel⟩
theorem scLa : FnScope ["value"] ["value"] (defScope sLa) := ⟨rfl, rfl, rfl, by decide +kernel, rfl, by decide +kernel, by decide +kernel⟩
theorem scRd : FnScope ["roads", "value"] ["roads", "value"] (defScope sRd) := ⟨rfl, rfl, rfl, by decide +kernel, rfl, by decide +kernel, by decide +kernel⟩
theorem scLb : FnScope ["labels", "value"] ["labels", "value"] (defScope sLb) := ⟨rfl, rfl, rfl, by decide +kernel, rfl, by decide +kernel, by decide +kernel⟩
theorem ok_Nu {f : Addr} {fd : FuncData} (F : Fun K "is_number" "is_number" sNu f fd) (T : Bt mg) : FnOk P w K mg base CX0 1 f fd ["value", "least", "greatest"] spNu := by
  refine F.ok scNu (fun vs H Q E h => ?_) (fun cdv A outer s H vs Q E hr h => ?_)
  · obtain ⟨v, lo, hi, rfl, h0, h1, k⟩ := h
    rfl
  · obtain ⟨v, lo, hi, rfl, h0, h1, k⟩ := h
    refine ⟨_, pss_one (ps_ret (pe_and (pe_callB call_isi (by rfl) T.isi (by decide +kernel) (pa_cons (pv 0) (pa_cons (pe_bltn (v := V.ty "int") (by rfl) T.int (by decide +kernel) rfl) pa_nil))) (pe_and (pe_not (pe_callB call_isi (by rfl) T.isi (by decide +kernel) (pa_cons (pv 0) (pa_cons (pe_bltn (v := V.ty "bool") (by rfl) T.bool (by decide +kernel) rfl) pa_nil)))) (pe_one (pe_chain op_le op_le (pv 1) (pv 0) (pv 2)))))), ?_⟩
    refine ⟨_, rfl, .int v, .ty "int", _, _, true, rfl, .ty _, .base (.int v), kit_ty (by decide +kernel), _, rfl, iteT ?_⟩
    refine ⟨_, rfl, .int v, .ty "bool", _, _, false, rfl, .ty _, .base (.int v), kit_ty (by decide +kernel), _, rfl, _, rfl, iteT ?_⟩
    refine ⟨_, rfl, _, rfl, _, _, rfl, rfl, _, rfl, ifT (decide_eq_true h0) ⟨_, rfl, _, _, rfl, rfl, ?_⟩⟩
    show Q (.bl (decide (v ≤ hi))) H
    rw [decide_eq_true h1]
    exact k
theorem ok_Tu {f : Addr} {fd : FuncData} (F : Fun K "is_tuple" "is_tuple" sTu f fd) (T : Bt mg) : FnOk P w K mg base CX0 1 f fd ["value", "least", "greatest"] (spTu K) := by
  refine F.ok scTu (fun vs H Q E h => ?_) (fun cdv A outer s H vs Q E hr h => ?_)
  · obtain ⟨x, lo, hi, rfl, h⟩ := h
    rfl
  · obtain ⟨x, lo, hi, rfl, h⟩ := h
    refine ⟨_, pss_one (ps_ret (pe_and (pe_callB call_isi (by rfl) T.isi (by decide +kernel) (pa_cons (pv 0) (pa_cons (pe_bltn (v := V.ty "tuple") (by rfl) T.tuple (by decide +kernel) rfl) pa_nil))) (pe_one (pe_chain op_le op_le (pv 1) (pe_callB call_len_seq (by rfl) T.len PySem.boot_len (pa_cons (pv 0) pa_nil)) (pv 2))))), ?_⟩
    rcases h with ⟨p, xs, rfl, ep, h0, k⟩ | ⟨⟨ty, mem, tx⟩, k⟩
    · refine ⟨_, rfl, .ref p, .ty "tuple", _, _, true, rfl, .ty _, ty_tup ep, kit_ty (by decide +kernel), _, rfl, iteT ?_⟩
      refine ⟨_, rfl, _, rfl, p, _, rfl, .inr ep, _, _, rfl, rfl, _, rfl, ifT (decide_eq_true h0) ⟨_, rfl, _, _, rfl, rfl, ?_⟩⟩
      exact k
    · refine ⟨_, rfl, x, .ty "tuple", _, _, false, rfl, .ty _, tx, kit_not mem, _, rfl, iteF ?_⟩
      exact k
theorem ok_Pa {f : Addr} {fd : FuncData} {fTu : Addr} {fdTu : FuncData} (F : Fun K "is_pair" "is_pair" sPa f fd) (T : Bt mg) (CTu : Cal K mg "is_tuple" fTu fdTu ["value", "least", "greatest"]) (GTu : FnOk P w K mg base CX0 1 fTu fdTu ["value", "least", "greatest"] (spTu K)) : FnOk P w K mg base CX0 2 f fd ["value"] (spPa K) := by
  refine F.ok scPa (fun vs H Q E h => ?_) (fun cdv A outer s H vs Q E hr h => ?_)
  · obtain ⟨p, x, y, rfl, ep, k⟩ := h
    rfl
  · obtain ⟨p, x, y, rfl, ep, k⟩ := h
    have hr1 : Room 1 (A.deeper (envOfC "is_pair" (defScope sPa) s.heap.objs.size f cdv)) := Room.mono hr (by decide)
    refine ⟨_, pss_one (ps_ret (pe_call GTu hr1 (by rfl) CTu.g CTu.k CTu.b .nil pass0 (pa_cons (pv 0) (pa_cons pe_int (pa_cons pe_int pa_nil))))), ?_⟩
    exact ⟨_, rfl, .ref p, _, _, rfl, .inl ⟨p, _, rfl, ep, by show (2 : Int) ≤ 2; decide, k⟩⟩
theorem ok_Wo {f : Addr} {fd : FuncData} (F : Fun K "is_word" "is_word" sWo f fd) (T : Bt mg) : FnOk P w K mg base CX0 1 f fd ["value"] spWo := by
  refine F.ok scWo (fun vs H Q E h => ?_) (fun cdv A outer s H vs Q E hr h => ?_)
  · obtain ⟨x, rfl, mem, k⟩ := h
    rfl
  · obtain ⟨x, rfl, mem, k⟩ := h
    obtain ⟨t8, e8⟩ := T.l8
    refine ⟨_, pss_cons (ps_if (PW.pt (pw_or (pt_not (pt_val (pe_callB call_isi (by rfl) T.isi (by decide +kernel) (pa_cons (pv 0) (pa_cons (pe_bltn (v := V.ty "str") (by rfl) T.str (by decide +kernel) rfl) pa_nil))))) (pw_or1 (pt_not (pt_chain op_le op_le pe_int (pe_callB call_len_str (by rfl) T.len PySem.boot_len (pa_cons (pv 0) pa_nil)) (pe_glob (v := V.int 8) (by rfl) e8 ⟨_, rfl⟩)))))) (pss_one (ps_ret pe_bl)) pss_nil)
      (pss_one (ps_ret (pe_callB (cr_all rfl) (by rfl) T.all (by decide +kernel) (pa_cons (pe_lc (own := [("letter", 1)]) (g := gName 1) (tt := tYes) rfl scWo.nd (pi_str (pv 0)) (blkOk_by (N := ["value", "letter"]) (sc := defScope sWo) (by decide +kernel)) (fun _ _ _ _ _ => pg_name (i := 1) scWo.nd rfl (.inl rfl)) (fun _ _ _ _ _ => pts_nil)
        (fun _ _ _ _ _ => pe_chain op_le_str op_le_str pe_str (pv 1) pe_str)) pa_nil)))), ?_⟩
    obtain ⟨w1, w2, w3, _⟩ := L5_of mem
    have wz : x.cps.size ≤ 8 := w2
    refine ⟨_, rfl, .str x, .ty "str", _, _, true, rfl, .ty _, .base (.str _), kit_ty (by decide +kernel), _, rfl, iteF ?_⟩
    refine ⟨_, rfl, _, rfl, by rw [sizeLine_eq]; omega, _, _, rfl, rfl, _, rfl, ifT (decide_eq_true (by show (1 : Int) ≤ (x.length : Nat); omega)) ⟨_, _, rfl, rfl, _, rfl, ifF (by rw [decide_eq_true (by show ((x.length : Nat) : Int) ≤ 8; omega)]; rfl) ?_⟩⟩
    refine ⟨_, rfl, _, rfl, fun D nD => ?_⟩
    refine lc_it walk_str (fun i H' => H' D = some (.lst ((List.replicate i true).map V.bl)) ∧ Same H H' ∧ i ≤ x.cps.size) ⟨upd_same, same_upd nD, Nat.zero_le _⟩ (fun _ _ _ _ => trivial) ?_ ?_
    · rintro i y H' H2 hi ⟨eD, sm, il⟩ ⟨rfl, c, hc, rfl⟩
      have cm : c = 97 ∨ c = 98 ∨ c = 99 := w3 c (List.mem_of_getElem? (by rw [Array.getElem?_toList]; exact hc))
      have e1 : (!decide ((⟨#[c]⟩ : Str).cps.toList < ("a" : Str).cps.toList)) = true := by rcases cm with rfl | rfl | rfl <;> decide +kernel
      have e2 : (!decide (("z" : Str).cps.toList < (⟨#[c]⟩ : Str).cps.toList)) = true := by rcases cm with rfl | rfl | rfl <;> decide +kernel
      refine ⟨rfl, yes_of ?_⟩
      refine ⟨_, rfl, _, _, rfl, rfl, _, rfl, ifT e1 ⟨_, _, rfl, rfl, _, eD, by rw [List.length_map, List.length_replicate, sizeLine_eq]; omega, ?_, fun b o e => by rw [upd_ne (ne_of_none e nD)]; exact sm b o e, by omega⟩⟩
      rw [upd_same, e2]
      have z : (List.replicate (i + 1) true).map V.bl = (List.replicate i true).map V.bl ++ [V.bl true] := by
        rw [List.replicate_succ', List.map_append]
        rfl
      rw [z]
    rintro H' ⟨eD, sm, _⟩
    refine ⟨D, _, rfl, SqL.of eD, ?_⟩
    have z : (List.replicate x.cps.size true).all id = true := by
      rw [List.all_eq_true]
      intro b hb
      rw [List.eq_of_mem_replicate hb]
      rfl
    show Q (V.bl ((List.replicate x.cps.size true).all id)) H'
    rw [z]
    exact k _ sm
theorem ok_Ho {f : Addr} {fd : FuncData} {fNu : Addr} {fdNu : FuncData} (F : Fun K "is_house" "is_house" sHo f fd) (T : Bt mg) (CNu : Cal K mg "is_number" fNu fdNu ["value", "least", "greatest"]) (GNu : FnOk P w K mg base CX0 1 fNu fdNu ["value", "least", "greatest"] spNu) : FnOk P w K mg base CX0 2 f fd ["value"] spHo := by
  refine F.ok scHo (fun vs H Q E h => ?_) (fun cdv A outer s H vs Q E hr h => ?_)
  · obtain ⟨v, rfl, h0, h1, k⟩ := h
    rfl
  · obtain ⟨v, rfl, h0, h1, k⟩ := h
    have hr1 : Room 1 (A.deeper (envOfC "is_house" (defScope sHo) s.heap.objs.size f cdv)) := Room.mono hr (by decide)
    obtain ⟨t7, e7⟩ := T.h7
    refine ⟨_, pss_one (ps_ret (pe_call GNu hr1 (by rfl) CNu.g CNu.k CNu.b .nil pass0 (pa_cons (pv 0) (pa_cons pe_int (pa_cons (pe_glob (v := V.int 7) (by rfl) e7 ⟨_, rfl⟩) pa_nil))))), ?_⟩
    exact ⟨_, rfl, v, _, _, rfl, h0, h1, k⟩
theorem ok_Hp {f : Addr} {fd : FuncData} {fPa : Addr} {fdPa : FuncData} {fHo : Addr} {fdHo : FuncData} (F : Fun K "is_house_pair" "is_house_pair" sHp f fd) (T : Bt mg) (CPa : Cal K mg "is_pair" fPa fdPa ["value"]) (GPa : FnOk P w K mg base CX0 2 fPa fdPa ["value"] (spPa K)) (CHo : Cal K mg "is_house" fHo fdHo ["value"]) (GHo : FnOk P w K mg base CX0 2 fHo fdHo ["value"] spHo) : FnOk P w K mg base CX0 3 f fd ["value"] (spHp K) := by
  refine F.ok scHp (fun vs H Q E h => ?_) (fun cdv A outer s H vs Q E hr h => ?_)
  · obtain ⟨p, x, y, rfl, ep, x0, x1, y0, y1, k⟩ := h
    rfl
  · obtain ⟨p, x, y, rfl, ep, x0, x1, y0, y1, k⟩ := h
    have hr2 : Room 2 (A.deeper (envOfC "is_house_pair" (defScope sHp) s.heap.objs.size f cdv)) := Room.mono hr (by decide)
    refine ⟨_, pss_one (ps_ret (pe_and (pe_call GPa hr2 (by rfl) CPa.g CPa.k CPa.b .nil pass0 (pa_cons (pv 0) pa_nil)) (pe_and (pe_call GHo hr2 (by rfl) CHo.g CHo.k CHo.b .nil pass0 (pa_cons (pe_ix ix_tup (pv 0) pe_int (fun _ _ => rfl)) pa_nil)) (pe_one (pe_call GHo hr2 (by rfl) CHo.g CHo.k CHo.b .nil pass0 (pa_cons (pe_ix ix_tup (pv 0) pe_int (fun _ _ => rfl)) pa_nil)))))), ?_⟩
    refine ⟨_, rfl, p, _, _, rfl, ep, _, rfl, iteT ?_⟩
    refine ⟨_, rfl, p, _, _, _, rfl, rfl, ep, (show atI [V.int x, V.int y] 0 = some (V.int x) from rfl), x, rfl, x0, x1, _, rfl, iteT ?_⟩
    exact ⟨_, rfl, p, _, _, _, rfl, rfl, ep, (show atI [V.int x, V.int y] 1 = some (V.int y) from rfl), y, rfl, y0, y1, k⟩
theorem ok_La {f : Addr} {fd : FuncData} {fWo : Addr} {fdWo : FuncData} (F : Fun K "can_be_label" "can_be_label" sLa f fd) (T : Bt mg) (CWo : Cal K mg "is_word" fWo fdWo ["value"]) (GWo : FnOk P w K mg base CX0 1 fWo fdWo ["value"] spWo) : FnOk P w K mg base CX0 2 f fd ["value"] spWo := by
  refine F.ok scLa (fun vs H Q E h => ?_) (fun cdv A outer s H vs Q E hr h => ?_)
  · obtain ⟨x, rfl, mem, k⟩ := h
    rfl
  · obtain ⟨x, rfl, mem, k⟩ := h
    have hr1 : Room 1 (A.deeper (envOfC "can_be_label" (defScope sLa) s.heap.objs.size f cdv)) := Room.mono hr (by decide)
    refine ⟨_, pss_one (ps_ret (pe_and (pe_call GWo hr1 (by rfl) CWo.g CWo.k CWo.b .nil pass0 (pa_cons (pv 0) pa_nil)) (pe_one (pe_cmpR op_notIn_seq (pv 0) (pe_tup (pa_cons pe_str (pa_cons pe_str pa_nil))) (by rfl))))), ?_⟩
    obtain ⟨_, _, _, n1, n2, _⟩ := L5_of mem
    refine ⟨_, rfl, x, rfl, mem, fun H1 s1 => ⟨_, rfl, iteT ?_⟩⟩
    refine ⟨_, rfl, by show 2 ≤ sizeLine; rw [sizeLine_eq]; decide, fun t nt => ?_⟩
    refine ⟨t, _, rfl, .inr (SqT.of upd_same), rfl, rfl, ?_⟩
    have z : (if true then !inV (V.str x) [V.str "any", V.str "all"] else inV (V.str x) [V.str "any", V.str "all"]) = true := by
      have e := inV_strs x ["any", "all"]
      show (!inV (V.str x) ((["any", "all"] : List Str).map V.str)) = true
      rw [e, decide_eq_false (by simp [n1, n2])]
      rfl
    rw [z]
    exact k _ (s1.trans (same_upd nt))
theorem ok_Rd {f : Addr} {fd : FuncData} {fNu : Addr} {fdNu : FuncData} (F : Fun K "is_road" "is_road" sRd f fd) (T : Bt mg) (CNu : Cal K mg "is_number" fNu fdNu ["value", "least", "greatest"]) (GNu : FnOk P w K mg base CX0 1 fNu fdNu ["value", "least", "greatest"] spNu) : FnOk P w K mg base CX0 2 f fd ["roads", "value"] (spRd K) := by
  refine F.ok scRd (fun vs H Q E h => ?_) (fun cdv A outer s H vs Q E hr h => ?_)
  · obtain ⟨r, xs, v, rfl, er, h0, h1, k⟩ := h
    rfl
  · obtain ⟨r, xs, v, rfl, er, h0, h1, k⟩ := h
    have hr1 : Room 1 (A.deeper (envOfC "is_road" (defScope sRd) s.heap.objs.size f cdv)) := Room.mono hr (by decide)
    refine ⟨_, pss_one (ps_ret (pe_call GNu hr1 (by rfl) CNu.g CNu.k CNu.b .nil pass0 (pa_cons (pv 1) (pa_cons pe_int (pa_cons (pe_op op_sub (pe_callB call_len_seq (by rfl) T.len PySem.boot_len (pa_cons (pv 0) pa_nil)) pe_int) pa_nil))))), ?_⟩
    exact ⟨_, rfl, _, rfl, r, _, rfl, .inr er, _, _, rfl, rfl, v, _, _, rfl, h0, by omega, k⟩
theorem ok_Lb {f : Addr} {fd : FuncData} (F : Fun K "is_label" "is_label" sLb f fd) (T : Bt mg) : FnOk P w K mg base CX0 1 f fd ["labels", "value"] (spLb K) := by
  refine F.ok scLb (fun vs H Q E h => ?_) (fun cdv A outer s H vs Q E hr h => ?_)
  · obtain ⟨l, ls, x, rfl, el, h⟩ := h
    rfl
  · obtain ⟨l, ls, x, rfl, el, h⟩ := h
    refine ⟨_, pss_one (ps_ret (pe_and (pe_callB call_isi (by rfl) T.isi (by decide +kernel) (pa_cons (pv 1) (pa_cons (pe_bltn (v := V.ty "str") (by rfl) T.str (by decide +kernel) rfl) pa_nil))) (pe_one (pe_cmpR op_in_seq (pv 1) (pv 0) (by rfl))))), ?_⟩
    rcases h with ⟨y, rfl, k⟩ | ⟨⟨i, rfl⟩ | ⟨p, xs, rfl, ep⟩, k⟩
    · refine ⟨_, rfl, .str y, .ty "str", _, _, true, rfl, .ty _, .base (.str _), kit_ty (by decide +kernel), _, rfl, iteT ?_⟩
      refine ⟨_, rfl, _, rfl, l, _, rfl, .inr el, rfl, flat_strs ls, ?_⟩
      show Q (.bl (inV (V.str y) (ls.map V.str))) H
      rw [inV_strs]
      exact k
    · exact ⟨_, rfl, .int i, .ty "str", _, _, false, rfl, .ty _, .base (.int _), kit_ty (by decide +kernel), _, rfl, iteF k⟩
    · exact ⟨_, rfl, .ref p, .ty "str", _, _, false, rfl, .ty _, ty_tup ep, kit_ty (by decide +kernel), _, rfl, iteF k⟩
end
end Lr

namespace Lr
open PySem PySem.Spec PyProof.Rows L2

theorem take_bl {fl : List Bool} {i : Nat} {b : Bool} (h : fl[i]? = some b) : (fl.take (i + 1)).map V.bl = (fl.take i).map V.bl ++ [V.bl b] := by
  rw [List.take_succ, h, List.map_append]
  rfl
def kCh (c : Chc) : NestedKey := .tup [.num c.1, .tup (c.2.map .text)]
theorem datas_text : ∀ w : List Str, NestedKey.datas (w.map .text) = w.map PyData.str
  | [] => rfl
  | x :: w => by
    show NestedKey.data (.text x) :: NestedKey.datas (w.map .text) = _
    rw [datas_text w]
    rfl
theorem kCh_data (c : Chc) : (kCh c).data = dCh c := by
  show PyData.tuple [.int c.1, .tuple (NestedKey.datas (c.2.map .text))] = _
  rw [datas_text]
  rfl
theorem depth_text : ∀ w : List Str, NestedKey.depthAll (w.map .text) = 0
  | [] => rfl
  | x :: w => by
    show max (NestedKey.depth (.text x)) (NestedKey.depthAll (w.map .text)) = 0
    rw [depth_text w]
    rfl
theorem kCh_depth (c : Chc) : (kCh c).depth ≤ 8 := by
  show max (NestedKey.depth (.num c.1)) (max (NestedKey.depthAll (c.2.map .text) + 1) 0) + 1 ≤ 8
  rw [depth_text]
  show max 0 1 + 1 ≤ 8
  decide
theorem kCh_inj {a b : Chc} (h : kCh a = kCh b) : a = b := by
  obtain ⟨i, x⟩ := a
  obtain ⟨j, y⟩ := b
  injection h with h
  injection h with h1 h2
  injection h1 with h1
  injection h2 with h2
  injection h2 with h2
  have inj : ∀ (u v : List Str), u.map NestedKey.text = v.map NestedKey.text → u = v := by
    intro u
    induction u with
    | nil =>
      intro v e
      cases v with
      | nil => rfl
      | cons b v => cases e
    | cons a u ih =>
      intro v e
      cases v with
      | nil => cases e
      | cons b v =>
        rw [List.map_cons, List.map_cons] at e
        injection e with e1 e2
        injection e1 with e1
        rw [e1, ih v e2]
  have h3 : x = y := inj _ _ h2
  have h4 : i = j := h1
  rw [h3, h4]
/-- the parts of a tuple of data: each an object of its own where all are tuples -/
theorem refs_of {K : PySem.W.Frag} {H : Hp} {α : Type} (f : α → PyData) (tup : ∀ a, ∃ ds, f a = .tuple ds) : ∀ {xs : List V} {as : List α}, DpAll K H xs (as.map f) → ∃ ps : List Addr, xs = ps.map V.ref ∧ Paired (fun p a => Dp K H (.ref p) (f a)) ps as
  | _, [], h => by
    cases h
    exact ⟨[], rfl, .nil⟩
  | _, a :: as, h => by
    cases h with
    | cons h1 h2 =>
      obtain ⟨ps, e, pr⟩ := refs_of f tup h2
      obtain ⟨ds, ed⟩ := tup a
      rw [ed] at h1
      obtain ⟨p, xs, rfl, hs, ha⟩ := dp_of_tup h1
      exact ⟨p :: ps, by rw [e]; rfl, .cons (by rw [ed]; exact .tup hs ha) pr⟩
theorem paired_at {α β : Type} {R : α → β → Prop} : ∀ {as : List α} {bs : List β}, Paired R as bs → ∀ (i : Nat) (b : β), bs[i]? = some b → ∃ a, as[i]? = some a ∧ R a b
  | _, _, .nil, i, b, h => by simp at h
  | _, _, .cons x t, 0, b, h => by
    cases Option.some.inj h
    exact ⟨_, rfl, x⟩
  | _, _, .cons x t, i + 1, b, h => paired_at t i b h
def zipK : List Addr → List Chc → List (NestedKey × Addr)
  | p :: ps, c :: cs => (kCh c, p) :: zipK ps cs
  | _, _ => []
theorem zipK_spec {K : PySem.W.Frag} {H : Hp} : ∀ {ps : List Addr} {cs : List Chc}, Paired (fun p c => Dp K H (.ref p) (dCh c)) ps cs →
    (zipK ps cs).map (fun q => V.ref q.2) = ps.map V.ref ∧ (zipK ps cs).map (·.1) = cs.map kCh ∧ (∀ q ∈ zipK ps cs, Dp K H (.ref q.2) q.1.data ∧ q.1.depth ≤ 8) ∧ (zipK ps cs).length = cs.length
  | _, _, .nil => ⟨rfl, rfl, (fun q hq => nomatch hq), rfl⟩
  | p :: ps, c :: cs, .cons x t => by
    obtain ⟨h1, h2, h3, h4⟩ := zipK_spec t
    refine ⟨?_, ?_, fun q hq => ?_, ?_⟩
    · show V.ref p :: (zipK ps cs).map (fun q => V.ref q.2) = _
      rw [h1]
      rfl
    · show kCh c :: (zipK ps cs).map (·.1) = _
      rw [h2]
      rfl
    · cases hq with
      | head =>
        refine ⟨?_, kCh_depth c⟩
        show Dp K H (.ref p) (kCh c).data
        rw [kCh_data]
        exact x
      | tail _ hq => exact h3 q hq
    · show (zipK ps cs).length + 1 = _
      rw [h4]
      rfl
/-- a label's list by its data -/
def LbAt (K : PySem.W.Frag) (H : Hp) (l : Addr) (ls : List Str) : Prop := SqT K H l (ls.map V.str)
/-- the roads at r -/
def RdAt (K : PySem.W.Frag) (H : Hp) (r : Addr) (rd : List (Int × Int)) : Prop := Dp K H (.ref r) (.tuple (rd.map dPr))
theorem RdAt.tk {K : PySem.W.Frag} {H H' : Hp} {r : Addr} {rd : List (Int × Int)} (h : RdAt K H r rd) (t : Tk H H') : RdAt K H' r rd := dp_tk t _ _ (flat_map _ flat_pr rd) h
theorem RdAt.sq {K : PySem.W.Frag} {H : Hp} {r : Addr} {rd : List (Int × Int)} (h : RdAt K H r rd) : ∃ ps : List Addr, SqT K H r (ps.map V.ref) ∧ ps.length = rd.length ∧ Paired (fun p a => SqT K H p [.int a.1, .int a.2]) ps rd := by
  obtain ⟨p, xs, e, hs, ha⟩ := dp_of_tup h
  cases e
  obtain ⟨ps, rfl, pr⟩ := refs_of dPr (fun a => ⟨_, rfl⟩) ha
  refine ⟨ps, hs, paired_len pr, paired_mono (fun p a x => ?_) pr⟩
  obtain ⟨q, ys, eq, hq, hy⟩ := dp_of_tup x
  cases eq
  cases hy with
  | cons y1 hy =>
    cases hy with
    | cons y2 hy =>
      cases hy
      cases y1
      cases y2
      exact hq
def spLs (K : PySem.W.Frag) : Sp := fun vs H Q _ => ∃ (l : Addr) (ls : List Str) (x : V) (most : Int), vs = [.ref l, x, .int most] ∧ LbAt K H l ls ∧ 1 ≤ most ∧
  ((∃ (p : Addr) (ws : List Str), x = .ref p ∧ SqT K H p (ws.map V.str) ∧ ws.length ≤ 10000 ∧ ∀ H', Same H H' → Q (.bl (decide (((ws.length : Nat) : Int) ≤ most) && ws.all fun y => decide (y ∈ ls))) H') ∨
   (∃ (p : Addr) (i : Int), x = .ref p ∧ SqT K H p [.int i] ∧ ∀ H', Same H H' → Q (.bl false) H') ∨ (NotTup K H x ∧ ∀ H', Same H H' → Q (.bl false) H'))
def spSg (K : PySem.W.Frag) : Sp := fun vs H Q _ => ∃ (l : Addr) (ls : List Str) (y : Str), vs = [.ref l, .str y] ∧ LbAt K H l ls ∧ (y = "" ∨ y ∈ ls) ∧ Q (.bl true) H
def spHd (K : PySem.W.Frag) : Sp := fun vs H Q _ => ∃ (r l h : Addr) (xs : List V) (ls : List Str) (i : Int) (y : Str), vs = [.ref r, .ref l, .ref h] ∧ SqT K H r xs ∧ LbAt K H l ls ∧ SqT K H h [.int i, .str y] ∧ 0 ≤ i ∧ i < (xs.length : Nat) ∧ (y = "" ∨ y ∈ ls) ∧ Q (.bl true) H
def spCh (K : PySem.W.Frag) : Sp := fun vs H Q _ => ∃ (r l : Addr) (road : Int) (x : V) (rd : List (Int × Int)) (ls : List Str) (c : Chc), vs = [.ref r, .ref l, .int road, x] ∧ RdAt K H r rd ∧ LbAt K H l ls ∧ 0 ≤ road ∧ road < (rd.length : Nat) ∧ Dp K H x (dCh c) ∧ ChOk rd ls road c ∧ ∀ H', Same H H' → Q (.bl true) H'
def spGr (K : PySem.W.Frag) : Sp := fun vs H Q _ => ∃ (r l : Addr) (road : Int) (x : V) (rd : List (Int × Int)) (ls : List Str) (g : Gr), vs = [.ref r, .ref l, .int road, x] ∧ RdAt K H r rd ∧ LbAt K H l ls ∧ 0 ≤ road ∧ road < (rd.length : Nat) ∧ Dp K H x (dGr g) ∧ GrOk rd ls road g ∧ ∀ H', Same H H' → Q (.bl true) H'
def spGs (K : PySem.W.Frag) : Sp := fun vs H Q _ => ∃ (r l : Addr) (road : Int) (x : V) (rd : List (Int × Int)) (ls : List Str) (g : Gs), vs = [.ref r, .ref l, .int road, x] ∧ RdAt K H r rd ∧ LbAt K H l ls ∧ 0 ≤ road ∧ road < (rd.length : Nat) ∧ Dp K H x (dGs g) ∧ GsOk rd ls road g ∧ ∀ H', Same H H' → Q (.bl true) H'
def spRw (K : PySem.W.Frag) : Sp := fun vs H Q _ => ∃ (r l : Addr) (x : V) (rd : List (Int × Int)) (ls : List Str) (g : Rwt), vs = [.ref r, .ref l, x] ∧ RdAt K H r rd ∧ LbAt K H l ls ∧ Dp K H x (dRw g) ∧ RwOk rd ls g ∧ ∀ H', Same H H' → Q (.bl true) H'
def spSh (K : PySem.W.Frag) : Sp := fun vs H Q _ => ∃ (l : Addr) (ls : List Str) (x : V), vs = [.ref l, x] ∧ LbAt K H l ls ∧ ls.length ≤ 100 ∧
  ((∃ (p : Addr) (ws : List Str), x = .ref p ∧ SqT K H p (ws.map V.str) ∧ ∀ H', Same H H' → Q (.bl (decide (ws.length ≤ 6) && ws.all fun y => decide (y ∈ (("any" :: "all" :: ls) : List Str)))) H') ∨
   (∃ (p : Addr) (z : V), x = .ref p ∧ SqT K H p [z] ∧ ((∃ i : Int, z = .int i) ∨ ∃ p xs, z = .ref p ∧ SqT K H p xs) ∧ ∀ H', Same H H' → Q (.bl false) H') ∨ (NotTup K H x ∧ ∀ H', Same H H' → Q (.bl false) H'))
end Lr

namespace Lr
open PySem PySem.Spec PyProof.Rows L2

section
variable {P : Program} {w : World} {K : PySem.W.Frag} {mg : Str → Option Value} {base : Heap}
theorem scLs : FnScope ["labels", "value", "most", "label"] ["labels", "value", "most"] (defScope sLs) := ⟨rfl, rfl, rfl, by decide +kernel, rfl, by decide +kernel, by decide +kernel⟩
theorem scSg : FnScope ["labels", "value"] ["labels", "value"] (defScope sSg) := ⟨rfl, rfl, rfl, by decide +kernel, rfl, by decide +kernel, by decide +kernel⟩
theorem scHd : FnScope ["roads", "labels", "value"] ["roads", "labels", "value"] (defScope sHd) := ⟨rfl, rfl, rfl, by decide +kernel, rfl, by decide +kernel, by decide +kernel⟩
theorem scCh : FnScope ["roads", "labels", "road", "value", "out", "word"] ["roads", "labels", "road", "value"] (defScope sCh) := ⟨rfl, rfl, rfl, by decide +kernel, rfl, by decide +kernel, by decide +kernel⟩
theorem ok_Ls {f : Addr} {fd : FuncData} {fTu : Addr} {fdTu : FuncData} {fLb : Addr} {fdLb : FuncData} (F : Fun K "is_labels" "is_labels" sLs f fd) (T : Bt mg) (CTu : Cal K mg "is_tuple" fTu fdTu ["value", "least", "greatest"]) (GTu : FnOk P w K mg base CX0 1 fTu fdTu ["value", "least", "greatest"] (spTu K)) (CLb : Cal K mg "is_label" fLb fdLb ["labels", "value"]) (GLb : FnOk P w K mg base CX0 1 fLb fdLb ["labels", "value"] (spLb K)) : FnOk P w K mg base CX0 2 f fd ["labels", "value", "most"] (spLs K) := by
  refine F.ok scLs (fun vs H Q E h => ?_) (fun cdv A outer s H vs Q E hr h => ?_)
  · obtain ⟨l, ls, x, most, rfl, el, m1, h⟩ := h
    rfl
  · obtain ⟨l, ls, x, most, rfl, el, m1, h⟩ := h
    have hr1 : Room 1 (A.deeper (envOfC "is_labels" (defScope sLs) s.heap.objs.size f cdv)) := Room.mono hr (by decide)
    refine ⟨_, pss_one (ps_ret (pe_and (pe_call GTu hr1 (by rfl) CTu.g CTu.k CTu.b .nil pass0 (pa_cons (pv 1) (pa_cons pe_int (pa_cons (pv 2) pa_nil)))) (pe_one (pe_callB (cr_all rfl) (by rfl) T.all (by decide +kernel) (pa_cons (pe_lc (own := [("label", 3)]) (g := gName 3) (tt := tYes) rfl scLs.nd (pi_tup (pv 1)) (blkOk_by (N := ["labels", "value", "most", "label"]) (sc := defScope sLs) (by decide +kernel)) (fun _ _ _ _ _ => pg_name (i := 3) scLs.nd rfl (.inl rfl)) (fun _ _ _ _ _ => pts_nil)
        (fun _ _ _ _ _ => (pe_call GLb hr1 (by rfl) CLb.g CLb.k CLb.b .nil pass0 (pa_cons (pv 0) (pa_cons (pv 3) pa_nil))))) pa_nil))))), ?_⟩
    have items : (∃ (p : Addr) (xs : List V) (fl : List Bool), x = .ref p ∧ SqT K H p xs ∧ xs.length = fl.length ∧ fl.length ≤ 10000 ∧ (∀ (i : Nat) (z : V), xs[i]? = some z → ∃ b, fl[i]? = some b ∧ ((∃ y, z = .str y ∧ b = decide (y ∈ ls)) ∨ (∃ j : Int, z = .int j) ∧ b = false)) ∧
        ∀ H', Same H H' → Q (.bl (decide (((xs.length : Nat) : Int) ≤ most) && fl.all id)) H') ∨ (NotTup K H x ∧ ∀ H', Same H H' → Q (.bl false) H') := by
      rcases h with ⟨p, ws, rfl, ep, small, k⟩ | ⟨p, i, rfl, ep, k⟩ | ⟨nt, k⟩
      · refine .inl ⟨p, _, ws.map fun y => decide (y ∈ ls), rfl, ep, by simp, by simpa using small, fun i z hz => ?_, fun H' sm => ?_⟩
        · rw [List.getElem?_map, Option.map_eq_some_iff] at hz
          obtain ⟨y, hy, rfl⟩ := hz
          exact ⟨decide (y ∈ ls), by rw [List.getElem?_map, hy]; rfl, .inl ⟨y, rfl, rfl⟩⟩
        · have z := k H' sm
          rw [List.length_map, List.all_map]
          exact z
      · refine .inl ⟨p, _, [false], rfl, ep, rfl, by decide, fun i z hz => ?_, fun H' sm => ?_⟩
        · match i, hz with
          | 0, hz =>
            cases Option.some.inj hz
            exact ⟨false, rfl, .inr ⟨⟨_, rfl⟩, rfl⟩⟩
          | i + 1, hz => simp at hz
        · have z := k H' sm
          show Q (.bl (decide (((1 : Nat) : Int) ≤ most) && false)) H'
          rw [Bool.and_false]
          exact z
      · exact .inr ⟨nt, k⟩
    rcases items with ⟨p, xs, fl, rfl, ep, len, small, ans, k⟩ | ⟨nt, k⟩
    · refine ⟨_, rfl, _, rfl, .ref p, _, _, rfl, .inl ⟨p, xs, rfl, ep, by show (0 : Int) ≤ _; omega, _, rfl, ?_⟩⟩
      refine ite2 (fun big => ?_) (fun big => ?_)
      · refine ⟨_, rfl, p, rfl, ⟨_, ep⟩, fun D nD => ?_⟩
        refine lc_tup (K := K) (a := p) (xs := xs) (fun i H' => H' D = some (.lst ((fl.take i).map V.bl)) ∧ Same H H') ⟨upd_same, same_upd nD⟩ (fun i H' _ ⟨_, sm⟩ => (Tk.of sm).seq ep) ?_ ?_
        · rintro i z H' hi ⟨eD, sm⟩
          obtain ⟨b, hb, an⟩ := ans i z hi
          have done : ∃ acc, H' D = some (.lst acc) ∧ acc.length < sizeLine ∧ (upd H' D (.lst (acc ++ [V.bl b]))) D = some (.lst ((fl.take (i + 1)).map V.bl)) ∧ Same H (upd H' D (.lst (acc ++ [V.bl b]))) := by
            refine ⟨_, eD, ?_, ?_, fun c o e => by rw [upd_ne (ne_of_none e nD)]; exact sm c o e⟩
            · rw [List.length_map, List.length_take, sizeLine_eq]
              omega
            · rw [upd_same, take_bl hb]
          refine ⟨rfl, yes_of ?_⟩
          refine ⟨_, rfl, _, rfl, l, ls, z, rfl, (Tk.of sm).seq el, ?_⟩
          rcases an with ⟨y, rfl, rfl⟩ | ⟨⟨j, rfl⟩, rfl⟩
          · exact .inl ⟨y, rfl, done⟩
          · exact .inr ⟨.inl ⟨j, rfl⟩, done⟩
        rintro H' ⟨eD, sm⟩
        rw [len, List.take_length] at eD
        refine ⟨D, fl, rfl, SqL.of eD, ?_⟩
        have z := k H' sm
        rw [big, Bool.true_and] at z
        exact z
      · have z := k H (Same.refl H)
        rw [Bool.eq_false_iff.mpr big, Bool.false_and] at z
        exact z
    · refine ⟨_, rfl, _, rfl, x, _, _, rfl, .inr ⟨nt, _, rfl, iteF ?_⟩⟩
      exact k H (Same.refl H)
theorem ok_Sg {f : Addr} {fd : FuncData} (F : Fun K "is_sign" "is_sign" sSg f fd) (T : Bt mg) : FnOk P w K mg base CX0 1 f fd ["labels", "value"] (spSg K) := by
  refine F.ok scSg (fun vs H Q E h => ?_) (fun cdv A outer s H vs Q E hr h => ?_)
  · obtain ⟨l, ls, y, rfl, el, ok, k⟩ := h
    rfl
  · obtain ⟨l, ls, y, rfl, el, ok, k⟩ := h
    refine ⟨_, pss_one (ps_ret (pe_and (pe_callB call_isi (by rfl) T.isi (by decide +kernel) (pa_cons (pv 1) (pa_cons (pe_bltn (v := V.ty "str") (by rfl) T.str (by decide +kernel) rfl) pa_nil))) (pe_one (pe_or (pe_cmpR op_eq (pv 1) pe_str (nomark _)) (pe_one (pe_cmpR op_in_seq (pv 1) (pv 0) (by rfl))))))), ?_⟩
    refine ⟨_, rfl, .str y, .ty "str", _, _, true, rfl, .ty _, .base (.str _), kit_ty (by decide +kernel), _, rfl, iteT ?_⟩
    refine ⟨_, rfl, rfl, _, rfl, ?_⟩
    by_cases e : y = ""
    · subst e
      exact ifT (decide_eq_true rfl) k
    · refine ifF (decide_eq_false (fun z => e (by injection z))) ?_
      refine ⟨_, rfl, _, rfl, l, _, rfl, .inr el, rfl, flat_strs ls, ?_⟩
      show Q (.bl (inV (V.str y) (ls.map V.str))) H
      rw [inV_strs, decide_eq_true (ok.resolve_left e)]
      exact k
theorem ok_Hd {f : Addr} {fd : FuncData} {fPa : Addr} {fdPa : FuncData} {fRd : Addr} {fdRd : FuncData} {fSg : Addr} {fdSg : FuncData} (F : Fun K "is_head" "is_head" sHd f fd) (T : Bt mg) (CPa : Cal K mg "is_pair" fPa fdPa ["value"]) (GPa : FnOk P w K mg base CX0 2 fPa fdPa ["value"] (spPa K)) (CRd : Cal K mg "is_road" fRd fdRd ["roads", "value"]) (GRd : FnOk P w K mg base CX0 2 fRd fdRd ["roads", "value"] (spRd K)) (CSg : Cal K mg "is_sign" fSg fdSg ["labels", "value"]) (GSg : FnOk P w K mg base CX0 1 fSg fdSg ["labels", "value"] (spSg K)) : FnOk P w K mg base CX0 3 f fd ["roads", "labels", "value"] (spHd K) := by
  refine F.ok scHd (fun vs H Q E h => ?_) (fun cdv A outer s H vs Q E hr h => ?_)
  · obtain ⟨r, l, h, xs, ls, i, y, rfl, er, el, eh, i0, i1, ok, k⟩ := h
    rfl
  · obtain ⟨r, l, h, xs, ls, i, y, rfl, er, el, eh, i0, i1, ok, k⟩ := h
    have hr1 : Room 1 (A.deeper (envOfC "is_head" (defScope sHd) s.heap.objs.size f cdv)) := Room.mono hr (by decide)
    have hr2 : Room 2 (A.deeper (envOfC "is_head" (defScope sHd) s.heap.objs.size f cdv)) := Room.mono hr (by decide)
    refine ⟨_, pss_one (ps_ret (pe_and (pe_call GPa hr2 (by rfl) CPa.g CPa.k CPa.b .nil pass0 (pa_cons (pv 2) pa_nil)) (pe_and (pe_call GRd hr2 (by rfl) CRd.g CRd.k CRd.b .nil pass0 (pa_cons (pv 0) (pa_cons (pe_ix ix_tup (pv 2) pe_int (fun _ _ => rfl)) pa_nil))) (pe_one (pe_call GSg hr1 (by rfl) CSg.g CSg.k CSg.b .nil pass0 (pa_cons (pv 1) (pa_cons (pe_ix ix_tup (pv 2) pe_int (fun _ _ => rfl)) pa_nil))))))), ?_⟩
    refine ⟨_, rfl, h, _, _, rfl, eh, _, rfl, iteT ?_⟩
    refine ⟨_, rfl, _, rfl, h, _, _, _, rfl, rfl, eh, (show atI [V.int i, V.str y] 0 = some (V.int i) from rfl), r, xs, i, rfl, er, i0, i1, _, rfl, iteT ?_⟩
    exact ⟨_, rfl, _, rfl, h, _, _, _, rfl, rfl, eh, (show atI [V.int i, V.str y] 1 = some (V.str y) from rfl), l, ls, y, rfl, el, ok, k⟩
theorem ok_Ch {f : Addr} {fd : FuncData} {fPa : Addr} {fdPa : FuncData} {fRd : Addr} {fdRd : FuncData} {fLs : Addr} {fdLs : FuncData} (F : Fun K "is_choice" "is_choice" sCh f fd) (T : Bt mg) (CPa : Cal K mg "is_pair" fPa fdPa ["value"]) (GPa : FnOk P w K mg base CX0 2 fPa fdPa ["value"] (spPa K)) (CRd : Cal K mg "is_road" fRd fdRd ["roads", "value"]) (GRd : FnOk P w K mg base CX0 2 fRd fdRd ["roads", "value"] (spRd K)) (CLs : Cal K mg "is_labels" fLs fdLs ["labels", "value", "most"]) (GLs : FnOk P w K mg base CX0 2 fLs fdLs ["labels", "value", "most"] (spLs K)) : FnOk P w K mg base CX0 3 f fd ["roads", "labels", "road", "value"] (spCh K) := by
  refine F.ok scCh (fun vs H Q E h => ?_) (fun cdv A outer s H vs Q E hr h => ?_)
  · obtain ⟨r, l, road, x, rd, ls, c, rfl, er, el, h0, h1, dc, ok, k⟩ := h
    rfl
  · obtain ⟨r, l, road, x, rd, ls, c, rfl, er, el, h0, h1, dc, ok, k⟩ := h
    have hr2 : Room 2 (A.deeper (envOfC "is_choice" (defScope sCh) s.heap.objs.size f cdv)) := Room.mono hr (by decide)
    obtain ⟨t3, e3⟩ := T.w3
    refine ⟨_, pss_cons (ps_if (PW.pt (pw_or (pt_not (pt_val (pe_call GPa hr2 (by rfl) CPa.g CPa.k CPa.b .nil pass0 (pa_cons (pv 3) pa_nil)))) (pw_or1 (pt_not (pt_val (pe_call GRd hr2 (by rfl) CRd.g CRd.k CRd.b .nil pass0 (pa_cons (pv 0) (pa_cons (pe_ix ix_tup (pv 3) pe_int (fun _ _ => rfl)) pa_nil)))))))) (pss_one (ps_ret pe_bl)) pss_nil)
      (pss_cons (ps_asg (pv 3) (pg_tup (by rfl) (pgs_cons (pg_name (i := 4) scCh.nd rfl (.inl rfl)) (pgs_cons (pg_name (i := 5) scCh.nd rfl (.inl rfl)) pgs_nil))))
      (pss_one (ps_ret (pe_and (pe_cmpR op_eq (pe_ix ix_tup (pe_ix ix_tup (pv 0) (pv 4) (fun _ _ => rfl)) pe_int (fun _ _ => rfl)) (pe_ix ix_tup (pe_ix ix_tup (pv 0) (pv 2) (fun _ _ => rfl)) pe_int (fun _ _ => rfl)) (nomark _)) (pe_one (pe_call GLs hr2 (by rfl) CLs.g CLs.k CLs.b .nil pass0 (pa_cons (pv 1) (pa_cons (pv 5) (pa_cons (pe_glob (v := V.int 3) (by rfl) e3 ⟨_, rfl⟩) pa_nil))))))))), ?_⟩
    obtain ⟨p, xs, rfl, ep, dx⟩ := dp_of_tup dc
    cases dx with
    | cons d1 dx =>
      cases dx with
      | cons d2 dx =>
        cases dx
        cases d1
        obtain ⟨q, ys, rfl, eq, dy⟩ := dp_of_tup d2
        have eys := strs_dp dy
        subst eys
        obtain ⟨i, word⟩ := c
        obtain ⟨c0, c1, c2, c3, c4⟩ := ok
        have c3 : word.length ≤ 3 := c3
        obtain ⟨ps, hr_, lp, pr⟩ := er.sq
        refine ⟨_, rfl, p, _, _, rfl, ep, _, rfl, iteF ?_⟩
        refine ⟨_, rfl, _, rfl, p, _, _, _, rfl, rfl, ep, (show atI [V.int i, V.ref q] 0 = some (V.int i) from rfl), r, _, i, rfl, hr_, c0, by rw [List.length_map, lp]; exact c1, _, rfl, iteF ?_⟩
        refine ⟨_, rfl, p, _, rfl, ep, rfl, _, _, rfl, _, _, rfl, rfl, ?_⟩
        have at1 : ∀ j : Int, 0 ≤ j → j < (rd.length : Nat) → ∃ a : Addr, atI (ps.map V.ref) j = some (V.ref a) ∧ SqT K H a [.int (rd.getD j.toNat (0, 0)).1, .int (rd.getD j.toNat (0, 0)).2] := fun j j0 j1 => by
          have jn : j.toNat < rd.length := by omega
          obtain ⟨a, ha, hs⟩ := paired_at pr j.toNat (rd.getD j.toNat (0, 0)) (by rw [List.getD_eq_getElem?_getD, List.getElem?_eq_getElem jn]; rfl)
          refine ⟨a, ?_, hs⟩
          have ej : j = ((j.toNat : Nat) : Int) := by omega
          rw [ej]
          exact atI_nat (by rw [List.getElem?_map, ha]; rfl)
        obtain ⟨a1, b1, s1⟩ := at1 i c0 c1
        obtain ⟨a2, b2, s2⟩ := at1 road h0 h1
        refine ⟨_, rfl, _, rfl, r, _, _, _, rfl, rfl, hr_, b1, a1, _, _, _, rfl, rfl, s1, (show atI [V.int (rd.getD i.toNat (0, 0)).1, V.int (rd.getD i.toNat (0, 0)).2] 0 = some (V.int (rd.getD i.toNat (0, 0)).1) from rfl), ?_⟩
        refine ⟨_, rfl, _, rfl, r, _, _, _, rfl, rfl, hr_, b2, a2, _, _, _, rfl, rfl, s2, (show atI [V.int (rd.getD road.toNat (0, 0)).1, V.int (rd.getD road.toNat (0, 0)).2] 1 = some (V.int (rd.getD road.toNat (0, 0)).2) from rfl), ?_⟩
        refine ⟨rfl, _, rfl, ifT (decide_eq_true (by rw [c2])) ?_⟩
        refine ⟨_, rfl, _, rfl, l, ls, _, 3, rfl, el, by decide, .inl ⟨q, word, rfl, eq, by omega, fun H' sm => ?_⟩⟩
        have z : (decide (((word.length : Nat) : Int) ≤ 3) && word.all fun y => decide (y ∈ ls)) = true := by
          rw [Bool.and_eq_true, decide_eq_true_eq, List.all_eq_true]
          exact ⟨by omega, fun y hy => decide_eq_true (c4 y hy)⟩
        rw [z]
        exact k H' sm
end
end Lr

namespace Lr
open PySem PySem.Spec PyProof.Rows L2

section
variable {P : Program} {w : World} {K : PySem.W.Frag} {mg : Str → Option Value} {base : Heap}
theorem scGr : FnScope ["roads", "labels", "road", "value", "choice"] ["roads", "labels", "road", "value"] (defScope sGr) := ⟨rfl, rfl, rfl, by decide +kernel, rfl, by decide +kernel, by decide +kernel⟩
theorem scGs : FnScope ["roads", "labels", "road", "value", "group"] ["roads", "labels", "road", "value"] (defScope sGs) := ⟨rfl, rfl, rfl, by decide +kernel, rfl, by decide +kernel, by decide +kernel⟩
theorem scRw : FnScope ["roads", "labels", "value"] ["roads", "labels", "value"] (defScope sRw) := ⟨rfl, rfl, rfl, by decide +kernel, rfl, by decide +kernel, by decide +kernel⟩
theorem scSh : FnScope ["labels", "value", "item"] ["labels", "value"] (defScope sSh) := ⟨rfl, rfl, rfl, by decide +kernel, rfl, by decide +kernel, by decide +kernel⟩
theorem ok_Gr {f : Addr} {fd : FuncData} {fTu : Addr} {fdTu : FuncData} {fCh : Addr} {fdCh : FuncData} (F : Fun K "is_group" "is_group" sGr f fd) (T : Bt mg) (CTu : Cal K mg "is_tuple" fTu fdTu ["value", "least", "greatest"]) (GTu : FnOk P w K mg base CX0 1 fTu fdTu ["value", "least", "greatest"] (spTu K)) (CCh : Cal K mg "is_choice" fCh fdCh ["roads", "labels", "road", "value"]) (GCh : FnOk P w K mg base CX0 3 fCh fdCh ["roads", "labels", "road", "value"] (spCh K)) : FnOk P w K mg base CX0 4 f fd ["roads", "labels", "road", "value"] (spGr K) := by
  refine F.ok scGr (fun vs H Q E h => ?_) (fun cdv A outer s H vs Q E hr h => ?_)
  · obtain ⟨r, l, road, x, rd, ls, g, rfl, er, el, h0, h1, dg, ok, k⟩ := h
    rfl
  · obtain ⟨r, l, road, x, rd, ls, g, rfl, er, el, h0, h1, dg, ok, k⟩ := h
    have hr1 : Room 1 (A.deeper (envOfC "is_group" (defScope sGr) s.heap.objs.size f cdv)) := Room.mono hr (by decide)
    have hr3 : Room 3 (A.deeper (envOfC "is_group" (defScope sGr) s.heap.objs.size f cdv)) := Room.mono hr (by decide)
    obtain ⟨t3, e3⟩ := T.c3
    have hu : (A.deeper (envOfC "is_group" (defScope sGr) s.heap.objs.size f cdv)).units + 20 < cLine := by
      have z := hr.un
      omega
    refine ⟨_, pss_cons (ps_if (pt_not (pt_val (pe_call GTu hr1 (by rfl) CTu.g CTu.k CTu.b .nil pass0 (pa_cons (pv 3) (pa_cons pe_int (pa_cons (pe_glob (v := V.int 3) (by rfl) e3 ⟨_, rfl⟩) pa_nil)))))) (pss_one (ps_ret pe_bl)) pss_nil)
      (pss_one (ps_ret (pe_and (pe_callB (cr_all rfl) (by rfl) T.all (by decide +kernel) (pa_cons (pe_lc (own := [("choice", 4)]) (g := gName 4) (tt := tYes) rfl scGr.nd (pi_tup (pv 3)) (blkOk_by (N := ["roads", "labels", "road", "value", "choice"]) (sc := defScope sGr) (by decide +kernel)) (fun _ _ _ _ _ => pg_name (i := 4) scGr.nd rfl (.inl rfl)) (fun _ _ _ _ _ => pts_nil)
        (fun _ _ _ _ _ => (pe_call GCh hr3 (by rfl) CCh.g CCh.k CCh.b .nil pass0 (pa_cons (pv 0) (pa_cons (pv 1) (pa_cons (pv 2) (pa_cons (pv 4) pa_nil))))))) pa_nil)) (pe_one (pe_cmpR op_eq (pe_lenNst rfl hu (by rfl) T.len (by rfl) T.set (pv 3)) (pe_callB call_len_seq (by rfl) T.len PySem.boot_len (pa_cons (pv 3) pa_nil)) (nomark _)))))), ?_⟩
    obtain ⟨p, xs, rfl, ep, dx⟩ := dp_of_tup dg
    obtain ⟨g1, g3, gc, gn⟩ := ok
    obtain ⟨ps, rfl, pr⟩ := refs_of dCh (fun a => ⟨_, rfl⟩) dx
    have lp := paired_len pr
    obtain ⟨z1, z2, z3, z4⟩ := zipK_spec pr
    refine ⟨_, rfl, .ref p, _, _, rfl, .inl ⟨p, _, rfl, ep, by rw [List.length_map]; show (1 : Int) ≤ _; omega, _, rfl, ?_⟩⟩
    rw [decide_eq_true (by rw [List.length_map]; show ((ps.length : Nat) : Int) ≤ 3; omega)]
    refine iteF ?_
    refine ⟨_, rfl, p, rfl, ⟨_, ep⟩, fun D nD => ?_⟩
    refine lc_tup (K := K) (a := p) (xs := ps.map V.ref) (fun i H' => H' D = some (.lst ((List.replicate i true).map V.bl)) ∧ Same H H' ∧ i ≤ 3) ⟨upd_same, same_upd nD, by decide⟩ (fun i H' _ ⟨_, sm, _⟩ => (Tk.of sm).seq ep) ?_ ?_
    · rintro i z H' hi ⟨eD, sm, i3⟩
      have il : i < (ps.map V.ref).length := (List.getElem?_eq_some_iff.mp hi).1
      rw [List.length_map] at il
      obtain ⟨d, hd, dz⟩ := dpAll_get dx i z hi
      rw [List.getElem?_map, Option.map_eq_some_iff] at hd
      obtain ⟨c, hc, rfl⟩ := hd
      refine ⟨rfl, yes_of ?_⟩
      refine ⟨_, rfl, _, rfl, _, rfl, _, rfl, r, l, road, z, rd, ls, c, rfl, er.tk (Tk.of sm), (Tk.of sm).seq el, h0, h1, dp_tk (Tk.of sm) _ _ (flat_ch c) dz, gc c (List.mem_of_getElem? hc), fun H2 s2 => ?_⟩
      refine ⟨_, s2 _ _ eD, by rw [List.length_map, List.length_replicate, sizeLine_eq]; omega, ?_, fun b o e => by rw [upd_ne (ne_of_none e nD)]; exact s2 _ _ (sm b o e), by omega⟩
      rw [upd_same, List.replicate_succ', List.map_append]
      rfl
    rintro H' ⟨eD, sm, _⟩
    refine ⟨D, _, rfl, SqL.of eD, ?_⟩
    have z : (List.replicate (ps.map V.ref).length true).all id = true := by
      rw [List.all_eq_true]
      intro b hb
      rw [List.eq_of_mem_replicate hb]
      rfl
    rw [z]
    refine ⟨_, rfl, iteT ?_⟩
    refine ⟨_, rfl, p, zipK ps g, rfl, by rw [z1]; exact (Tk.of sm).seq ep, fun q hq => ⟨dp_tk (Tk.of sm) _ _ ?_ (z3 q hq).1, (z3 q hq).2⟩, by omega, ?_, ?_⟩
    · have mem : q.1 ∈ g.map kCh := by
        rw [← z2]
        exact List.mem_map.mpr ⟨q, hq, rfl⟩
      obtain ⟨c, _, ec⟩ := List.mem_map.mp mem
      rw [← ec, kCh_data]
      exact flat_ch c
    · rw [z2]
      exact List.Pairwise.map kCh (fun a b ne e => ne (kCh_inj e)) gn
    refine ⟨_, rfl, p, _, rfl, .inr ((Tk.of sm).seq ep), rfl, ?_⟩
    have e : decide (V.int ((zipK ps g).length : Nat) = V.int (((ps.map V.ref).length : Nat) : Int)) = true := by
      rw [z4, List.length_map, lp]
      exact decide_eq_true rfl
    rw [e]
    exact k H' sm
theorem ok_Gs {f : Addr} {fd : FuncData} {fTu : Addr} {fdTu : FuncData} {fGr : Addr} {fdGr : FuncData} (F : Fun K "is_groups" "is_groups" sGs f fd) (T : Bt mg) (CTu : Cal K mg "is_tuple" fTu fdTu ["value", "least", "greatest"]) (GTu : FnOk P w K mg base CX0 1 fTu fdTu ["value", "least", "greatest"] (spTu K)) (CGr : Cal K mg "is_group" fGr fdGr ["roads", "labels", "road", "value"]) (GGr : FnOk P w K mg base CX0 4 fGr fdGr ["roads", "labels", "road", "value"] (spGr K)) : FnOk P w K mg base CX0 5 f fd ["roads", "labels", "road", "value"] (spGs K) := by
  refine F.ok scGs (fun vs H Q E h => ?_) (fun cdv A outer s H vs Q E hr h => ?_)
  · obtain ⟨r, l, road, x, rd, ls, g, rfl, er, el, h0, h1, dg, ok, k⟩ := h
    rfl
  · obtain ⟨r, l, road, x, rd, ls, g, rfl, er, el, h0, h1, dg, ok, k⟩ := h
    have hr1 : Room 1 (A.deeper (envOfC "is_groups" (defScope sGs) s.heap.objs.size f cdv)) := Room.mono hr (by decide)
    have hr4 : Room 4 (A.deeper (envOfC "is_groups" (defScope sGs) s.heap.objs.size f cdv)) := Room.mono hr (by decide)
    obtain ⟨t3, e3⟩ := T.g3
    refine ⟨_, pss_cons (ps_if (pt_val (pe_callB call_isi (by rfl) T.isi (by decide +kernel) (pa_cons (pv 3) (pa_cons (pe_bltn (v := V.ty "str") (by rfl) T.str (by decide +kernel) rfl) pa_nil)))) (pss_one (ps_ret (pe_cmpR op_eq (pv 3) pe_str (nomark _)))) pss_nil)
      (pss_one (ps_ret (pe_and (pe_call GTu hr1 (by rfl) CTu.g CTu.k CTu.b .nil pass0 (pa_cons (pv 3) (pa_cons pe_int (pa_cons (pe_glob (v := V.int 3) (by rfl) e3 ⟨_, rfl⟩) pa_nil)))) (pe_one (pe_callB (cr_all rfl) (by rfl) T.all (by decide +kernel) (pa_cons (pe_lc (own := [("group", 4)]) (g := gName 4) (tt := tYes) rfl scGs.nd (pi_tup (pv 3)) (blkOk_by (N := ["roads", "labels", "road", "value", "group"]) (sc := defScope sGs) (by decide +kernel)) (fun _ _ _ _ _ => pg_name (i := 4) scGs.nd rfl (.inl rfl)) (fun _ _ _ _ _ => pts_nil)
        (fun _ _ _ _ _ => (pe_call GGr hr4 (by rfl) CGr.g CGr.k CGr.b .nil pass0 (pa_cons (pv 0) (pa_cons (pv 1) (pa_cons (pv 2) (pa_cons (pv 4) pa_nil))))))) pa_nil)))))), ?_⟩
    cases g with
    | none =>
      cases dg
      refine ⟨_, rfl, .str "home", .ty "str", _, _, true, rfl, .ty _, .base (.str _), kit_ty (by decide +kernel), _, rfl, iteT ?_⟩
      refine ⟨_, rfl, rfl, ?_⟩
      rw [decide_eq_true (rfl : V.str "home" = V.str "home")]
      exact k H (Same.refl H)
    | some gs =>
      obtain ⟨p, xs, rfl, ep, dx⟩ := dp_of_tup dg
      obtain ⟨g1, g3, gg⟩ := ok
      have lp := dpAll_len dx
      rw [List.length_map] at lp
      refine ⟨_, rfl, .ref p, .ty "str", _, _, false, rfl, .ty _, ty_tup ep, kit_ty (by decide +kernel), _, rfl, iteF ?_⟩
      refine ⟨_, rfl, .ref p, _, _, rfl, .inl ⟨p, _, rfl, ep, by show (1 : Int) ≤ _; omega, _, rfl, ?_⟩⟩
      rw [decide_eq_true (by show ((xs.length : Nat) : Int) ≤ 3; omega)]
      refine iteT ?_
      refine ⟨_, rfl, p, rfl, ⟨_, ep⟩, fun D nD => ?_⟩
      refine lc_tup (K := K) (a := p) (xs := xs) (fun i H' => H' D = some (.lst ((List.replicate i true).map V.bl)) ∧ Same H H' ∧ i ≤ 3) ⟨upd_same, same_upd nD, by decide⟩ (fun i H' _ ⟨_, sm, _⟩ => (Tk.of sm).seq ep) ?_ ?_
      · rintro i z H' hi ⟨eD, sm, i3⟩
        have il : i < xs.length := (List.getElem?_eq_some_iff.mp hi).1
        obtain ⟨d, hd, dz⟩ := dpAll_get dx i z hi
        rw [List.getElem?_map, Option.map_eq_some_iff] at hd
        obtain ⟨c, hc, rfl⟩ := hd
        refine ⟨rfl, yes_of ?_⟩
        refine ⟨_, rfl, _, rfl, _, rfl, _, rfl, r, l, road, z, rd, ls, c, rfl, er.tk (Tk.of sm), (Tk.of sm).seq el, h0, h1, dp_tk (Tk.of sm) _ _ (flat_gr c) dz, gg c (List.mem_of_getElem? hc), fun H2 s2 => ?_⟩
        refine ⟨_, s2 _ _ eD, by rw [List.length_map, List.length_replicate, sizeLine_eq]; omega, ?_, fun b o e => by rw [upd_ne (ne_of_none e nD)]; exact s2 _ _ (sm b o e), by omega⟩
        rw [upd_same, List.replicate_succ', List.map_append]
        rfl
      rintro H' ⟨eD, sm, _⟩
      refine ⟨D, _, rfl, SqL.of eD, ?_⟩
      have z : (List.replicate xs.length true).all id = true := by
        rw [List.all_eq_true]
        intro b hb
        rw [List.eq_of_mem_replicate hb]
        rfl
      rw [z]
      exact k H' sm
theorem ok_Rw {f : Addr} {fd : FuncData} {fPa : Addr} {fdPa : FuncData} {fHd : Addr} {fdHd : FuncData} {fGs : Addr} {fdGs : FuncData} (F : Fun K "is_row" "is_row" sRw f fd) (T : Bt mg) (CPa : Cal K mg "is_pair" fPa fdPa ["value"]) (GPa : FnOk P w K mg base CX0 2 fPa fdPa ["value"] (spPa K)) (CHd : Cal K mg "is_head" fHd fdHd ["roads", "labels", "value"]) (GHd : FnOk P w K mg base CX0 3 fHd fdHd ["roads", "labels", "value"] (spHd K)) (CGs : Cal K mg "is_groups" fGs fdGs ["roads", "labels", "road", "value"]) (GGs : FnOk P w K mg base CX0 5 fGs fdGs ["roads", "labels", "road", "value"] (spGs K)) : FnOk P w K mg base CX0 6 f fd ["roads", "labels", "value"] (spRw K) := by
  refine F.ok scRw (fun vs H Q E h => ?_) (fun cdv A outer s H vs Q E hr h => ?_)
  · obtain ⟨r, l, x, rd, ls, g, rfl, er, el, dg, ok, k⟩ := h
    rfl
  · obtain ⟨r, l, x, rd, ls, g, rfl, er, el, dg, ok, k⟩ := h
    have hr2 : Room 2 (A.deeper (envOfC "is_row" (defScope sRw) s.heap.objs.size f cdv)) := Room.mono hr (by decide)
    have hr3 : Room 3 (A.deeper (envOfC "is_row" (defScope sRw) s.heap.objs.size f cdv)) := Room.mono hr (by decide)
    have hr5 : Room 5 (A.deeper (envOfC "is_row" (defScope sRw) s.heap.objs.size f cdv)) := Room.mono hr (by decide)
    refine ⟨_, pss_cons (ps_if (PW.pt (pw_or (pt_not (pt_val (pe_call GPa hr2 (by rfl) CPa.g CPa.k CPa.b .nil pass0 (pa_cons (pv 2) pa_nil)))) (pw_or1 (pt_not (pt_val (pe_call GHd hr3 (by rfl) CHd.g CHd.k CHd.b .nil pass0 (pa_cons (pv 0) (pa_cons (pv 1) (pa_cons (pe_ix ix_tup (pv 2) pe_int (fun _ _ => rfl)) pa_nil))))))))) (pss_one (ps_ret pe_bl)) pss_nil)
      (pss_one (ps_ret (pe_call GGs hr5 (by rfl) CGs.g CGs.k CGs.b .nil pass0 (pa_cons (pv 0) (pa_cons (pv 1) (pa_cons (pe_ix ix_tup (pe_ix ix_tup (pv 2) pe_int (fun _ _ => rfl)) pe_int (fun _ _ => rfl)) (pa_cons (pe_ix ix_tup (pv 2) pe_int (fun _ _ => rfl)) pa_nil))))))), ?_⟩
    obtain ⟨p, xs, rfl, ep, dx⟩ := dp_of_tup dg
    obtain ⟨⟨i, y⟩, gs⟩ := g
    obtain ⟨o0, o1, o2, o3⟩ := ok
    cases dx with
    | cons d1 dx =>
      cases dx with
      | cons d2 dx =>
        cases dx
        obtain ⟨q, ys, rfl, eq, dy⟩ := dp_of_tup d1
        cases dy with
        | cons e1 dy =>
          cases dy with
          | cons e2 dy =>
            cases dy
            cases e1
            cases e2
            rename_i v2
            obtain ⟨ps, hr_, lp, pr⟩ := er.sq
            refine ⟨_, rfl, p, _, _, rfl, ep, _, rfl, iteF ?_⟩
            refine ⟨_, rfl, _, rfl, _, rfl, p, _, _, _, rfl, rfl, ep, (show atI [V.ref q, v2] 0 = some (V.ref q) from rfl), r, l, q, _, ls, i, y, rfl, hr_, el, eq, o0, by rw [List.length_map, lp]; exact o1, o2, _, rfl, iteF ?_⟩
            refine ⟨_, rfl, _, rfl, _, rfl, p, _, _, _, rfl, rfl, ep, (show atI [V.ref q, v2] 0 = some (V.ref q) from rfl), q, _, _, _, rfl, rfl, eq, (show atI [V.int i, V.str y] 0 = some (V.int i) from rfl), _, rfl, p, _, _, _, rfl, rfl, ep, (show atI [V.ref q, v2] 1 = some v2 from rfl), ?_⟩
            exact ⟨r, l, i, v2, rd, ls, gs, rfl, er, el, o0, o1, d2, o3, k⟩
theorem ok_Sh {f : Addr} {fd : FuncData} {fTu : Addr} {fdTu : FuncData} {fLb : Addr} {fdLb : FuncData} (F : Fun K "is_shape" "is_shape" sSh f fd) (T : Bt mg) (CTu : Cal K mg "is_tuple" fTu fdTu ["value", "least", "greatest"]) (GTu : FnOk P w K mg base CX0 1 fTu fdTu ["value", "least", "greatest"] (spTu K)) (CLb : Cal K mg "is_label" fLb fdLb ["labels", "value"]) (GLb : FnOk P w K mg base CX0 1 fLb fdLb ["labels", "value"] (spLb K)) : FnOk P w K mg base CX0 2 f fd ["labels", "value"] (spSh K) := by
  refine F.ok scSh (fun vs H Q E h => ?_) (fun cdv A outer s H vs Q E hr h => ?_)
  · obtain ⟨l, ls, x, rfl, el, small, h⟩ := h
    rfl
  · obtain ⟨l, ls, x, rfl, el, small, h⟩ := h
    have hr1 : Room 1 (A.deeper (envOfC "is_shape" (defScope sSh) s.heap.objs.size f cdv)) := Room.mono hr (by decide)
    obtain ⟨t6, e6⟩ := T.i6
    refine ⟨_, pss_cons (ps_if (pt_not (pt_val (pe_call GTu hr1 (by rfl) CTu.g CTu.k CTu.b .nil pass0 (pa_cons (pv 1) (pa_cons pe_int (pa_cons (pe_glob (v := V.int 6) (by rfl) e6 ⟨_, rfl⟩) pa_nil)))))) (pss_one (ps_ret pe_bl)) pss_nil)
      (pss_one (ps_ret (pe_callB (cr_all rfl) (by rfl) T.all (by decide +kernel) (pa_cons (pe_lc (own := [("item", 2)]) (g := gName 2) (tt := tYes) (te := tCall (spLb K) [] _ (tCons (tTup (tCons (tC (.str "any")) (tCons (tC (.str "all")) (StX.tStar K (tVar 0) tNil)))) (tCons (tVar 2) tNil))) rfl scSh.nd (pi_tup (pv 1)) (blkOk_by (N := ["labels", "value", "item"]) (sc := defScope sSh) (by decide +kernel)) (fun _ _ _ _ _ => pg_name (i := 2) scSh.nd rfl (.inl rfl)) (fun _ _ _ _ _ => pts_nil)
        (fun _ _ _ _ _ => (pe_call GLb hr1 (by rfl) CLb.g CLb.k CLb.b .nil pass0 (pa_cons (pe_tup (pa_cons pe_str (pa_cons pe_str (StX.pa_star (pv 0) pa_nil)))) (pa_cons (pv 2) pa_nil))))) pa_nil)))), ?_⟩
    have items : (∃ (p : Addr) (xs : List V) (fl : List Bool), x = .ref p ∧ SqT K H p xs ∧ xs.length = fl.length ∧ (∀ (i : Nat) (z : V), xs[i]? = some z → ∃ b, fl[i]? = some b ∧ ((∃ y, z = .str y ∧ b = decide (y ∈ (("any" :: "all" :: ls) : List Str))) ∨ ((∃ j : Int, z = .int j) ∨ ∃ q ys, z = .ref q ∧ SqT K H q ys) ∧ b = false)) ∧
        ∀ H', Same H H' → Q (.bl (decide (xs.length ≤ 6) && fl.all id)) H') ∨ (NotTup K H x ∧ ∀ H', Same H H' → Q (.bl false) H') := by
      rcases h with ⟨p, ws, rfl, ep, k⟩ | ⟨p, z, rfl, ep, hz, k⟩ | ⟨nt, k⟩
      · refine .inl ⟨p, _, ws.map fun y => decide (y ∈ (("any" :: "all" :: ls) : List Str)), rfl, ep, by simp, fun i z hz => ?_, fun H' sm => ?_⟩
        · rw [List.getElem?_map, Option.map_eq_some_iff] at hz
          obtain ⟨y, hy, rfl⟩ := hz
          exact ⟨decide (y ∈ (("any" :: "all" :: ls) : List Str)), by rw [List.getElem?_map, hy]; rfl, .inl ⟨y, rfl, rfl⟩⟩
        · have z := k H' sm
          rw [List.length_map, List.all_map]
          exact z
      · refine .inl ⟨p, _, [false], rfl, ep, rfl, fun i u hu => ?_, fun H' sm => ?_⟩
        · match i, hu with
          | 0, hu =>
            cases Option.some.inj hu
            exact ⟨false, rfl, .inr ⟨hz, rfl⟩⟩
          | i + 1, hu => simp at hu
        · have z := k H' sm
          show Q (.bl (decide (1 ≤ 6) && false)) H'
          rw [Bool.and_false]
          exact z
      · exact .inr ⟨nt, k⟩
    rcases items with ⟨p, xs, fl, rfl, ep, len, ans, k⟩ | ⟨nt, k⟩
    · refine ⟨_, rfl, .ref p, _, _, rfl, .inl ⟨p, xs, rfl, ep, by show (0 : Int) ≤ _; omega, _, rfl, ?_⟩⟩
      by_cases big : xs.length ≤ 6
      · rw [decide_eq_true (by show ((xs.length : Nat) : Int) ≤ 6; omega)]
        refine iteF ?_
        refine ⟨_, rfl, p, rfl, ⟨_, ep⟩, fun D nD => ?_⟩
        refine lc_tup (K := K) (a := p) (xs := xs) (fun i H' => H' D = some (.lst ((fl.take i).map V.bl)) ∧ Same H H') ⟨upd_same, same_upd nD⟩ (fun i H' _ ⟨_, sm⟩ => (Tk.of sm).seq ep) ?_ ?_
        · rintro i z H' hi ⟨eD, sm⟩
          obtain ⟨b, hb, an⟩ := ans i z hi
          refine ⟨rfl, yes_of ?_⟩
          refine ⟨_, rfl, l, _, rfl, .inl ((Tk.of sm).seq el), by rw [sizeLine_eq]; simp; omega, fun t nt => ?_⟩
          have s1 : Same H' (upd H' t (.tup ([V.str "any", V.str "all"] ++ (ls.map V.str ++ [])))) := same_upd nt
          have et : SqT K (upd H' t (.tup ([V.str "any", V.str "all"] ++ (ls.map V.str ++ [])))) t ((("any" :: "all" :: ls) : List Str).map V.str) := by
            have z := SqT.of (K := K) (upd_same (H := H') (a := t) (o := .tup ([V.str "any", V.str "all"] ++ (ls.map V.str ++ []))))
            rw [List.append_nil] at z
            rw [List.append_nil]
            exact z
          have done : ∃ acc, (upd H' t (.tup ([V.str "any", V.str "all"] ++ (ls.map V.str ++ [])))) D = some (.lst acc) ∧ acc.length < sizeLine ∧ (upd (upd H' t (.tup ([V.str "any", V.str "all"] ++ (ls.map V.str ++ [])))) D (.lst (acc ++ [V.bl b]))) D = some (.lst ((fl.take (i + 1)).map V.bl)) ∧ Same H (upd (upd H' t (.tup ([V.str "any", V.str "all"] ++ (ls.map V.str ++ [])))) D (.lst (acc ++ [V.bl b]))) := by
            refine ⟨_, s1 _ _ eD, ?_, ?_, fun c o e => by rw [upd_ne (ne_of_none e nD)]; exact s1 _ _ (sm c o e)⟩
            · rw [List.length_map, List.length_take, sizeLine_eq]
              omega
            · rw [upd_same, take_bl hb]
          refine ⟨_, rfl, t, _, z, rfl, et, ?_⟩
          rcases an with ⟨y, rfl, rfl⟩ | ⟨⟨j, rfl⟩ | ⟨q, ys, rfl, eq⟩, rfl⟩
          · exact .inl ⟨y, rfl, done⟩
          · exact .inr ⟨.inl ⟨j, rfl⟩, done⟩
          · exact .inr ⟨.inr ⟨q, ys, rfl, (Tk.of (sm.trans s1)).seq eq⟩, done⟩
        rintro H' ⟨eD, sm⟩
        rw [len, List.take_length] at eD
        refine ⟨D, fl, rfl, SqL.of eD, ?_⟩
        have z := k H' sm
        rw [decide_eq_true big, Bool.true_and] at z
        exact z
      · rw [decide_eq_false (by show ¬ ((xs.length : Nat) : Int) ≤ 6; omega)]
        have z := k H (Same.refl H)
        rw [decide_eq_false big, Bool.false_and] at z
        exact iteT z
    · refine ⟨_, rfl, x, _, _, rfl, .inr ⟨nt, _, rfl, iteT ?_⟩⟩
      exact k H (Same.refl H)
end
end Lr

namespace Lr
open PySem PySem.Spec PyProof.Rows L2

/-top-/
theorem cut_front {n i : Nat} (h : i < n) : ¬ (HT.sIx n 0 none = 0 ∧ HT.sIx n n (some (i : Int)) = n) := by
  rintro ⟨_, h2⟩
  have z : (if (i : Int) < 0 then ((i : Int) + (n : Int)).toNat else min (i : Int).toNat n) = n := h2
  rw [if_neg (by omega)] at z
  omega
theorem cutV_front {xs : List V} {i : Nat} (h : i < xs.length) : cutV xs none (some (i : Int)) = xs.take i := by
  have z0 : HT.sIx xs.length 0 none = 0 := rfl
  have z1 : HT.sIx xs.length xs.length (some (i : Int)) = i := by
    show (if (i : Int) < 0 then ((i : Int) + (xs.length : Int)).toNat else min (i : Int).toNat xs.length) = i
    rw [if_neg (by omega)]
    omega
  unfold cutV
  rw [z0, z1]
  rfl
theorem nodup_front {ls : List Str} (nd : ls.Nodup) {i : Nat} {x : Str} (h : ls[i]? = some x) : x ∉ ls.take i := by
  intro m
  obtain ⟨j, hj, e⟩ := List.getElem_of_mem m
  rw [List.length_take] at hj
  rw [List.getElem_take] at e
  obtain ⟨il, ex⟩ := List.getElem?_eq_some_iff.mp h
  exact (List.pairwise_iff_getElem.mp nd j i (by omega) il (by omega)) (e.trans ex.symm)
def spNR (K : PySem.W.Frag) : Sp := fun vs H Q _ => ∃ (r : Addr) (rd : List (Int × Int)), vs = [.ref r] ∧ RdAt K H r rd ∧ 1 ≤ rd.length ∧ rd.length ≤ 10 ∧ (∀ p ∈ rd, 0 ≤ p.1 ∧ p.1 ≤ 7 ∧ 0 ≤ p.2 ∧ p.2 ≤ 7) ∧ ∀ H', Same H H' → Q .non H'
def spNL (K : PySem.W.Frag) : Sp := fun vs H Q _ => ∃ (l : Addr) (ls : List Str), vs = [.ref l] ∧ LbAt K H l ls ∧ 1 ≤ ls.length ∧ ls.length ≤ 4 ∧ (∀ x ∈ ls, x ∈ L5) ∧ ls.Nodup ∧ ∀ H', Same H H' → Q .non H'
def spNW (K : PySem.W.Frag) : Sp := fun vs H Q _ => ∃ (r l : Addr) (x : V) (n : Nt), vs = [.ref r, .ref l, x] ∧ RdAt K H r n.roads ∧ LbAt K H l n.labels ∧ Dp K H x (.tuple (n.rows.map dRw)) ∧ NtOk n ∧ ∀ H', Same H H' → Q .non H'
def spNN (K : PySem.W.Frag) : Sp := fun vs H Q _ => ∃ (x : V) (n : Nt), vs = [x] ∧ Dp K H x (dNt n) ∧ NtOk n ∧ ∀ H', Same H H' → Q x H'
section
variable {P : Program} {w : World} {K : PySem.W.Frag} {mg : Str → Option Value} {base : Heap}
theorem scNR : FnScope ["roads", "place", "road"] ["roads"] (defScope sNR) := ⟨rfl, rfl, rfl, by decide +kernel, rfl, by decide +kernel, by decide +kernel⟩
theorem scNL : FnScope ["labels", "place", "label"] ["labels"] (defScope sNL) := ⟨rfl, rfl, rfl, by decide +kernel, rfl, by decide +kernel, by decide +kernel⟩
theorem scNW : FnScope ["roads", "labels", "rows", "place", "row"] ["roads", "labels", "rows"] (defScope sNW) := ⟨rfl, rfl, rfl, by decide +kernel, rfl, by decide +kernel, by decide +kernel⟩
theorem scNN : FnScope ["net", "roads", "labels", "rows"] ["net"] (defScope sNN) := ⟨rfl, rfl, rfl, by decide +kernel, rfl, by decide +kernel, by decide +kernel⟩
theorem ok_NR {f : Addr} {fd : FuncData} {fTu : Addr} {fdTu : FuncData} {fHp : Addr} {fdHp : FuncData} (F : Fun K "need_roads" "need_roads" sNR f fd) (T : Bt mg) (CTu : Cal K mg "is_tuple" fTu fdTu ["value", "least", "greatest"]) (GTu : FnOk P w K mg base CX0 1 fTu fdTu ["value", "least", "greatest"] (spTu K)) (CHp : Cal K mg "is_house_pair" fHp fdHp ["value"]) (GHp : FnOk P w K mg base CX0 3 fHp fdHp ["value"] (spHp K)) : FnOk P w K mg base CX0 4 f fd ["roads"] (spNR K) := by
  refine F.ok scNR (fun vs H Q E h => ?_) (fun cdv A outer s H vs Q E hr h => ?_)
  · obtain ⟨r, rd, rfl, er, n1, n2, hh, k⟩ := h
    rfl
  · obtain ⟨r, rd, rfl, er, n1, n2, hh, k⟩ := h
    have hr1 : Room 1 (A.deeper (envOfC "need_roads" (defScope sNR) s.heap.objs.size f cdv)) := Room.mono hr (by decide)
    have hr3 : Room 3 (A.deeper (envOfC "need_roads" (defScope sNR) s.heap.objs.size f cdv)) := Room.mono hr (by decide)
    obtain ⟨t10, e10⟩ := T.r10
    refine ⟨_, pss_cons (ps_if (pt_not (pt_val (pe_call GTu hr1 (by rfl) CTu.g CTu.k CTu.b .nil pass0 (pa_cons (pv 0) (pa_cons pe_int (pa_cons (pe_glob (v := V.int 10) (by rfl) e10 ⟨_, rfl⟩) pa_nil)))))) (pss_one ps_never) pss_nil)
      (pss_one (ps_for PassesOwn.never rfl (pi_enumT (by rfl) T.enum (pa_cons (pv 0) pa_nil)) (pg_tup (by rfl) (pgs_cons (pg_name (i := 1) scNR.nd rfl (.inl rfl)) (pgs_cons (pg_name (i := 2) scNR.nd rfl (.inl rfl)) pgs_nil)))
        (pss_one (ps_if (pt_not (pt_val (pe_call GHp hr3 (by rfl) CHp.g CHp.k CHp.b .nil pass0 (pa_cons (pv 2) pa_nil)))) (pss_one ps_never) pss_nil)))), ?_⟩
    obtain ⟨ps, hr_, lp, pr⟩ := er.sq
    refine ⟨_, rfl, .ref r, _, _, rfl, .inl ⟨r, _, rfl, hr_, by rw [List.length_map]; show (1 : Int) ≤ _; omega, _, rfl, ?_⟩⟩
    rw [decide_eq_true (by rw [List.length_map]; show ((ps.length : Nat) : Int) ≤ 10; omega)]
    refine iteF ?_
    refine ⟨_, rfl, r, _, rfl, hr_, for_it walk_enumT (fun i σ H' => ∃ u v : Option V, σ = [some (.ref r), u, v] ∧ Same H H') ⟨_, _, rfl, Same.refl H⟩ (fun i σ H' _ ⟨_, _, _, sm⟩ => (Tk.of sm).seq hr_) ?_ ?_⟩
    · rintro i x σ H' H2 hi ⟨u, v, rfl, sm⟩ ⟨t, x1, x2, rfl, nt, rfl, e1, e2⟩
      cases e1
      rw [List.length_map, lp] at hi
      obtain ⟨a, ha, hs⟩ := paired_at pr i rd[i] (List.getElem?_eq_getElem hi)
      dsimp only at e2
      rw [List.getElem?_map, ha] at e2
      cases e2
      obtain ⟨g1, g2, g3, g4⟩ := hh rd[i] (List.getElem_mem hi)
      refine ⟨t, _, rfl, SqT.of upd_same, rfl, _, _, rfl, _, _, rfl, rfl, ?_⟩
      refine ⟨_, rfl, a, _, _, rfl, (Tk.of (sm.trans (same_upd nt))).seq hs, g1, g2, g3, g4, _, rfl, iteF ?_⟩
      exact ⟨_, _, rfl, sm.trans (same_upd nt)⟩
    rintro σ H' ⟨u, v, rfl, sm⟩
    exact k _ sm
theorem ok_NL {f : Addr} {fd : FuncData} {fTu : Addr} {fdTu : FuncData} {fLa : Addr} {fdLa : FuncData} (F : Fun K "need_labels" "need_labels" sNL f fd) (T : Bt mg) (CTu : Cal K mg "is_tuple" fTu fdTu ["value", "least", "greatest"]) (GTu : FnOk P w K mg base CX0 1 fTu fdTu ["value", "least", "greatest"] (spTu K)) (CLa : Cal K mg "can_be_label" fLa fdLa ["value"]) (GLa : FnOk P w K mg base CX0 2 fLa fdLa ["value"] spWo) : FnOk P w K mg base CX0 3 f fd ["labels"] (spNL K) := by
  refine F.ok scNL (fun vs H Q E h => ?_) (fun cdv A outer s H vs Q E hr h => ?_)
  · obtain ⟨l, ls, rfl, el, n1, n2, w5, nd, k⟩ := h
    rfl
  · obtain ⟨l, ls, rfl, el, n1, n2, w5, nd, k⟩ := h
    have hr1 : Room 1 (A.deeper (envOfC "need_labels" (defScope sNL) s.heap.objs.size f cdv)) := Room.mono hr (by decide)
    have hr2 : Room 2 (A.deeper (envOfC "need_labels" (defScope sNL) s.heap.objs.size f cdv)) := Room.mono hr (by decide)
    obtain ⟨t4, e4⟩ := T.l4
    refine ⟨_, pss_cons (ps_if (pt_not (pt_val (pe_call GTu hr1 (by rfl) CTu.g CTu.k CTu.b .nil pass0 (pa_cons (pv 0) (pa_cons pe_int (pa_cons (pe_glob (v := V.int 4) (by rfl) e4 ⟨_, rfl⟩) pa_nil)))))) (pss_one ps_never) pss_nil)
      (pss_one (ps_for PassesOwn.never rfl (pi_enumT (by rfl) T.enum (pa_cons (pv 0) pa_nil)) (pg_tup (by rfl) (pgs_cons (pg_name (i := 1) scNL.nd rfl (.inl rfl)) (pgs_cons (pg_name (i := 2) scNL.nd rfl (.inl rfl)) pgs_nil)))
        (pss_one (ps_if (PW.pt (pw_or (pt_not (pt_val (pe_call GLa hr2 (by rfl) CLa.g CLa.k CLa.b .nil pass0 (pa_cons (pv 2) pa_nil)))) (pw_or1 (pt_cmpR op_in_seq (pv 2) (pe_slice sl_tup (pv 0) po_none (po_some (pv 1))) (by rfl))))) (pss_one ps_never) pss_nil)))), ?_⟩
    refine ⟨_, rfl, .ref l, _, _, rfl, .inl ⟨l, _, rfl, el, by rw [List.length_map]; show (1 : Int) ≤ _; omega, _, rfl, ?_⟩⟩
    rw [decide_eq_true (by rw [List.length_map]; show ((ls.length : Nat) : Int) ≤ 4; omega)]
    refine iteF ?_
    refine ⟨_, rfl, l, _, rfl, el, for_it walk_enumT (fun i σ H' => ∃ u v : Option V, σ = [some (.ref l), u, v] ∧ Same H H') ⟨_, _, rfl, Same.refl H⟩ (fun i σ H' _ ⟨_, _, _, sm⟩ => (Tk.of sm).seq el) ?_ ?_⟩
    · rintro i x σ H' H2 hi ⟨u, v, rfl, sm⟩ ⟨t, x1, x2, rfl, nt, rfl, e1, e2⟩
      cases e1
      have hm := hi
      rw [List.length_map] at hi
      dsimp only at e2
      rw [List.getElem?_map, List.getElem?_eq_getElem hi] at e2
      cases e2
      refine ⟨t, _, rfl, SqT.of upd_same, rfl, _, _, rfl, _, _, rfl, rfl, ?_⟩
      refine ⟨_, rfl, _, rfl, w5 _ (List.getElem_mem hi), fun H3 s3 => ⟨_, rfl, iteF ?_⟩⟩
      have sm3 := (sm.trans (same_upd nt)).trans s3
      refine ⟨_, rfl, _, rfl, _, rfl, _, rfl, l, _, rfl, (Tk.of sm3).seq el, cut_front hm, fun p np => ?_⟩
      have flat : (cutV (ls.map V.str) none (some (i : Int))).all flatV = true := by
        rw [cutV_front hm, ← List.map_take]
        exact flat_strs _
      have ans : (if false = true then !inV (V.str ls[i]) (cutV (ls.map V.str) none (some (i : Int))) else inV (V.str ls[i]) (cutV (ls.map V.str) none (some (i : Int)))) = false := by
        show inV (V.str ls[i]) (cutV (ls.map V.str) none (some (i : Int))) = false
        rw [cutV_front hm, ← List.map_take, inV_strs]
        exact decide_eq_false (nodup_front nd (List.getElem?_eq_getElem hi))
      refine ⟨p, _, rfl, .inr (SqT.of upd_same), rfl, flat, _, rfl, ifF ans ?_⟩
      exact ⟨_, _, rfl, sm3.trans (same_upd np)⟩
    rintro σ H' ⟨u, v, rfl, sm⟩
    exact k _ sm
theorem ok_NW {f : Addr} {fd : FuncData} {fTu : Addr} {fdTu : FuncData} {fRw : Addr} {fdRw : FuncData} (F : Fun K "need_rows" "need_rows" sNW f fd) (T : Bt mg) (CTu : Cal K mg "is_tuple" fTu fdTu ["value", "least", "greatest"]) (GTu : FnOk P w K mg base CX0 1 fTu fdTu ["value", "least", "greatest"] (spTu K)) (CRw : Cal K mg "is_row" fRw fdRw ["roads", "labels", "value"]) (GRw : FnOk P w K mg base CX0 6 fRw fdRw ["roads", "labels", "value"] (spRw K)) : FnOk P w K mg base CX0 7 f fd ["roads", "labels", "rows"] (spNW K) := by
  refine F.ok scNW (fun vs H Q E h => ?_) (fun cdv A outer s H vs Q E hr h => ?_)
  · obtain ⟨r, l, x, n, rfl, er, el, dx, ok, k⟩ := h
    rfl
  · obtain ⟨r, l, x, n, rfl, er, el, dx, ok, k⟩ := h
    have hr1 : Room 1 (A.deeper (envOfC "need_rows" (defScope sNW) s.heap.objs.size f cdv)) := Room.mono hr (by decide)
    have hr6 : Room 6 (A.deeper (envOfC "need_rows" (defScope sNW) s.heap.objs.size f cdv)) := Room.mono hr (by decide)
    have hu : (A.deeper (envOfC "need_rows" (defScope sNW) s.heap.objs.size f cdv)).units < cLine := by
      have z := hr.un
      omega
    refine ⟨_, pss_cons (ps_if (pt_not (pt_val (pe_call GTu hr1 (by rfl) CTu.g CTu.k CTu.b .nil pass0 (pa_cons (pv 2) (pa_cons pe_int (pa_cons (pe_op op_mul (pe_callB call_len_seq (by rfl) T.len PySem.boot_len (pa_cons (pv 0) pa_nil)) (pe_op op_add (pe_callB call_len_seq (by rfl) T.len PySem.boot_len (pa_cons (pv 1) pa_nil)) pe_int)) pa_nil)))))) (pss_one ps_never) pss_nil)
      (pss_one (ps_for PassesOwn.never rfl (pi_enumT (by rfl) T.enum (pa_cons (pv 2) pa_nil)) (pg_tup (by rfl) (pgs_cons (pg_name (i := 3) scNW.nd rfl (.inl rfl)) (pgs_cons (pg_name (i := 4) scNW.nd rfl (.inl rfl)) pgs_nil)))
        (pss_one (ps_if (PW.pt (pw_or (pt_not (pt_val (pe_call GRw hr6 (by rfl) CRw.g CRw.k CRw.b .nil pass0 (pa_cons (pv 0) (pa_cons (pv 1) (pa_cons (pv 4) pa_nil)))))) (pw_or1 (PW.pt (pw_and (pt_cmpR op_gt (pv 3) pe_int (nomark _)) (pw_and1 (pt_cmpR (op_leP hu) (pe_ix ix_tup (pv 4) pe_int (fun _ _ => rfl)) (pe_ix ix_tup (pe_ix ix_tup (pv 2) (pe_op op_sub (pv 3) pe_int) (fun _ _ => rfl)) pe_int (fun _ _ => rfl)) (nomark _)))))))) (pss_one ps_never) pss_nil)))), ?_⟩
    obtain ⟨e, xs, rfl, ee, dxs⟩ := dp_of_tup dx
    obtain ⟨rows, hrow, lrow, prow⟩ : ∃ ps : List Addr, xs = ps.map V.ref ∧ ps.length = n.rows.length ∧ Paired (fun p a => Dp K H (.ref p) (dRw a)) ps n.rows := by
      obtain ⟨ps, e1, pr⟩ := refs_of dRw (fun a => ⟨_, rfl⟩) dxs
      exact ⟨ps, e1, paired_len pr, pr⟩
    subst hrow
    obtain ⟨ps, hr_, lp, pr⟩ := er.sq
    have rb := ok.r2
    have lb := ok.l2
    refine ⟨_, rfl, _, rfl, r, _, rfl, .inr hr_, _, rfl, l, _, rfl, .inr el, _, _, rfl, rfl, _, _, rfl, rfl, .inl ⟨by rw [List.length_map]; omega, by rw [List.length_map]; omega⟩, ?_⟩
    refine ⟨.ref e, _, _, rfl, .inl ⟨e, _, rfl, ee, by show (0 : Int) ≤ _; omega, _, rfl, ?_⟩⟩
    rw [decide_eq_true (by rw [List.length_map, List.length_map, List.length_map, lrow, lp]; have z := ok.w1; show ((n.rows.length : Nat) : Int) ≤ ((n.roads.length : Nat) : Int) * (((n.labels.length : Nat) : Int) + 1); exact_mod_cast z)]
    refine iteF ?_
    -- the head of a row
    have head : ∀ (j : Nat) (a : Addr) (q : Rwt), rows[j]? = some a → n.rows[j]? = some q → ∃ (h : Addr) (z : V), SqT K H a [.ref h, z] ∧ SqT K H h [.int q.1.1, .str q.1.2] := fun j a q ha hq => by
      obtain ⟨b, hb, hd⟩ := paired_get prow j a ha
      rw [hq] at hb
      cases hb
      obtain ⟨p, ys, ep, hp, hy⟩ := dp_of_tup hd
      cases ep
      cases hy with
      | cons y1 hy =>
        cases hy with
        | cons y2 hy =>
          cases hy
          obtain ⟨h, zs, eh, hh, hz⟩ := dp_of_tup y1
          subst eh
          cases hz with
          | cons z1 hz =>
            cases hz with
            | cons z2 hz =>
              cases hz
              cases z1
              cases z2
              exact ⟨h, _, hp, hh⟩
    refine ⟨_, rfl, e, _, rfl, ee, for_it walk_enumT (fun i σ H' => ∃ u v : Option V, σ = [some (.ref r), some (.ref l), some (.ref e), u, v] ∧ Same H H') ⟨_, _, rfl, Same.refl H⟩ (fun i σ H' _ ⟨_, _, _, sm⟩ => (Tk.of sm).seq ee) ?_ ?_⟩
    · rintro i x σ H' H2 hi ⟨u, v, rfl, sm⟩ ⟨t, x1, x2, rfl, nt, rfl, e1, e2⟩
      cases e1
      rw [List.length_map, lrow] at hi
      have hq := List.getElem?_eq_getElem hi
      obtain ⟨a, ha, hd⟩ := paired_at prow i n.rows[i] hq
      dsimp only at e2
      rw [List.getElem?_map, ha] at e2
      cases e2
      have sm2 := sm.trans (same_upd (o := .tup [.int (i : Nat), .ref a]) nt)
      refine ⟨t, _, rfl, SqT.of upd_same, rfl, _, _, rfl, _, _, rfl, rfl, ?_⟩
      refine ⟨_, rfl, _, rfl, _, rfl, r, l, .ref a, n.roads, n.labels, n.rows[i], rfl, er.tk (Tk.of sm2), (Tk.of sm2).seq el, dp_tk (Tk.of sm2) _ _ (flat_rw _) hd, ok.ro _ (List.getElem_mem hi), fun H3 s3 => ⟨_, rfl, iteF ?_⟩⟩
      have sm3 := sm2.trans s3
      refine ⟨_, rfl, _, _, rfl, rfl, _, rfl, ?_⟩
      by_cases i0 : i = 0
      · subst i0
        exact ifF (by decide) (iteF ⟨_, _, rfl, sm3⟩)
      · obtain ⟨j, rfl⟩ : ∃ j, i = j + 1 := ⟨i - 1, by omega⟩
        refine ifT (decide_eq_true (by omega)) ?_
        have hj : j < n.rows.length := by omega
        obtain ⟨a0, ha0, hd0⟩ := paired_at prow j n.rows[j] (List.getElem?_eq_getElem hj)
        obtain ⟨h1, z1, s1, t1⟩ := head (j + 1) a _ ha hq
        obtain ⟨h0, z0, s0, t0⟩ := head j a0 _ ha0 (List.getElem?_eq_getElem hj)
        refine ⟨_, rfl, a, _, _, _, rfl, rfl, (Tk.of sm3).seq s1, (show atI [V.ref h1, z1] 0 = some (V.ref h1) from rfl), ?_⟩
        refine ⟨_, rfl, _, rfl, _, _, rfl, rfl, e, _, _, _, rfl, rfl, (Tk.of sm3).seq ee, ?_, a0, _, _, _, rfl, rfl, (Tk.of sm3).seq s0, (show atI [V.ref h0, z0] 0 = some (V.ref h0) from rfl), ?_⟩
        · have ej : (((j + 1 : Nat) : Int) - 1) = ((j : Nat) : Int) := by omega
          rw [ej]
          exact atI_nat (by rw [List.getElem?_map, ha0]; rfl)
        · refine ⟨h1, h0, _, _, rfl, rfl, (Tk.of sm3).seq t1, (Tk.of sm3).seq t0, _, rfl, ?_⟩
          have z := ok.asc j _ _ (List.getElem?_eq_getElem hj) hq
          exact ifF z ⟨_, _, rfl, sm3⟩
    rintro σ H' ⟨u, v, rfl, sm⟩
    exact k _ sm
theorem ok_NN {f : Addr} {fd : FuncData} {fTu : Addr} {fdTu : FuncData} {fNR : Addr} {fdNR : FuncData} {fNL : Addr} {fdNL : FuncData} {fNW : Addr} {fdNW : FuncData} (F : Fun K "need_net" "need_net" sNN f fd) (T : Bt mg) (CTu : Cal K mg "is_tuple" fTu fdTu ["value", "least", "greatest"]) (GTu : FnOk P w K mg base CX0 1 fTu fdTu ["value", "least", "greatest"] (spTu K)) (CNR : Cal K mg "need_roads" fNR fdNR ["roads"]) (GNR : FnOk P w K mg base CX0 4 fNR fdNR ["roads"] (spNR K)) (CNL : Cal K mg "need_labels" fNL fdNL ["labels"]) (GNL : FnOk P w K mg base CX0 3 fNL fdNL ["labels"] (spNL K)) (CNW : Cal K mg "need_rows" fNW fdNW ["roads", "labels", "rows"]) (GNW : FnOk P w K mg base CX0 7 fNW fdNW ["roads", "labels", "rows"] (spNW K)) : FnOk P w K mg base CX0 8 f fd ["net"] (spNN K) := by
  refine F.ok scNN (fun vs H Q E h => ?_) (fun cdv A outer s H vs Q E hr h => ?_)
  · obtain ⟨x, n, rfl, dx, ok, k⟩ := h
    rfl
  · obtain ⟨x, n, rfl, dx, ok, k⟩ := h
    have hr1 : Room 1 (A.deeper (envOfC "need_net" (defScope sNN) s.heap.objs.size f cdv)) := Room.mono hr (by decide)
    have hr3 : Room 3 (A.deeper (envOfC "need_net" (defScope sNN) s.heap.objs.size f cdv)) := Room.mono hr (by decide)
    have hr4 : Room 4 (A.deeper (envOfC "need_net" (defScope sNN) s.heap.objs.size f cdv)) := Room.mono hr (by decide)
    have hr7 : Room 7 (A.deeper (envOfC "need_net" (defScope sNN) s.heap.objs.size f cdv)) := Room.mono hr (by decide)
    refine ⟨_, pss_cons (ps_if (pt_not (pt_val (pe_call GTu hr1 (by rfl) CTu.g CTu.k CTu.b .nil pass0 (pa_cons (pv 0) (pa_cons pe_int (pa_cons pe_int pa_nil)))))) (pss_one ps_never) pss_nil)
      (pss_cons (ps_asg (pv 0) (pg_tup (by rfl) (pgs_cons (pg_name (i := 1) scNN.nd rfl (.inl rfl)) (pgs_cons (pg_name (i := 2) scNN.nd rfl (.inl rfl)) (pgs_cons (pg_name (i := 3) scNN.nd rfl (.inl rfl)) pgs_nil)))))
      (pss_cons (ps_expr (pe_call GNR hr4 (by rfl) CNR.g CNR.k CNR.b .nil pass0 (pa_cons (pv 1) pa_nil)))
      (pss_cons (ps_expr (pe_call GNL hr3 (by rfl) CNL.g CNL.k CNL.b .nil pass0 (pa_cons (pv 2) pa_nil)))
      (pss_cons (ps_expr (pe_call GNW hr7 (by rfl) CNW.g CNW.k CNW.b .nil pass0 (pa_cons (pv 1) (pa_cons (pv 2) (pa_cons (pv 3) pa_nil)))))
      (pss_one (ps_ret (pv 0))))))), ?_⟩
    obtain ⟨p, xs, rfl, ep, dxs⟩ := dp_of_tup dx
    cases dxs with
    | cons d1 dxs =>
      cases dxs with
      | cons d2 dxs =>
        cases dxs with
        | cons d3 dxs =>
          cases dxs
          obtain ⟨r, _, rfl, _, _⟩ := dp_of_tup d1
          obtain ⟨l, ys, rfl, el, dl⟩ := dp_of_tup d2
          have eys := strs_dp dl
          subst eys
          refine ⟨_, rfl, .ref p, _, _, rfl, .inl ⟨p, _, rfl, ep, by show (3 : Int) ≤ 3; decide, _, rfl, iteF ?_⟩⟩
          refine ⟨_, rfl, p, _, rfl, ep, rfl, _, _, rfl, _, _, rfl, _, _, rfl, rfl, ?_⟩
          refine ⟨_, rfl, r, n.roads, rfl, d1, ok.r1, ok.r2, ok.rh, fun H1 s1 => ?_⟩
          refine ⟨_, rfl, l, n.labels, rfl, (Tk.of s1).seq el, ok.l1, ok.l2, ok.lw, ok.ln, fun H2 s2 => ?_⟩
          have s12 := s1.trans s2
          refine ⟨_, rfl, _, rfl, _, rfl, r, l, _, n, rfl, RdAt.tk d1 (Tk.of s12), (Tk.of s12).seq el, dp_tk (Tk.of s12) _ _ (flat_map _ flat_rw _) d3, ok, fun H3 s3 => ?_⟩
          exact ⟨_, rfl, k _ (s12.trans s3)⟩
end
end Lr

namespace Lr
open PySem PySem.Spec PyProof.Rows L2

/-top-/
/-- the numbers of items to which a label leads, from the item p on -/
def leadsGo (label : Str) : List Str → Nat → List Int
  | [], _ => []
  | it :: rest, p => if it = "all" then (p : Int) :: leadsGo label rest (p + 1) else if it = "any" ∨ it = label then [(p : Int) + 1] else []
def leadsI (shape : List Str) (d : Int) (label : Str) : List Int := leadsGo label (shape.drop d.toNat) d.toNat
def mayEnd (shape : List Str) (d : Int) : Bool := (shape.drop d.toNat).all fun it => decide (it = "all")
/-- whether the stack can be laid along the shape from there on -/
def canFit (shape : List Str) : List Str → Int → Bool
  | [], d => mayEnd shape d
  | l :: s, d => (leadsI shape d l).any (canFit shape s)
theorem leadsGo_bd (label : Str) : ∀ (items : List Str) (p : Nat), ∀ z ∈ leadsGo label items p, (p : Int) ≤ z ∧ z ≤ (p : Int) + items.length
  | [], p, z, h => by simp [leadsGo] at h
  | it :: rest, p, z, h => by
    unfold leadsGo at h
    rw [List.length_cons]
    split at h
    · rcases List.mem_cons.mp h with e | h
      · omega
      · have := leadsGo_bd label rest (p + 1) z h
        omega
    · split at h
      · have e := List.mem_singleton.mp h
        omega
      · simp at h
theorem leadsGo_len (label : Str) : ∀ (items : List Str) (p : Nat), (leadsGo label items p).length ≤ items.length
  | [], p => by simp [leadsGo]
  | it :: rest, p => by
    unfold leadsGo
    have := leadsGo_len label rest (p + 1)
    split
    · simp only [List.length_cons]
      omega
    · split <;> simp
theorem leadsI_bd {shape : List Str} {d : Int} {label : Str} (h0 : 0 ≤ d) (h1 : d ≤ shape.length) : ∀ z ∈ leadsI shape d label, 0 ≤ z ∧ z ≤ shape.length := by
  intro z h
  have k := leadsGo_bd label _ _ z h
  rw [List.length_drop] at k
  omega
theorem leadsI_len (shape : List Str) (d : Int) (label : Str) : (leadsI shape d label).length ≤ shape.length := by
  have k := leadsGo_len label (shape.drop d.toNat) d.toNat
  rw [List.length_drop] at k
  unfold leadsI
  omega
def spLe (K : PySem.W.Frag) : Sp := fun vs H Q _ => ∃ (sh : Addr) (shape : List Str) (d : Int) (label : Str), vs = [.ref sh, .int d, .str label] ∧ SqT K H sh (shape.map V.str) ∧ shape.length ≤ 100 ∧ 0 ≤ d ∧ d ≤ shape.length ∧
  ∀ (H' : Hp) (p : Addr), Same H H' → H' p = some (.tup ((leadsI shape d label).map V.int)) → Q (.ref p) H'
def spMe (K : PySem.W.Frag) : Sp := fun vs H Q _ => ∃ (sh : Addr) (shape : List Str) (d : Int), vs = [.ref sh, .int d] ∧ SqT K H sh (shape.map V.str) ∧ shape.length ≤ 100 ∧ 0 ≤ d ∧ d ≤ shape.length ∧ ∀ H', Same H H' → Q (.bl (mayEnd shape d)) H'
def spHs (K : PySem.W.Frag) : Sp := fun vs H Q _ => ∃ (sh st : Addr) (shape stack : List Str), vs = [.ref sh, .ref st] ∧ SqT K H sh (shape.map V.str) ∧ SqT K H st (stack.map V.str) ∧ shape.length ≤ 6 ∧ ∀ H', Same H H' → Q (.bl (canFit shape stack 0)) H'
theorem str_at {ls : List Str} {i : Nat} {x : Str} (h : ls[i]? = some x) : atI (ls.map V.str) ((i : Nat) : Int) = some (V.str x) := atI_nat (by rw [List.getElem?_map, h]; rfl)
/-- a walk over what is a list or a tuple -/
theorem pi_or {X : Cx} {tg it : Expr} {t1 t2 : TI} (h1 : PI X tg it t1) (h2 : PI X tg it t2) : PI X tg it (fun σ H R => t1 σ H R ∨ t2 σ H R) := ⟨fun pins s σ H R I h => by
  rcases h with h | h
  · exact h1.run pins s σ H R I h
  · exact h2.run pins s σ H R I h⟩
section
variable {P : Program} {w : World} {K : PySem.W.Frag} {mg : Str → Option Value} {base : Heap}
theorem scLe : FnScope ["shape", "done", "label", "found", "place"] ["shape", "done", "label"] (defScope sLe) := ⟨rfl, rfl, rfl, by decide +kernel, rfl, by decide +kernel, by decide +kernel⟩
theorem scMe : FnScope ["shape", "done", "item"] ["shape", "done"] (defScope sMe) := ⟨rfl, rfl, rfl, by decide +kernel, rfl, by decide +kernel, by decide +kernel⟩
theorem ok_Le {f : Addr} {fd : FuncData} (F : Fun K "leads" "leads" sLe f fd) (T : Bt mg) : FnOk P w K mg base CX0 1 f fd ["shape", "done", "label"] (spLe K) := by
  refine F.ok scLe (fun vs H Q E h => ?_) (fun cdv A outer s H vs Q E hr h => ?_)
  · obtain ⟨sh, shape, d, label, rfl, es, small, d0, d1, k⟩ := h
    rfl
  · obtain ⟨sh, shape, d, label, rfl, es, small, d0, d1, k⟩ := h
    refine ⟨_, pss_cons (ps_set (i := 3) scLe.nd rfl (.inl rfl) (pe_lst pa_nil))
      (pss_cons (ps_for PassesOwn.never rfl (pi_range2 (by rfl) T.range (pa_cons (pv 1) (pa_cons (pe_callB call_len_seq (by rfl) T.len PySem.boot_len (pa_cons (pv 0) pa_nil)) pa_nil))) (pg_name (i := 4) scLe.nd rfl (.inl rfl))
        (pss_cons (ps_if (pt_cmpR op_ne (pe_ix ix_tup (pv 0) (pv 4) (fun _ _ => rfl)) pe_str (nomark _))
            (pss_cons (ps_if (pt_cmpR op_in_seq (pe_ix ix_tup (pv 0) (pv 4) (fun _ _ => rfl)) (pe_tup (pa_cons pe_str (pa_cons (pv 2) pa_nil))) (by rfl))
                (pss_one (ps_expr (pe_bm PySem.F.plainAttrs_list PySem.F.slot_list_append PySem.F.type_list_append mt_append (pv 3) (pa_cons (pe_op op_add (pv 4) pe_int) pa_nil)))) pss_nil)
              (pss_one ps_break)) pss_nil)
          (pss_one (ps_expr (pe_bm PySem.F.plainAttrs_list PySem.F.slot_list_append PySem.F.type_list_append mt_append (pv 3) (pa_cons (pv 4) pa_nil))))))
      (pss_one (ps_ret (pe_callTy call_tuple_of (by rfl) T.tuple (by decide +kernel) (pa_cons (pv 3) pa_nil))))), ?_⟩
    refine ⟨by show 0 ≤ sizeLine; exact Nat.zero_le _, fun D nD => ?_⟩
    have sm0 : Same H (upd H D (.lst [])) := same_upd nD
    refine ⟨_, rfl, _, rfl, sh, _, rfl, .inr ((Tk.of sm0).seq es), d, ((shape.map V.str).length : Nat), rfl, ⟨by omega, by omega, by rw [List.length_map]; omega, by rw [List.length_map]; omega⟩, ?_⟩
    have en : (((shape.map V.str).length : Nat) - d : Int).toNat = shape.length - d.toNat := by
      rw [List.length_map]
      omega
    rw [en]
    have out : ∀ H', Same H H' → H' D = some (.lst ((leadsI shape d label).map V.int)) → (∀ l, H' l = none → Q (.ref l) (upd H' l (.tup ((leadsI shape d label).map V.int)))) := fun H' sm eD l nl => k _ l (sm.trans (same_upd nl)) upd_same
    refine for_range (lo := d) (n := shape.length - d.toNat) (fun i σ H' => ∃ (u : Option V) (acc : List Int), σ = [some (.ref sh), some (.int d), some (.str label), some (.ref D), u] ∧ Same H H' ∧ H' D = some (.lst (acc.map V.int)) ∧ acc.length ≤ i ∧ acc ++ leadsGo label (shape.drop (d.toNat + i)) (d.toNat + i) = leadsI shape d label) ⟨none, [], rfl, sm0, upd_same, Nat.le_refl _, rfl⟩ ?_ ?_
    · rintro i σ H' hi ⟨u, acc, rfl, sm, eD, la, ea⟩
      have lt : d.toNat + i < shape.length := by omega
      have ei := List.getElem?_eq_getElem lt
      have ed : d + (i : Int) = ((d.toNat + i : Nat) : Int) := by omega
      have at_i : atI (shape.map V.str) (d + (i : Int)) = some (V.str shape[d.toNat + i]) := by
        rw [ed]
        exact str_at ei
      rw [List.drop_eq_getElem_cons lt] at ea
      generalize shape[d.toNat + i] = it at at_i ea
      unfold leadsGo at ea
      have push : ∀ (G : Hp) (y : Int), Same H' G → ∃ G' : Hp, G' = upd G D (.lst (acc.map V.int ++ [V.int y])) ∧ Same H G' ∧ G' D = some (.lst ((acc ++ [y]).map V.int)) := fun G y sg => by
        refine ⟨_, rfl, fun b o e => ?_, ?_⟩
        · rw [upd_ne (ne_of_none e nD)]
          exact sg _ _ (sm b o e)
        · rw [upd_same, List.map_append]
          rfl
      refine ⟨_, rfl, _, rfl, sh, _, _, _, rfl, rfl, (Tk.of sm).seq es, at_i, ?_⟩
      refine ⟨rfl, _, rfl, ?_⟩
      by_cases e1 : it = "all"
      · subst e1
        rw [if_pos rfl] at ea
        refine ifF (by rw [decide_eq_true rfl]; rfl) ?_
        refine ⟨_, rfl, .inl ⟨rfl, _, SqL.of eD⟩, _, rfl, D, _, _, rfl, rfl, eD, by rw [List.length_map, sizeLine_eq]; omega, ?_⟩
        obtain ⟨G', eG, sG, dG⟩ := push H' (d + (i : Int)) (Same.refl H')
        rw [← eG]
        refine ⟨_, acc ++ [d + (i : Int)], rfl, sG, dG, by simp; omega, ?_⟩
        rw [List.append_assoc, ed]
        exact ea
      · rw [if_neg e1] at ea
        refine ifT (by rw [decide_eq_false (fun z => e1 (by injection z))]; rfl) ?_
        refine ⟨_, rfl, _, rfl, sh, _, _, _, rfl, rfl, (Tk.of sm).seq es, at_i, ?_⟩
        refine ⟨_, rfl, by show 2 ≤ sizeLine; rw [sizeLine_eq]; decide, fun t nt => ?_⟩
        have s1 : Same H' (upd H' t (.tup [.str "any", .str label])) := same_upd nt
        refine ⟨t, _, rfl, .inr (SqT.of upd_same), rfl, rfl, _, rfl, ?_⟩
        have ans : (if false = true then !inV (V.str it) [V.str "any", V.str label] else inV (V.str it) [V.str "any", V.str label]) = decide (it = "any" ∨ it = label) := by
          show inV (V.str it) ((["any", label] : List Str).map V.str) = _
          rw [inV_strs]
          simp
        by_cases e2 : it = "any" ∨ it = label
        · rw [if_pos e2] at ea
          refine ifT (ans.trans (decide_eq_true e2)) ?_
          refine ⟨_, rfl, .inl ⟨rfl, _, SqL.of (s1 _ _ eD)⟩, _, rfl, _, _, rfl, rfl, D, _, _, rfl, rfl, s1 _ _ eD, by rw [List.length_map, sizeLine_eq]; omega, ?_⟩
          obtain ⟨G', eG, sG, dG⟩ := push _ (d + (i : Int) + 1) s1
          rw [← eG]
          rw [ed] at dG
          rw [ea] at dG
          exact ⟨_, rfl, D, _, rfl, .inl ⟨SqL.of dG, out G' sG dG⟩⟩
        · rw [if_neg e2, List.append_nil] at ea
          refine ifF (ans.trans (decide_eq_false e2)) ?_
          have dG := s1 _ _ eD
          rw [ea] at dG
          exact ⟨_, rfl, D, _, rfl, .inl ⟨SqL.of dG, out _ (sm.trans s1) dG⟩⟩
    rintro σ H' ⟨u, acc, rfl, sm, eD, la, ea⟩
    have e0 : shape.drop (d.toNat + (shape.length - d.toNat)) = [] := List.drop_of_length_le (by omega)
    rw [e0] at ea
    unfold leadsGo at ea
    rw [List.append_nil] at ea
    rw [ea] at eD
    exact ⟨_, rfl, D, _, rfl, .inl ⟨SqL.of eD, out _ sm eD⟩⟩
theorem ok_Me {f : Addr} {fd : FuncData} (F : Fun K "may_end" "may_end" sMe f fd) (T : Bt mg) : FnOk P w K mg base CX0 1 f fd ["shape", "done"] (spMe K) := by
  refine F.ok scMe (fun vs H Q E h => ?_) (fun cdv A outer s H vs Q E hr h => ?_)
  · obtain ⟨sh, shape, d, rfl, es, small, d0, d1, k⟩ := h
    rfl
  · obtain ⟨sh, shape, d, rfl, es, small, d0, d1, k⟩ := h
    refine ⟨_, pss_one (ps_ret (pe_callB (cr_all rfl) (by rfl) T.all (by decide +kernel) (pa_cons (pe_lc (own := [("item", 2)]) (g := gName 2) (tt := tYes) rfl scMe.nd (pi_tup (pe_slice sl_tupA (pv 0) (po_some (pv 1)) po_none)) (blkOk_by (N := ["shape", "done", "item"]) (sc := defScope sMe) (by decide +kernel)) (fun _ _ _ _ _ => pg_name (i := 2) scMe.nd rfl (.inl rfl)) (fun _ _ _ _ _ => pts_nil)
        (fun _ _ _ _ _ => (pe_cmpR op_eq (pv 2) pe_str (nomark _)))) pa_nil))), ?_⟩
    have cut : cutV (shape.map V.str) (some d) none = (shape.drop d.toNat).map V.str := by
      have z1 : HT.sIx (shape.map V.str).length 0 (some d) = d.toNat := by
        show (if d < 0 then (d + ((shape.map V.str).length : Int)).toNat else min d.toNat (shape.map V.str).length) = _
        rw [if_neg (by omega), List.length_map]
        omega
      have z2 : HT.sIx (shape.map V.str).length (shape.map V.str).length none = (shape.map V.str).length := rfl
      unfold cutV
      rw [z1, z2, ← List.map_drop]
      exact List.take_of_length_le (by rw [List.length_map, List.length_map, List.length_drop]; omega)
    have whole : HT.sIx (shape.map V.str).length 0 (some d) = 0 → shape.drop d.toNat = shape := fun z => by
      have z1 : (if d < 0 then (d + ((shape.map V.str).length : Int)).toNat else min d.toNat (shape.map V.str).length) = 0 := z
      rw [if_neg (by omega), List.length_map] at z1
      have z2 : d.toNat = 0 ∨ shape.length = 0 := by omega
      rcases z2 with e | e
      · rw [e]
        rfl
      · rw [List.length_eq_zero_iff.mp e]
        simp
    refine ⟨_, rfl, _, rfl, _, rfl, sh, _, rfl, es, fun w => ?_, fun _ p np => ?_⟩
    · have es2 : SqT K H sh ((shape.drop d.toNat).map V.str) := by
        rw [whole w.1]
        exact es
      refine ⟨sh, rfl, ⟨_, es2⟩, fun D nD => ?_⟩
      refine lc_tup (K := K) (a := sh) (xs := (shape.drop d.toNat).map V.str) (fun i H' => H' D = some (.lst ((((shape.drop d.toNat).map fun (it : Str) => decide (it = "all")).take i).map V.bl)) ∧ Same H H') ⟨upd_same, same_upd nD⟩ (fun i H' _ ⟨_, sm⟩ => (Tk.of sm).seq es2) ?_ ?_
      · rintro i z H' hi ⟨eD, sm⟩
        rw [List.getElem?_map, Option.map_eq_some_iff] at hi
        obtain ⟨it, hit, rfl⟩ := hi
        have il : i < (shape.drop d.toNat).length := (List.getElem?_eq_some_iff.mp hit).1
        rw [List.length_drop] at il
        refine ⟨rfl, yes_of ?_⟩
        refine ⟨_, rfl, rfl, _, eD, by rw [List.length_map, List.length_take, sizeLine_eq]; omega, ?_, fun b o e => by rw [upd_ne (ne_of_none e nD)]; exact sm b o e⟩
        have eb : decide (V.str it = V.str "all") = decide (it = "all") := by
          by_cases e : it = "all"
          · rw [e, decide_eq_true rfl, decide_eq_true rfl]
          · rw [decide_eq_false e, decide_eq_false (fun z => e (by injection z))]
        rw [upd_same, take_bl (b := decide (it = "all")) (by rw [List.getElem?_map, hit]; rfl), eb]
      rintro H' ⟨eD, sm⟩
      have el : ((shape.drop d.toNat).map V.str).length = ((shape.drop d.toNat).map fun (it : Str) => decide (it = "all")).length := by rw [List.length_map, List.length_map]
      rw [el, List.take_length] at eD
      refine ⟨D, _, rfl, SqL.of eD, ?_⟩
      have z := k H' ((Same.refl H).trans sm)
      unfold mayEnd at z
      rw [List.all_map]
      exact z
    · rw [cut]
      have sG : Same H (upd H p (.tup ((shape.drop d.toNat).map V.str))) := same_upd np
      have eG : SqT K (upd H p (.tup ((shape.drop d.toNat).map V.str))) p ((shape.drop d.toNat).map V.str) := SqT.of upd_same
      refine ⟨p, rfl, ⟨_, eG⟩, fun D nD => ?_⟩
      refine lc_tup (K := K) (a := p) (xs := (shape.drop d.toNat).map V.str) (fun i H' => H' D = some (.lst ((((shape.drop d.toNat).map fun (it : Str) => decide (it = "all")).take i).map V.bl)) ∧ Same (upd H p (.tup ((shape.drop d.toNat).map V.str))) H') ⟨upd_same, same_upd nD⟩ (fun i H' _ ⟨_, sm⟩ => (Tk.of sm).seq eG) ?_ ?_
      · rintro i z H' hi ⟨eD, sm⟩
        rw [List.getElem?_map, Option.map_eq_some_iff] at hi
        obtain ⟨it, hit, rfl⟩ := hi
        have il : i < (shape.drop d.toNat).length := (List.getElem?_eq_some_iff.mp hit).1
        rw [List.length_drop] at il
        refine ⟨rfl, yes_of ?_⟩
        refine ⟨_, rfl, rfl, _, eD, by rw [List.length_map, List.length_take, sizeLine_eq]; omega, ?_, fun b o e => by rw [upd_ne (ne_of_none e nD)]; exact sm b o e⟩
        have eb : decide (V.str it = V.str "all") = decide (it = "all") := by
          by_cases e : it = "all"
          · rw [e, decide_eq_true rfl, decide_eq_true rfl]
          · rw [decide_eq_false e, decide_eq_false (fun z => e (by injection z))]
        rw [upd_same, take_bl (b := decide (it = "all")) (by rw [List.getElem?_map, hit]; rfl), eb]
      rintro H' ⟨eD, sm⟩
      have el : ((shape.drop d.toNat).map V.str).length = ((shape.drop d.toNat).map fun (it : Str) => decide (it = "all")).length := by rw [List.length_map, List.length_map]
      rw [el, List.take_length] at eD
      refine ⟨D, _, rfl, SqL.of eD, ?_⟩
      have z := k H' (sG.trans sm)
      unfold mayEnd at z
      rw [List.all_map]
      exact z
end
end Lr

namespace Lr
open PySem PySem.Spec PyProof.Rows L2

/-top-/
/-- ints strictly ascending between 0 and n -/
theorem asc_len {ns : List Int} {n : Nat} (h : ns.Pairwise (· < ·)) (bd : ∀ z ∈ ns, 0 ≤ z ∧ z ≤ (n : Int)) : ns.length ≤ n + 1 := by
  have nd : (ns.map Int.toNat).Nodup := by
    refine List.Pairwise.map Int.toNat (R := fun a b => a < b ∧ (0 ≤ a ∧ 0 ≤ b)) (fun a b h e => by omega) ?_
    refine (List.Pairwise.imp_of_mem (fun {a b} ha hb hab => ?_) h)
    exact ⟨hab, (bd _ ha).1, (bd _ hb).1⟩
  have z := L2.nat_nodup_len (ns.map Int.toNat) (List.range (n + 1)) nd fun x hx => by
    obtain ⟨y, hy, rfl⟩ := List.mem_map.mp hx
    have q := bd y hy
    exact List.mem_range.mpr (by omega)
  rw [List.length_map, List.length_range] at z
  exact z
theorem any_congr {α : Type} {p : α → Bool} {as bs : List α} (h : ∀ x, x ∈ as ↔ x ∈ bs) : as.any p = bs.any p := by
  rw [Bool.eq_iff_iff, List.any_eq_true, List.any_eq_true]
  constructor
  · rintro ⟨x, hx, e⟩
    exact ⟨x, (h x).mp hx, e⟩
  · rintro ⟨x, hx, e⟩
    exact ⟨x, (h x).mpr hx, e⟩
theorem any_flat {α β : Type} {p : β → Bool} (f : α → List β) : ∀ as : List α, (as.flatMap f).any p = as.any fun a => (f a).any p
  | [] => rfl
  | a :: as => by rw [List.flatMap_cons, List.any_append, any_flat f as, List.any_cons]
theorem mem_take_succ {α : Type} {l : List α} {i : Nat} {x : α} (h : l[i]? = some x) : l.take (i + 1) = l.take i ++ [x] := by
  rw [List.take_succ, h]
  rfl
theorem ways_read {K : PySem.W.Frag} {w : World} {J : It} {ns : List Int} {G : Hp → Prop} (wk : Walk J ns.length G (YAt (ns.map V.int))) {H1 : Hp} (hG : ∀ H2, Same H1 H2 → G H2) {sh st wa : Addr} {shape : List Str} {label : Str} (es : SqT K H1 sh (shape.map V.str))
    (small : shape.length ≤ 6) (ln : ns.length ≤ 7) (bd : ∀ z ∈ ns, 0 ≤ z ∧ z ≤ shape.length) {Qd : V → Hp → Prop} {D : Addr} (nD : H1 D = none)
    (out : ∀ (H' : Hp) (S : Int → Bool) (n : Nat), Same H1 H' → H' D = some (SetO w D S n) → n < 64 → (∀ k, S k = true ↔ ∃ d ∈ ns, k ∈ leadsI shape d label) → Qd (.ref D) H') :
    ∃ W : Nat → Nat → Hp → Prop, (∃ m, W 0 m (upd H1 D (SetO w D (fun _ => false) 0))) ∧ ∀ i m H, W i m H →
      (J.stop i H ∧ Qd (.ref D) H) ∨ (J.go i H ∧ ∃ Nx : Hp → Prop, (∀ H', Nx H' → ∃ m', m' < m ∧ W (i + 1) m' H') ∧ ∀ x H', J.yld i H x H' → gName 5 x (wipe [some (.ref sh), some (.ref st), some (.ref wa), some (.str label), none, none] [5, 4]) H' fun σ2 H2 => wipe σ2 [5, 4] = wipe [some (.ref sh), some (.ref st), some (.ref wa), some (.str label), none, none] [5, 4] ∧
        iTup K (tCall (spLe K) [] E0 (tCons (tVar 0) (tCons (tVar 5) (tCons (tVar 3) tNil)))) σ2 H2 fun J1 H4 => ∃ W1 : Nat → Nat → Hp → Prop, (∃ m, W1 0 m H4) ∧ ∀ j k H, W1 j k H →
          (J1.stop j H ∧ Nx H) ∨ (J1.go j H ∧ ∃ Nx1 : Hp → Prop, (∀ H', Nx1 H' → ∃ k', k' < k ∧ W1 (j + 1) k' H') ∧ ∀ x H', J1.yld j H x H' → gName 4 x (wipe σ2 [4]) H' fun σ3 H5 => wipe σ3 [4] = wipe σ2 [4] ∧
            tVar 4 σ3 H5 fun y H7 => ∃ (z : Int) (S : Int → Bool) (n : Nat), y = .int z ∧ H7 D = some (SetO w D S n) ∧ n + 1 < scanBound ∧ Nx1 (upd H7 D (SetO w D (fun j => S j || decide (j = z)) (if S z = true then n else n + 1))))) := by
  let Pv : Nat → Hp → Prop := fun i H => ∃ (S : Int → Bool) (n : Nat), Same H1 H ∧ H D = some (SetO w D S n) ∧ n ≤ 6 * i ∧ ∀ k, S k = true ↔ ∃ d ∈ ns.take i, k ∈ leadsI shape d label
  refine ⟨fun i m H => m = ns.length - i ∧ i ≤ ns.length ∧ Pv i H, ⟨ns.length, rfl, Nat.zero_le _, fun _ => false, 0, same_upd nD, upd_same, Nat.le_refl _, fun k => by simp⟩, ?_⟩
  rintro i m H ⟨rfl, hi, S, n, sm, eD, nb, mem⟩
  have g := hG H sm
  by_cases lt : i < ns.length
  · refine .inr ⟨wk.goes i H lt g, Pv (i + 1), fun H' p => ⟨ns.length - (i + 1), by omega, rfl, by omega, p⟩, fun x H' y => ?_⟩
    obtain ⟨rfl, ex⟩ := wk.yields i H x H' lt g y
    rw [List.getElem?_map, List.getElem?_eq_getElem lt] at ex
    cases ex
    have ed := List.getElem?_eq_getElem lt
    generalize hd : ns[i] = d at ed
    have dm : d ∈ ns := List.mem_of_getElem? ed
    obtain ⟨d0, d1⟩ := bd d dm
    have l6 := leadsI_len shape d label
    refine ⟨rfl, _, rfl, _, rfl, _, rfl, sh, shape, d, label, rfl, (Tk.of sm).seq es, by omega, d0, d1, fun H2 p s2 ep => ?_⟩
    refine ⟨p, rfl, ⟨_, SqT.of ep⟩, ?_⟩
    let Pw : Nat → Hp → Prop := fun j H3 => ∃ (S : Int → Bool) (n : Nat), Same H1 H3 ∧ H3 p = some (.tup ((leadsI shape d label).map V.int)) ∧ H3 D = some (SetO w D S n) ∧ n ≤ 6 * i + j ∧ ∀ k, S k = true ↔ (∃ d ∈ ns.take i, k ∈ leadsI shape d label) ∨ k ∈ (leadsI shape d label).take j
    refine ⟨fun j k H3 => k = (leadsI shape d label).length - j ∧ j ≤ (leadsI shape d label).length ∧ Pw j H3, ⟨_, rfl, Nat.zero_le _, S, n, sm.trans s2, ep, s2 _ _ eD, by omega, fun k => by rw [mem k]; simp⟩, ?_⟩
    rintro j k H3 ⟨rfl, hj, S3, n3, sm3, ep3, eD3, nb3, mem3⟩
    have sq3 : SqT K H3 p ((leadsI shape d label).map V.int) := SqT.of ep3
    by_cases lj : j < (leadsI shape d label).length
    · refine .inr ⟨⟨_, _, sq3, List.getElem?_eq_getElem (by rw [List.length_map]; exact lj)⟩, Pw (j + 1), fun H' q => ⟨_, by omega, rfl, by omega, q⟩, fun x H' y => ?_⟩
      obtain ⟨rfl, ey⟩ := y
      have ey := ey _ sq3
      rw [List.getElem?_map, List.getElem?_eq_getElem lj] at ey
      cases ey
      have ez := List.getElem?_eq_getElem lj
      generalize (leadsI shape d label)[j] = z at ez
      have npD : p ≠ D := ne_of ep3 eD3 (by intro q; cases q)
      refine ⟨rfl, _, rfl, z, S3, n3, rfl, eD3, by show n3 + 1 < 4096; omega, ?_⟩
      refine ⟨_, _, fun b o e => ?_, ?_, upd_same, ?_, fun k => ?_⟩
      · rw [upd_ne (ne_of_none e nD)]
        exact sm3 b o e
      · rw [upd_ne npD]
        exact ep3
      · split <;> omega
      · rw [mem_take_succ ez, List.mem_append, List.mem_singleton, Bool.or_eq_true, mem3 k, decide_eq_true_eq, or_assoc]
    · have ej : j = (leadsI shape d label).length := by omega
      refine .inl ⟨⟨_, sq3, by rw [List.length_map]; omega⟩, S3, n3, sm3, eD3, by omega, fun k => ?_⟩
      rw [mem3 k, ej, List.take_length, mem_take_succ ed]
      constructor
      · rintro (⟨d', m', q⟩ | q)
        · exact ⟨d', List.mem_append_left _ m', q⟩
        · exact ⟨d, List.mem_append_right _ (List.mem_singleton.mpr rfl), q⟩
      · rintro ⟨d', m', q⟩
        rcases List.mem_append.mp m' with m' | m'
        · exact .inl ⟨d', m', q⟩
        · rw [List.mem_singleton.mp m'] at q
          exact .inr q
  · have ei : i = ns.length := by omega
    subst ei
    rw [List.take_length] at mem
    exact .inl ⟨wk.stops H g, out H S n sm eD (by omega) mem⟩
section
variable {P : Program} {w : World} {K : PySem.W.Frag} {mg : Str → Option Value} {base : Heap}
theorem scHs : FnScope ["shape", "stack", "ways", "label", "place", "done"] ["shape", "stack"] (defScope sHs) := ⟨rfl, rfl, rfl, by decide +kernel, rfl, by decide +kernel, by decide +kernel⟩
theorem ok_Hs {f : Addr} {fd : FuncData} {fLe : Addr} {fdLe : FuncData} {fMe : Addr} {fdMe : FuncData} (F : Fun K "has_shape" "has_shape" sHs f fd) (T : Bt mg) (CLe : Cal K mg "leads" fLe fdLe ["shape", "done", "label"]) (GLe : FnOk P w K mg base CX0 1 fLe fdLe ["shape", "done", "label"] (spLe K)) (CMe : Cal K mg "may_end" fMe fdMe ["shape", "done"]) (GMe : FnOk P w K mg base CX0 1 fMe fdMe ["shape", "done"] (spMe K)) : FnOk P w K mg base CX0 2 f fd ["shape", "stack"] (spHs K) := by
  refine F.ok scHs (fun vs H Q E h => ?_) (fun cdv A outer s H vs Q E hr h => ?_)
  · obtain ⟨sh, st, shape, stack, rfl, es, et, small, k⟩ := h
    rfl
  · obtain ⟨sh, st, shape, stack, rfl, es, et, small, k⟩ := h
    have hr1 : Room 1 (A.deeper (envOfC "has_shape" (defScope sHs) s.heap.objs.size f cdv)) := Room.mono hr (by decide)
    refine ⟨_, pss_cons (ps_set (i := 2) scHs.nd rfl (.inl rfl) (pe_tup (pa_cons pe_int pa_nil)))
      (pss_cons (ps_for PassesOwn.never rfl (pi_tup (pv 1)) (pg_name (i := 3) scHs.nd rfl (.inr rfl))
        (pss_one (ps_set (i := 2) scHs.nd rfl (.inl rfl) (pe_callB (cr_sortedSet rfl) (by rfl) T.sorted (by decide +kernel) (pa_cons (pe_sc2 (own := [("done", 5), ("place", 4)]) (vs1 := [4]) (g := gName 5) (g1 := gName 4) (te := tVar 4) (wi1 := iTup K (tCall (spLe K) [] E0 (tCons (tVar 0) (tCons (tVar 5) (tCons (tVar 3) tNil))))) rfl scHs.nd (pi_or (pi_tup (pv 2)) (pi_list (pv 2))) (blkOk_by (N := ["shape", "stack", "ways", "label", "place", "done"]) (sc := defScope sHs) (by decide +kernel)) (by simp)
          (fun _ _ _ _ _ => pg_name (i := 5) scHs.nd rfl (.inl rfl)) (fun _ _ _ _ _ => pi_tup (pe_call GLe hr1 (by rfl) CLe.g CLe.k CLe.b .nil pass0 (pa_cons (pv 0) (pa_cons (pv 5) (pa_cons (pv 3) pa_nil))))) (fun _ _ _ _ _ => pg_name (i := 4) scHs.nd rfl (.inl rfl)) (fun _ _ _ _ _ => pv 4)) pa_nil)))))
      (pss_one (ps_ret (pe_callB (cr_any rfl) (by rfl) T.any (by decide +kernel) (pa_cons (pe_lc (own := [("done", 5)]) (g := gName 5) (tt := tYes) rfl scHs.nd (pi_or (pi_tup (pv 2)) (pi_list (pv 2))) (blkOk_by (N := ["shape", "stack", "ways", "label", "place", "done"]) (sc := defScope sHs) (by decide +kernel)) (fun _ _ _ _ _ => pg_name (i := 5) scHs.nd rfl (.inl rfl)) (fun _ _ _ _ _ => pts_nil)
        (fun _ _ _ _ _ => (pe_call GMe hr1 (by rfl) CMe.g CMe.k CMe.b .nil pass0 (pa_cons (pv 0) (pa_cons (pv 5) pa_nil))))) pa_nil))))), ?_⟩
    refine ⟨by show 1 ≤ sizeLine; rw [sizeLine_eq]; decide, fun w0 nw0 => ?_⟩
    have sm0 : Same H (upd H w0 (.tup [.int 0])) := same_upd nw0
    refine ⟨_, rfl, st, rfl, ⟨_, (Tk.of sm0).seq et⟩, ?_⟩
    refine for_tup (K := K) (a := st) (xs := stack.map V.str) (fun i σ H' => ∃ (wa : Addr) (u : Option V) (ns : List Int), σ = [some (.ref sh), some (.ref st), some (.ref wa), u, none, none] ∧ Same H H' ∧ (SqT K H' wa (ns.map V.int) ∨ SqL K H' wa (ns.map V.int)) ∧ ns.length ≤ 7 ∧ (∀ z ∈ ns, 0 ≤ z ∧ z ≤ shape.length) ∧ ns.any (canFit shape (stack.drop i)) = canFit shape stack 0)
      ⟨w0, none, [0], rfl, sm0, .inl (SqT.of upd_same), by decide, fun z hz => by rw [List.mem_singleton.mp hz]; omega, by simp⟩ (fun i σ H' _ ⟨_, _, _, _, sm, _⟩ => (Tk.of sm).seq et) ?_ ?_
    · rintro i x σ H' hi ⟨wa, u, ns, rfl, sm, sq, ln, bd, ans⟩
      rw [List.getElem?_map, Option.map_eq_some_iff] at hi
      obtain ⟨label, hl, rfl⟩ := hi
      have il := (List.getElem?_eq_some_iff.mp hl).1
      let PP : V → Hp → Prop := fun v H3 => ∃ (wa : Addr) (u : Option V) (ns : List Int), [some (.ref sh), some (.ref st), some v, some (.str label), none, none] = [some (.ref sh), some (.ref st), some (.ref wa), u, none, none] ∧ Same H H3 ∧ (SqT K H3 wa (ns.map V.int) ∨ SqL K H3 wa (ns.map V.int)) ∧ ns.length ≤ 7 ∧ (∀ z ∈ ns, 0 ≤ z ∧ z ≤ shape.length) ∧ ns.any (canFit shape (stack.drop (i + 1))) = canFit shape stack 0
      have out : ∀ (D : Addr) (H2 : Hp) (S : Int → Bool) (n : Nat), Same H' H2 → H2 D = some (SetO w D S n) → n < 64 → (∀ k, S k = true ↔ ∃ d ∈ ns, k ∈ leadsI shape d label) → rSortedSet w [.ref D] H2 PP := fun D H2 S n s2 eD n64 mem => by
        refine ⟨D, S, n, rfl, eD, n64, fun ms p asc mm _ np => ?_⟩
        have bd2 : ∀ z ∈ ms, 0 ≤ z ∧ z ≤ shape.length := fun z hz => by
          obtain ⟨d, dm, zm⟩ := (mem z).mp ((mm z).mp hz)
          exact leadsI_bd (bd d dm).1 (bd d dm).2 z zm
        refine ⟨p, _, ms, rfl, (sm.trans s2).trans (same_upd np), .inr (SqL.of upd_same), by have z := asc_len asc bd2; omega, bd2, ?_⟩
        rw [← ans, List.drop_eq_getElem_cons il]
        have el : stack[i] = label := (List.getElem?_eq_some_iff.mp hl).2
        rw [el]
        show ms.any (canFit shape (stack.drop (i + 1))) = ns.any fun d => (leadsI shape d label).any (canFit shape (stack.drop (i + 1)))
        rw [← any_flat (leadsI shape · label) ns]
        refine any_congr fun z => ?_
        rw [mm z, mem z, List.mem_flatMap]
      rcases sq with sq | sq
      · refine .inl ⟨_, rfl, wa, rfl, ⟨_, sq⟩, fun D nD => ?_⟩
        exact ways_read (K := K) (w := w) (Qd := fun v H2 => rSortedSet w [v] H2 PP) (wk := by have z := walk_tup (K := K) (a := wa) (xs := ns.map V.int); rw [List.length_map] at z; exact z) (fun H2 s2 => (Tk.of s2).seq sq) ((Tk.of sm).seq es) small ln bd nD (fun H2 S n s2 eD n64 mem => out D H2 S n s2 eD n64 mem)
      · refine .inr ⟨_, rfl, wa, rfl, ⟨_, sq⟩, fun D nD => ?_⟩
        exact ways_read (K := K) (w := w) (Qd := fun v H2 => rSortedSet w [v] H2 PP) (wk := by have z := walk_list (K := K) (a := wa) (xs := ns.map V.int); rw [List.length_map] at z; exact z) (fun H2 s2 => s2.seq sq) ((Tk.of sm).seq es) small ln bd nD (fun H2 S n s2 eD n64 mem => out D H2 S n s2 eD n64 mem)
    rintro σ H' ⟨wa, u, ns, rfl, sm, sq, ln, bd, ans⟩
    rw [List.length_map, List.drop_of_length_le (Nat.le_refl _)] at ans
    have last : ∀ {J : It} {G : Hp → Prop} (wk : Walk J ns.length G (YAt (ns.map V.int))) (hG : ∀ H2, Same H' H2 → G H2) (D : Addr), H' D = none → ∃ W : Nat → Nat → Hp → Prop, (∃ m, W 0 m (upd H' D (.lst []))) ∧ ∀ i m H2, W i m H2 →
        (J.stop i H2 ∧ rAny K [.ref D] H2 Q) ∨ (J.go i H2 ∧ ∃ Nx : Hp → Prop, (∀ H', Nx H' → ∃ m', m' < m ∧ W (i + 1) m' H') ∧ ∀ x H3, J.yld i H2 x H3 → gName 5 x (wipe [some (.ref sh), some (.ref st), some (.ref wa), u, none, none] [5]) H3 fun σ2 H4 => wipe σ2 [5] = wipe [some (.ref sh), some (.ref st), some (.ref wa), u, none, none] [5] ∧ tYes σ2 H4 fun b H5 =>
          if b = true then tCall (spMe K) [] E0 (tCons (tVar 0) (tCons (tVar 5) tNil)) σ2 H5 fun y H6 => ∃ acc, H6 D = some (.lst acc) ∧ acc.length < sizeLine ∧ Nx (upd H6 D (.lst (acc ++ [y]))) else Nx H5) := fun {J G} wk hG D nD => by
      refine lc_it wk (fun i H2 => H2 D = some (.lst (((ns.map (mayEnd shape)).take i).map V.bl)) ∧ Same H' H2) ⟨upd_same, same_upd nD⟩ (fun i H2 _ ⟨_, s2⟩ => hG H2 s2) ?_ ?_
      · rintro i x H2 H3 hi ⟨eD, s2⟩ ⟨rfl, ex⟩
        rw [List.getElem?_map, List.getElem?_eq_getElem hi] at ex
        cases ex
        have b := bd _ (List.getElem_mem hi)
        refine ⟨rfl, yes_of ?_⟩
        refine ⟨_, rfl, _, rfl, sh, shape, _, rfl, (Tk.of (sm.trans s2)).seq es, by omega, b.1, b.2, fun H4 s4 => ?_⟩
        refine ⟨_, s4 _ _ eD, by rw [List.length_map, List.length_take, List.length_map, sizeLine_eq]; omega, ?_, fun c o e => by rw [upd_ne (ne_of_none e nD)]; exact s4 _ _ (s2 c o e)⟩
        rw [upd_same, take_bl (b := mayEnd shape ns[i]) (by rw [List.getElem?_map, List.getElem?_eq_getElem hi]; rfl)]
      rintro H2 ⟨eD, s2⟩
      have el : ns.length = (ns.map (mayEnd shape)).length := by rw [List.length_map]
      rw [el, List.take_length] at eD
      refine ⟨D, _, rfl, SqL.of eD, ?_⟩
      rw [List.any_map]
      have z : ns.any (id ∘ mayEnd shape) = canFit shape stack 0 := ans
      rw [z]
      exact k H2 (sm.trans s2)
    rcases sq with sq | sq
    · exact .inl ⟨_, rfl, wa, rfl, ⟨_, sq⟩, fun D nD => last (by have z := walk_tup (K := K) (a := wa) (xs := ns.map V.int); rw [List.length_map] at z; exact z) (fun H2 s2 => (Tk.of s2).seq sq) D nD⟩
    · exact .inr ⟨_, rfl, wa, rfl, ⟨_, sq⟩, fun D nD => last (by have z := walk_list (K := K) (a := wa) (xs := ns.map V.int); rw [List.length_map] at z; exact z) (fun H2 s2 => s2.seq sq) D nD⟩
end
end Lr

namespace Lr
open PySem PySem.Spec PyProof.Rows L2

/-top-/
abbrev sIS : Stmt := inClass (top 9) 0
theorem scIS : FnScope ["self", "value"] ["self", "value"] (defScope sIS) := ⟨rfl, rfl, rfl, by decide +kernel, rfl, by decide +kernel, by decide +kernel⟩
def shOk (ls ws : List Str) : Bool := decide (ws.length ≤ 6) && ws.all fun y => decide (y ∈ (("any" :: "all" :: ls) : List Str))
/-- what is no shape over these labels -/
def ShBad (K : PySem.W.Frag) (H : Hp) (ls : List Str) (x : V) : Prop := (∃ (p : Addr) (ws : List Str), x = .ref p ∧ SqT K H p (ws.map V.str) ∧ shOk ls ws = false) ∨
  (∃ (p : Addr) (z : V), x = .ref p ∧ SqT K H p [z] ∧ ((∃ i : Int, z = .int i) ∨ ∃ p xs, z = .ref p ∧ SqT K H p xs)) ∨ NotTup K H x
/-- what is asked as a stack, and the answer -/
def StAsk (K : PySem.W.Frag) (H : Hp) (ls shape : List Str) (x : V) (b : Bool) : Prop := (∃ (p : Addr) (ws : List Str), x = .ref p ∧ SqT K H p (ws.map V.str) ∧ ws.length ≤ 10000 ∧ b = (decide (((ws.length : Nat) : Int) ≤ 3000) && (ws.all fun y => decide (y ∈ ls)) && canFit shape ws 0)) ∨
  (∃ (p : Addr) (i : Int), x = .ref p ∧ SqT K H p [.int i] ∧ b = false) ∨ (NotTup K H x ∧ b = false)
def spNS (K : PySem.W.Frag) : Sp := fun vs H Q _ => ∃ (n l : Addr) (a c x : V) (ls : List Str), vs = [.ref n, x] ∧ SqT K H n [a, .ref l, c] ∧ LbAt K H l ls ∧ ls.length ≤ 100 ∧ (∃ (p : Addr) (ws : List Str), x = .ref p ∧ SqT K H p (ws.map V.str) ∧ shOk ls ws = true) ∧ ∀ H', Same H H' → Q .non H'
def spNSx (K : PySem.W.Frag) (C : Addr) : Sp := fun vs H _ E => ∃ (n l : Addr) (a c x : V) (ls : List Str), vs = [.ref n, x] ∧ SqT K H n [a, .ref l, c] ∧ LbAt K H l ls ∧ ls.length ≤ 100 ∧ ShBad K H ls x ∧ ∀ H' d, Same H H' → H d = none → H' d = some (exd d [("value", x)]) → E (.ref C) (some d) H'
def spFi (K : PySem.W.Frag) : Sp := fun vs H Q _ => ∃ (x : V) (sh : Addr) (y : V) (n : Nt) (shape : List Str) (b : Bool), vs = [x, .ref sh, y] ∧ Dp K H x (dNt n) ∧ NtOk n ∧ SqT K H sh (shape.map V.str) ∧ shOk n.labels shape = true ∧ StAsk K H n.labels shape y b ∧ ∀ H', Same H H' → Q (.bl b) H'
def spFix (K : PySem.W.Frag) (C : Addr) : Sp := fun vs H _ E => ∃ (x y z : V) (n : Nt), vs = [x, y, z] ∧ Dp K H x (dNt n) ∧ NtOk n ∧ ShBad K H n.labels y ∧ ∀ H' d, Same H H' → H d = none → H' d = some (exd d [("value", y)]) → E (.ref C) (some d) H'
theorem ty_same {K : PySem.W.Frag} {H H' : Hp} {x : V} {ty : String} (sm : Same H H') (h : TyX K H x (.type ty)) : TyX K H' x (.type ty) := by
  cases h with
  | base b =>
    cases b with
    | non => exact .base .non
    | bl y => exact .base (.bl y)
    | int i => exact .base (.int i)
    | str y => exact .base (.str y)
    | flt y => exact .base (.flt y)
    | lst e => exact .base (.lst (sm _ _ e))
    | frz e => exact .base (.frz (sm _ _ e))
    | tup e => exact .base (.tup (sm _ _ e))
    | dK e => exact .base (.dK (sm _ _ e))
    | dT e => exact .base (.dT (sm _ _ e))
  | byt b => exact .byt b
  | set e => exact .set (sm _ _ e)
  | kList e c => exact .kList e c
  | kTuple e c => exact .kTuple e c
  | kDict e c => exact .kDict e c
  | fTuple e => exact .fTuple (sm _ _ e)
  | fDict e => exact .fDict (sm _ _ e)
theorem NotTup.same {K : PySem.W.Frag} {H H' : Hp} {x : V} (sm : Same H H') (h : NotTup K H x) : NotTup K H' x := by
  obtain ⟨ty, m, t⟩ := h
  exact ⟨ty, m, ty_same sm t⟩
section
variable {P : Program} {w : World} {K : PySem.W.Frag} {mg : Str → Option Value} {base : Heap}
theorem scNS : FnScope ["net", "shape"] ["net", "shape"] (defScope sNS) := ⟨rfl, rfl, rfl, by decide +kernel, rfl, by decide +kernel, by decide +kernel⟩
theorem scFi : FnScope ["net", "shape", "stack"] ["net", "shape", "stack"] (defScope sFi) := ⟨rfl, rfl, rfl, by decide +kernel, rfl, by decide +kernel, by decide +kernel⟩
theorem ok_I {B nid iid : String} {tl : List Value} {f C : Addr} {fd : FuncData} (F : Fun K "__init__" "BadShape.__init__" sIS f fd) (T : XT K B nid iid tl C) (free : PySem.W.findIn K (.ref C) "value" = some none) : FnOk P w K mg base CX0 1 f fd ["self", "value"] (spOne C "value") := by
  refine F.ok scIS (fun vs H Q E h => ?_) (fun cdv A outer s H vs Q E hr h => ?_)
  · obtain ⟨a, v, rfl, _⟩ := h
    rfl
  · obtain ⟨a, v, rfl, ea, k⟩ := h
    exact ⟨_, pss_one (ps_fx (pv 0) (pv 1)), _, rfl, _, rfl, _, _, _, _, a, C, rfl, T, free, .inl ⟨ea, fun dx n ne => k dx n ne⟩⟩
theorem ok_NS {f : Addr} {fd : FuncData} {fSh : Addr} {fdSh : FuncData} (F : Fun K "need_shape" "need_shape" sNS f fd) (T : Bt mg) (CSh : Cal K mg "is_shape" fSh fdSh ["labels", "value"]) (GSh : FnOk P w K mg base CX0 2 fSh fdSh ["labels", "value"] (spSh K)) : FnOk P w K mg base CX0 3 f fd ["net", "shape"] (spNS K) := by
  refine F.ok scNS (fun vs H Q E h => ?_) (fun cdv A outer s H vs Q E hr h => ?_)
  · obtain ⟨n, l, a, c, x, ls, rfl, en, el, small, ⟨p, ws, rfl, ep, ok⟩, k⟩ := h
    rfl
  · obtain ⟨n, l, a, c, x, ls, rfl, en, el, small, ⟨p, ws, rfl, ep, ok⟩, k⟩ := h
    have hr2 : Room 2 (A.deeper (envOfC "need_shape" (defScope sNS) s.heap.objs.size f cdv)) := Room.mono hr (by decide)
    refine ⟨_, pss_one (ps_if (pt_not (pt_val (pe_call GSh hr2 (by rfl) CSh.g CSh.k CSh.b .nil pass0 (pa_cons (pe_ix ix_tup (pv 0) pe_int (fun _ _ => rfl)) (pa_cons (pv 1) pa_nil))))) (pss_one ps_never) pss_nil), ?_⟩
    refine ⟨_, rfl, n, _, _, _, rfl, rfl, en, (show atI [a, V.ref l, c] 1 = some (V.ref l) from rfl), _, rfl, l, ls, _, rfl, el, small, .inl ⟨p, ws, rfl, ep, fun H' sm => ?_⟩⟩
    refine ⟨_, rfl, ?_⟩
    have z : (decide (ws.length ≤ 6) && ws.all fun y => decide (y ∈ (("any" :: "all" :: ls) : List Str))) = true := ok
    rw [z]
    exact iteF (k H' sm)
theorem ok_NSx {f CB fI : Addr} {fd fdI : FuncData} {fSh : Addr} {fdSh : FuncData} (F : Fun K "need_shape" "need_shape" sNS f fd) (T : Bt mg) (O : Own K mg "BadShape" "ValueError" "ValueError.__new__" "ValueError.__init__" PySem.HandSPX.veTail CB fI fdI ["self", "value"]) (GI : FnOk P w K mg base CX0 1 fI fdI ["self", "value"] (spOne CB "value")) (tC : PySem.W.typeIn K (.ref CB) = some (.type "type")) (CSh : Cal K mg "is_shape" fSh fdSh ["labels", "value"]) (GSh : FnOk P w K mg base CX0 2 fSh fdSh ["labels", "value"] (spSh K)) : FnOk P w K mg base (CX P w) 3 f fd ["net", "shape"] (spNSx K CB) := by
  refine F.okX scNS (fun vs H Q E h => ?_) (fun cdv A outer s H vs Q E hr h => ?_)
  · obtain ⟨n, l, a, c, x, ls, rfl, _⟩ := h
    rfl
  · obtain ⟨n, l, a, c, x, ls, rfl, en, el, small, bad, k⟩ := h
    have hr2 : Room 2 (A.deeper (envOfC "need_shape" (defScope sNS) s.heap.objs.size f cdv)) := hr
    refine ⟨_, pss_one (ps_if (pt_not (pt_val (pe_call GSh hr2 (by rfl) CSh.g CSh.k CSh.b .nil pass0 (pa_cons (pe_ix ix_tup (pv 0) pe_int (fun _ _ => rfl)) (pa_cons (pv 1) pa_nil))))) (pss_one (ps_raiseX K H rfl rfl rfl rfl (takes_of rfl rfl rfl rfl) (pe_mkx O.x O.i O.t GI hr2 O.b pass0 (by rfl) O.g (pa_cons (pv 1) pa_nil)))) pss_nil), ?_⟩
    refine ⟨_, rfl, n, _, _, _, rfl, rfl, en, (show atI [a, V.ref l, c] 1 = some (V.ref l) from rfl), _, rfl, l, ls, _, rfl, el, small, ?_⟩
    have go : ∀ H1 : Hp, Same H H1 → ∀ G : L2.St → Hp → Prop, (∃ k : Bool, V.bl false = .bl k ∧ if (!k) = true then (∃ v, ([some (V.ref n), some x] : L2.St)[1]? = some (some v) ∧ (([v] : List V).length ≤ 1000 ∧ ∀ e, H1 e = none → spOne CB "value" (.ref e :: [v]) (upd H1 e (exo e CB none)) (fun u H2 => u = .non ∧ ∃ a C d, V.ref e = .ref a ∧ H2 a = some (exo a C (some d)) ∧ Fr0 H a ∧ PySem.W.subIn K (.ref C) (.type "BaseException") = some true ∧ PySem.W.typeIn K (.ref C) = some (.type "type") ∧ E (.ref C) (some d) (delH H2 a)) E)) else G [some (V.ref n), some x] H1) := fun H1 sm G => by
      refine ⟨false, rfl, iteT ⟨_, rfl, by show 1 ≤ 1000; decide, fun e ne => ⟨e, x, rfl, upd_same, fun d nd ned => ⟨rfl, e, CB, d, rfl, ?_, fr0_none (sm.free ne), O.x.ex, tC, ?_⟩⟩⟩⟩
      · rw [upd_same]
      have nd1 : H1 d = none := by
        rw [upd_ne ned] at nd
        exact nd
      refine k _ d (fun b o eb => ?_) (sm.free nd1) ?_
      · have h1 : b ≠ e := ne_of_none (sm _ _ eb) ne
        have h2 : b ≠ d := ne_of_none (sm _ _ eb) nd1
        rw [delH_ne h1, upd_ne h1, upd_ne h2, upd_ne h1]
        exact sm _ _ eb
      · rw [delH_ne ned, upd_ne ned, upd_same]
    rcases bad with ⟨p, ws, rfl, ep, ok⟩ | ⟨p, z, rfl, ep, hz⟩ | nt
    · refine .inl ⟨p, ws, rfl, ep, fun H' sm => ?_⟩
      have z : (decide (ws.length ≤ 6) && ws.all fun y => decide (y ∈ (("any" :: "all" :: ls) : List Str))) = false := ok
      rw [z]
      exact go H' sm _
    · exact .inr (.inl ⟨p, z, rfl, ep, hz, fun H' sm => go H' sm _⟩)
    · exact .inr (.inr ⟨nt, fun H' sm => go H' sm _⟩)
theorem ok_Fi {f : Addr} {fd : FuncData} {fNN : Addr} {fdNN : FuncData} {fNS : Addr} {fdNS : FuncData} {fLs : Addr} {fdLs : FuncData} {fHs : Addr} {fdHs : FuncData} (F : Fun K "fits" "fits" sFi f fd) (T : Bt mg) (CNN : Cal K mg "need_net" fNN fdNN ["net"]) (GNN : FnOk P w K mg base CX0 8 fNN fdNN ["net"] (spNN K)) (CNS : Cal K mg "need_shape" fNS fdNS ["net", "shape"]) (GNS : FnOk P w K mg base CX0 3 fNS fdNS ["net", "shape"] (spNS K)) (CLs : Cal K mg "is_labels" fLs fdLs ["labels", "value", "most"]) (GLs : FnOk P w K mg base CX0 2 fLs fdLs ["labels", "value", "most"] (spLs K)) (CHs : Cal K mg "has_shape" fHs fdHs ["shape", "stack"]) (GHs : FnOk P w K mg base CX0 2 fHs fdHs ["shape", "stack"] (spHs K)) : FnOk P w K mg base CX0 9 f fd ["net", "shape", "stack"] (spFi K) := by
  refine F.ok scFi (fun vs H Q E h => ?_) (fun cdv A outer s H vs Q E hr h => ?_)
  · obtain ⟨x, sh, y, n, shape, b, rfl, dx, ok, es, sok, ask, k⟩ := h
    rfl
  · obtain ⟨x, sh, y, n, shape, b, rfl, dx, ok, es, sok, ask, k⟩ := h
    have hr2 : Room 2 (A.deeper (envOfC "fits" (defScope sFi) s.heap.objs.size f cdv)) := Room.mono hr (by decide)
    have hr3 : Room 3 (A.deeper (envOfC "fits" (defScope sFi) s.heap.objs.size f cdv)) := Room.mono hr (by decide)
    have hr8 : Room 8 (A.deeper (envOfC "fits" (defScope sFi) s.heap.objs.size f cdv)) := Room.mono hr (by decide)
    obtain ⟨t3, e3⟩ := T.s3
    refine ⟨_, pss_cons (ps_expr (pe_call GNN hr8 (by rfl) CNN.g CNN.k CNN.b .nil pass0 (pa_cons (pv 0) pa_nil)))
      (pss_cons (ps_expr (pe_call GNS hr3 (by rfl) CNS.g CNS.k CNS.b .nil pass0 (pa_cons (pv 0) (pa_cons (pv 1) pa_nil))))
      (pss_one (ps_ret (pe_and (pe_call GLs hr2 (by rfl) CLs.g CLs.k CLs.b .nil pass0 (pa_cons (pe_ix ix_tup (pv 0) pe_int (fun _ _ => rfl)) (pa_cons (pv 2) (pa_cons (pe_glob (v := V.int 3000) (by rfl) e3 ⟨_, rfl⟩) pa_nil)))) (pe_one (pe_call GHs hr2 (by rfl) CHs.g CHs.k CHs.b .nil pass0 (pa_cons (pv 1) (pa_cons (pv 2) pa_nil)))))))), ?_⟩
    obtain ⟨p, xs, rfl, ep, dxs⟩ := dp_of_tup dx
    cases dxs with
    | cons d1 dxs =>
      cases dxs with
      | cons d2 dxs =>
        cases dxs with
        | cons d3 dxs =>
          cases dxs
          obtain ⟨l, ys, rfl, el, dl⟩ := dp_of_tup d2
          have eys := strs_dp dl
          subst eys
          rename_i v1 v3
          have lb := ok.l2
          refine ⟨_, rfl, .ref p, n, rfl, dx, ok, fun H1 s1 => ?_⟩
          refine ⟨_, rfl, _, rfl, p, l, v1, v3, _, n.labels, rfl, (Tk.of s1).seq ep, (Tk.of s1).seq el, by omega, ⟨sh, shape, rfl, (Tk.of s1).seq es, sok⟩, fun H2 s2 => ?_⟩
          have sm := s1.trans s2
          have six : shape.length ≤ 6 := by
            have z := sok
            unfold shOk at z
            rw [Bool.and_eq_true, decide_eq_true_eq] at z
            exact z.1
          refine ⟨_, rfl, p, _, _, _, rfl, rfl, (Tk.of sm).seq ep, (show atI [v1, V.ref l, v3] 1 = some (V.ref l) from rfl), _, rfl, l, n.labels, y, 3000, rfl, (Tk.of sm).seq el, by decide, ?_⟩
          rcases ask with ⟨q, ws, rfl, eq, big, eb⟩ | ⟨q, i, rfl, eq, eb⟩ | ⟨nt, eb⟩
          · refine .inl ⟨q, ws, rfl, (Tk.of sm).seq eq, big, fun H3 s3 => ⟨_, rfl, ?_⟩⟩
            cases c : (decide (((ws.length : Nat) : Int) ≤ 3000) && ws.all fun y => decide (y ∈ n.labels)) with
            | true =>
              refine iteT ⟨_, rfl, _, rfl, sh, q, shape, ws, rfl, (Tk.of (sm.trans s3)).seq es, (Tk.of (sm.trans s3)).seq eq, six, fun H4 s4 => ?_⟩
              have z := k H4 ((sm.trans s3).trans s4)
              rw [eb, c, Bool.true_and] at z
              exact z
            | false =>
              have z := k H3 (sm.trans s3)
              rw [eb, c, Bool.false_and] at z
              exact iteF z
          · refine .inr (.inl ⟨q, i, rfl, (Tk.of sm).seq eq, fun H3 s3 => ⟨_, rfl, iteF ?_⟩⟩)
            have z := k H3 (sm.trans s3)
            rw [eb] at z
            exact z
          · refine .inr (.inr ⟨nt.same sm, fun H3 s3 => ⟨_, rfl, iteF ?_⟩⟩)
            have z := k H3 (sm.trans s3)
            rw [eb] at z
            exact z
theorem ok_Fix {f CB : Addr} {fd : FuncData} {fNS : Addr} {fdNS : FuncData} {fNN : Addr} {fdNN : FuncData} (F : Fun K "fits" "fits" sFi f fd) (CNS : Cal K mg "need_shape" fNS fdNS ["net", "shape"]) (GNS : FnOk P w K mg base (CX P w) 3 fNS fdNS ["net", "shape"] (spNSx K CB)) (CNN : Cal K mg "need_net" fNN fdNN ["net"]) (GNN : FnOk P w K mg base CX0 8 fNN fdNN ["net"] (spNN K)) : FnOk P w K mg base (CX P w) 9 f fd ["net", "shape", "stack"] (spFix K CB) := by
  refine F.okX scFi (fun vs H Q E h => ?_) (fun cdv A outer s H vs Q E hr h => ?_)
  · obtain ⟨x, y, z, n, rfl, _⟩ := h
    rfl
  · obtain ⟨x, y, z, n, rfl, dx, ok, bad, k⟩ := h
    have hr8 : Room 8 (A.deeper (envOfC "fits" (defScope sFi) s.heap.objs.size f cdv)) := hr
    have hr3 : Room 3 (A.deeper (envOfC "fits" (defScope sFi) s.heap.objs.size f cdv)) := Room.mono hr (by decide)
    refine ⟨_, pss_cons (ps_expr (pe_call GNN hr8 (by rfl) CNN.g CNN.k CNN.b .nil pass0 (pa_cons (pv 0) pa_nil))) (pss_cons (ps_expr (pe_callS GNS hr3 (by rfl) CNS.g CNS.k CNS.b (fun σ => passAt (takes_of rfl rfl rfl rfl) σ) (pa_cons (pv 0) (pa_cons (pv 1) pa_nil)))) (pss_one ps_never)), ?_⟩
    obtain ⟨p, xs, rfl, ep, dxs⟩ := dp_of_tup dx
    cases dxs with
    | cons d1 dxs =>
      cases dxs with
      | cons d2 dxs =>
        cases dxs with
        | cons d3 dxs =>
          cases dxs
          obtain ⟨l, ys, rfl, el, dl⟩ := dp_of_tup d2
          have eys := strs_dp dl
          subst eys
          rename_i v1 v3
          have lb := ok.l2
          refine ⟨_, rfl, .ref p, n, rfl, dx, ok, fun H1 s1 => ?_⟩
          refine ⟨_, rfl, _, rfl, p, l, v1, v3, y, n.labels, rfl, (Tk.of s1).seq ep, (Tk.of s1).seq el, by omega, ?_, fun H2 d s2 nd ed => k H2 d (s1.trans s2) (s1.free nd) ed⟩
          rcases bad with ⟨q, ws, e, eq, o⟩ | ⟨q, u, e, eq, hz⟩ | nt
          · exact .inl ⟨q, ws, e, (Tk.of s1).seq eq, o⟩
          · refine .inr (.inl ⟨q, u, e, (Tk.of s1).seq eq, ?_⟩)
            rcases hz with hz | ⟨q2, xs2, e2, h2⟩
            · exact .inl hz
            · exact .inr ⟨q2, xs2, e2, (Tk.of s1).seq h2⟩
          · exact .inr (.inr (nt.same s1))
end
end Lr

namespace Lr
open PySem PySem.Spec PyProof.Rows L2

/-top-/
/-- all but the state's dict and its great numbers stays -/
def Kp (H H' : Hp) (m g : Addr) : Prop := ∀ b o, H b = some o → b ≠ m → b ≠ g → H' b = some o
theorem Kp.trans {H H1 H2 : Hp} {m g : Addr} (a : Kp H H1 m g) (b : Kp H1 H2 m g) : Kp H H2 m g := fun c o e n1 n2 => b c o (a c o e n1 n2) n1 n2
theorem Kp.of {H H' : Hp} {m g : Addr} (s : Same H H') : Kp H H' m g := fun b o e _ _ => s b o e
theorem Kp.put {H H' : Hp} {m g D : Addr} {o : HO} (k : Kp H H' m g) (n : H D = none) : Kp H (upd H' D o) m g := fun b u e n1 n2 => by
  rw [upd_ne (ne_of_none e n)]
  exact k b u e n1 n2
theorem Ms.notm {H : Hp} {m c g : Addr} {n : Nat} (M : Ms H m c g n) {D : Addr} (e : H D = none) : D ≠ m := fun z => by
  rw [z, M.hd] at e
  cases e
theorem Ms.notg {H : Hp} {m c g : Addr} {n : Nat} (M : Ms H m c g n) {D : Addr} (e : H D = none) : D ≠ g := fun z => by
  obtain ⟨gs, _, hg⟩ := M.hg
  rw [z] at e
  exact nomatch hg.symm.trans e
theorem Ms.notc {H : Hp} {m c g : Addr} {n : Nat} (M : Ms H m c g n) {D : Addr} (e : H D = none) : D ≠ c := fun z => by
  obtain ⟨gs, _, hg⟩ := M.hc
  rw [z] at e
  exact nomatch hg.symm.trans e
theorem Ms.same {H H' : Hp} {m c g : Addr} {n : Nat} (M : Ms H m c g n) (s : Same H H') : Ms H' m c g n := by
  obtain ⟨cs, l1, h1⟩ := M.hc
  obtain ⟨gs, l2, h2⟩ := M.hg
  exact ⟨s _ _ M.hd, ⟨cs, l1, s _ _ h1⟩, ⟨gs, l2, s _ _ h2⟩, M.cg⟩
theorem Ms.put {H : Hp} {m c g : Addr} {n : Nat} (M : Ms H m c g n) {D : Addr} {o : HO} (h1 : D ≠ m) (h2 : D ≠ c) (h3 : D ≠ g) : Ms (upd H D o) m c g n := by
  obtain ⟨cs, l1, e1⟩ := M.hc
  obtain ⟨gs, l2, e2⟩ := M.hg
  refine ⟨by rw [upd_ne h1.symm]; exact M.hd, ⟨cs, l1, ?_⟩, ⟨gs, l2, ?_⟩, M.cg⟩
  · unfold IntsAt
    rw [upd_ne h2.symm]
    exact e1
  · unfold IntsAt
    rw [upd_ne h3.symm]
    exact e2
theorem Kp.tk {H H' : Hp} {m c g : Addr} {n : Nat} (k : Kp H H' m g) (M : Ms H m c g n) : Tk H H' := by
  obtain ⟨gs, _, e2⟩ := M.hg
  refine fun b xs => ⟨fun e => k b _ e (fun z => ?_) (fun z => ?_), fun o e => k b _ e (fun z => ?_) (fun z => ?_)⟩
  · rw [z, M.hd] at e
    cases e
  · rw [z] at e
    exact nomatch e2.symm.trans e
  · rw [z, M.hd] at e
    cases e
  · rw [z] at e
    exact nomatch e2.symm.trans e
theorem Kp.free {H H' : Hp} {m c g : Addr} {n : Nat} (k : Kp H H' m g) (M : Ms H' m c g n) {D : Addr} (e : H' D = none) : H D = none := by
  cases z : H D with
  | none => rfl
  | some o =>
    have q := k D o z (M.notm e) (M.notg e)
    rw [e] at q
    cases q
theorem Ms.at_m {H : Hp} {m c g : Addr} {n : Nat} (M : Ms H m c g n) {D : Addr} {xs : List V} (e : H D = some (.lst xs)) : D ≠ m := fun z => by
  rw [z, M.hd] at e
  cases e
abbrev rLenSq (K : PySem.W.Frag) : List V → Hp → VK → Prop := fun xs H Q => ∃ p ys, xs = [.ref p] ∧ (SqL K H p ys ∨ SqT K H p ys) ∧ Q (.int ys.length) H
def spLk (K : PySem.W.Frag) : Sp := fun vs H Q _ => ∃ (x y : V) (d : PyData) (b : Bool), vs = [x, y] ∧ Da K H b x d ∧ Da K H b y d ∧ d.showable = true ∧ d.shown.length ≤ sizeLine ∧ d.depth ≤ 60 ∧ Q (.bl true) H
def spLW (K : PySem.W.Frag) : Sp := fun vs H Q _ => ∃ (m c g l : Addr) (n most : Nat) (ls : List Str), vs = [.ref m, .ref l, .int most] ∧ Ms H m c g n ∧ n + 20 < 100000 ∧ LbAt K H l ls ∧ 1 ≤ ls.length ∧ ls.length ≤ 10 ∧ most ≤ 10 ∧
  ∀ (r : Addr) (H' : Hp) (ws : List Str) (n' : Nat), ws.length ≤ most → (∀ x ∈ ws, x ∈ ls) → Kp H H' m g → Ms H' m c g n' → n' ≤ n + 1 + most → SqT K H' r (ws.map V.str) → Q (.ref r) H'
def spLS (K : PySem.W.Frag) : Sp := fun vs H Q _ => ∃ (m c g l : Addr) (n most : Nat) (ls : List Str), vs = [.ref m, .ref l, .int most] ∧ Ms H m c g n ∧ n + 20 < 100000 ∧ LbAt K H l ls ∧ ls.length ≤ 10 ∧ most ≤ 10 ∧
  ∀ (r : Addr) (H' : Hp) (ws : List Str) (n' : Nat), ws.length ≤ most → (∀ x ∈ ws, x ∈ (("any" :: "all" :: ls) : List Str)) → Kp H H' m g → Ms H' m c g n' → n' ≤ n + 1 + most → SqT K H' r (ws.map V.str) → Q (.ref r) H'
section
variable {P : Program} {w : World} {K : PySem.W.Frag} {mg : Str → Option Value} {base : Heap}
theorem scLk : FnScope ["heard", "due"] ["heard", "due"] (defScope sLk) := ⟨rfl, rfl, rfl, by decide +kernel, rfl, by decide +kernel, by decide +kernel⟩
theorem scLW : FnScope ["m", "labels", "most", "turn"] ["m", "labels", "most"] (defScope sLW) := ⟨rfl, rfl, rfl, by decide +kernel, rfl, by decide +kernel, by decide +kernel⟩
theorem scLS : FnScope ["m", "labels", "most", "menu", "turn"] ["m", "labels", "most"] (defScope sLS) := ⟨rfl, rfl, rfl, by decide +kernel, rfl, by decide +kernel, by decide +kernel⟩
theorem ok_Lk {f : Addr} {fd : FuncData} (F : Fun K "_law_like" "_law_like" sLk f fd) (rep : mg "repr" = none) : FnG P w K mg base CX0 1 f fd ["heard", "due"] (spLk K) := by
  refine Fun.okG F scLk (fun vs H Q E h => ?_) (fun cdv A outer s H vs Q E gd hr h => ?_)
  · obtain ⟨x, y, d, b, rfl, _⟩ := h
    rfl
  · obtain ⟨x, y, d, b, rfl, hx, hy, g1, g2, g3, k⟩ := h
    have hu : (A.deeper (envOfC "_law_like" (defScope sLk) s.heap.objs.size f cdv)).units + 100 < cLine := by
      have z := hr.un
      omega
    have gd2 : (A.deeper (envOfC "_law_like" (defScope sLk) s.heap.objs.size f cdv)).guards = some [] := gd
    refine ⟨_, pss_one (ps_ret (pe_cmpR op_eq (pe_callB (call_repr gd2 hu) (by rfl) rep (by decide +kernel) (pa_cons (pv 0) pa_nil)) (pe_callB (call_repr gd2 hu) (by rfl) rep (by decide +kernel) (pa_cons (pv 1) pa_nil)) (nomark _))), ?_⟩
    refine ⟨_, rfl, x, d, b, rfl, hx, g1, g2, g3, _, rfl, y, d, b, rfl, hy, g1, g2, g3, rfl, ?_⟩
    rw [decide_eq_true (rfl : V.str d.shown = V.str d.shown)]
    exact k
theorem ok_LW {f : Addr} {fd : FuncData} {fDr : Addr} {fdDr : FuncData} (F : Fun K "_law_word" "_law_word" sLW f fd) (T : Bt mg) (CDr : Cal K mg "_law_draw" fDr fdDr ["m", "limit"]) (GDr : FnOk P w K mg base CX0 2 fDr fdDr ["m", "limit"] spDra) : FnOk P w K mg base CX0 3 f fd ["m", "labels", "most"] (spLW K) := by
  refine F.ok scLW (fun vs H Q E h => ?_) (fun cdv A outer s H vs Q E hr h => ?_)
  · obtain ⟨m, c, g, l, n, most, ls, rfl, M, nb, el, l1, l2, mo, k⟩ := h
    rfl
  · obtain ⟨m, c, g, l, n, most, ls, rfl, M, nb, el, l1, l2, mo, k⟩ := h
    have hr2 : Room 2 (A.deeper (envOfC "_law_word" (defScope sLW) s.heap.objs.size f cdv)) := Room.mono hr (by decide)
    refine ⟨_, pss_one (ps_ret (pe_callTy call_tuple_of (by rfl) T.tuple (by decide +kernel) (pa_cons (pe_lc (own := [("turn", 3)]) (g := gName 3) (tt := tYes) (te := tOp (rIxT K) (tVar 1) (tCall spDra [] E0 (tCons (tVar 0) (tCons (tCB (rLenSq K) (tCons (tVar 1) tNil)) tNil)))) rfl scLW.nd (pi_range1 (by rfl) T.range (pa_cons (pe_call GDr hr2 (by rfl) CDr.g CDr.k CDr.b .nil pass0 (pa_cons (pv 0) (pa_cons (pe_op op_add (pv 2) pe_int) pa_nil))) pa_nil)) (blkOk_by (N := ["m", "labels", "most", "turn"]) (sc := defScope sLW) (by decide +kernel)) (fun _ _ _ _ _ => pg_name (i := 3) scLW.nd rfl (.inl rfl)) (fun _ _ _ _ _ => pts_nil)
        (fun _ _ _ _ _ => (pe_ix ix_tup (pv 1) (pe_call GDr hr2 (by rfl) CDr.g CDr.k CDr.b .nil pass0 (pa_cons (pv 0) (pa_cons (pe_callB call_len_seq (by rfl) T.len PySem.boot_len (pa_cons (pv 1) pa_nil)) pa_nil))) (fun _ _ => rfl)))) pa_nil))), ?_⟩
    refine ⟨_, rfl, _, rfl, _, _, rfl, rfl, m, c, g, n, _, rfl, by omega, by omega, by omega, M, fun r H1 r0 r1 M1 (k1 : Kp H H1 m g) => ?_⟩
    refine ⟨r, rfl, by omega, by omega, fun D nD => ?_⟩
    refine lc_range (lo := 0) (n := r.toNat) (fun i H' => ∃ (ws : List Str) (n' : Nat), ws.length = i ∧ (∀ x ∈ ws, x ∈ ls) ∧ H' D = some (.lst (ws.map V.str)) ∧ Kp H H' m g ∧ Ms H' m c g n' ∧ n' ≤ n + 1 + i)
      ⟨[], n + 1, rfl, (fun x hx => nomatch hx), upd_same, k1.put (k1.free M1 nD), M1.put (M1.notm nD) (M1.notc nD) (M1.notg nD), by omega⟩ ?_ ?_
    · rintro i H' hi ⟨ws, n', lw, mem, eD, kp, M', nb'⟩
      refine ⟨rfl, yes_of ?_⟩
      refine ⟨_, rfl, _, rfl, _, rfl, l, _, rfl, .inr ((kp.tk M).seq el), m, c, g, n', _, rfl, by rw [List.length_map]; omega, by rw [List.length_map]; omega, by omega, M', fun z H2 z0 z1 M2 (k2 : Kp H' H2 m g) => ?_⟩
      rw [List.length_map] at z1
      have zl : z.toNat < ls.length := by omega
      have ez : z = ((z.toNat : Nat) : Int) := by omega
      refine ⟨l, _, z, _, rfl, rfl, ((kp.trans k2).tk M).seq el, by rw [ez]; exact str_at (List.getElem?_eq_getElem zl), ?_⟩
      refine ⟨_, k2 D _ eD (M1.notm nD) (M1.notg nD), by rw [List.length_map, lw, sizeLine_eq]; omega, ws ++ [ls[z.toNat]], n' + 1, by simp [lw], fun x hx => ?_, ?_, (kp.trans k2).put (k1.free M1 nD), M2.put (M1.notm nD) (M1.notc nD) (M1.notg nD), by omega⟩
      · rcases List.mem_append.mp hx with hx | hx
        · exact mem x hx
        · rw [List.mem_singleton.mp hx]
          exact List.getElem_mem zl
      · rw [upd_same, List.map_append]
        rfl
    rintro H' ⟨ws, n', lw, mem, eD, kp, M', nb'⟩
    refine ⟨D, _, rfl, .inl ⟨SqL.of eD, fun p np => ?_⟩⟩
    exact k p _ ws n' (by omega) mem (kp.put (kp.free M' np)) (M'.put (M'.notm np) (M'.notc np) (M'.notg np)) (by omega) (SqT.of upd_same)
theorem ok_LS {f : Addr} {fd : FuncData} {fDr : Addr} {fdDr : FuncData} (F : Fun K "_law_shape" "_law_shape" sLS f fd) (T : Bt mg) (CDr : Cal K mg "_law_draw" fDr fdDr ["m", "limit"]) (GDr : FnOk P w K mg base CX0 2 fDr fdDr ["m", "limit"] spDra) : FnOk P w K mg base CX0 3 f fd ["m", "labels", "most"] (spLS K) := by
  refine F.ok scLS (fun vs H Q E h => ?_) (fun cdv A outer s H vs Q E hr h => ?_)
  · obtain ⟨m, c, g, l, n, most, ls, rfl, M, nb, el, l2, mo, k⟩ := h
    rfl
  · obtain ⟨m, c, g, l, n, most, ls, rfl, M, nb, el, l2, mo, k⟩ := h
    have hr2 : Room 2 (A.deeper (envOfC "_law_shape" (defScope sLS) s.heap.objs.size f cdv)) := Room.mono hr (by decide)
    refine ⟨_, pss_cons (ps_set (i := 3) scLS.nd rfl (.inr rfl) (pe_op op_cat (pe_callTy call_list_of (by rfl) T.list (by decide +kernel) (pa_cons (pv 1) pa_nil)) (pe_lst (pa_cons pe_str (pa_cons pe_str pa_nil)))))
      (pss_one (ps_ret (pe_callTy call_tuple_of (by rfl) T.tuple (by decide +kernel) (pa_cons (pe_lc (own := [("turn", 4)]) (g := gName 4) (tt := tYes) (te := tOp (rIxL K) (tVar 3) (tCall spDra [] E0 (tCons (tVar 0) (tCons (tCB (rLenSq K) (tCons (tVar 3) tNil)) tNil)))) rfl scLS.nd (pi_range1 (by rfl) T.range (pa_cons (pe_call GDr hr2 (by rfl) CDr.g CDr.k CDr.b .nil pass0 (pa_cons (pv 0) (pa_cons (pe_op op_add (pv 2) pe_int) pa_nil))) pa_nil)) (blkOk_by (N := ["m", "labels", "most", "menu", "turn"]) (sc := defScope sLS) (by decide +kernel)) (fun _ _ _ _ _ => pg_name (i := 4) scLS.nd rfl (.inl rfl)) (fun _ _ _ _ _ => pts_nil)
        (fun _ _ _ _ _ => (pe_ix ix_list (pv 3) (pe_call GDr hr2 (by rfl) CDr.g CDr.k CDr.b .nil pass0 (pa_cons (pv 0) (pa_cons (pe_callB call_len_seq (by rfl) T.len PySem.boot_len (pa_cons (pv 3) pa_nil)) pa_nil))) (fun _ _ => rfl)))) pa_nil)))), ?_⟩
    refine ⟨_, rfl, l, _, rfl, .inr el, fun a na => ⟨by show 2 ≤ sizeLine; rw [sizeLine_eq]; decide, fun b nb2 => ?_⟩⟩
    have nab : a ≠ b := ne_of_none (upd_same (H := H) (a := a) (o := .lst (ls.map V.str))) nb2
    refine ⟨a, b, _, _, rfl, rfl, by rw [upd_ne nab]; exact upd_same, upd_same, by rw [List.length_map, sizeLine_eq]; show ls.length + 2 ≤ _; omega, fun e ne => ?_⟩
    have s3 : Same H (upd (upd (upd H a (.lst (ls.map V.str))) b (.lst [.str "any", .str "all"])) e (.lst (ls.map V.str ++ [.str "any", .str "all"]))) := ((same_upd na).trans (same_upd nb2)).trans (same_upd ne)
    have ee : (upd (upd (upd H a (.lst (ls.map V.str))) b (.lst [.str "any", .str "all"])) e (.lst (ls.map V.str ++ [.str "any", .str "all"]))) e = some (.lst ((ls ++ (["any", "all"] : List Str)).map V.str)) := by
      rw [upd_same, List.map_append]
      rfl
    have M0 := M.same s3
    have nem : e ≠ m := M0.at_m ee
    have neg : e ≠ g := (M.same ((same_upd (o := .lst (ls.map V.str)) na).trans (same_upd (o := .lst [.str "any", .str "all"]) nb2))).notg ne
    revert s3 ee M0
    generalize upd (upd (upd H a (.lst (ls.map V.str))) b (.lst [.str "any", .str "all"])) e (.lst (ls.map V.str ++ [.str "any", .str "all"])) = H0
    intro s3 ee M0
    refine ⟨_, rfl, _, rfl, _, _, rfl, rfl, m, c, g, n, _, rfl, by omega, by omega, by omega, M0, fun r H1 r0 r1 M1 (k1 : Kp H0 H1 m g) => ?_⟩
    have k01 : Kp H H1 m g := (Kp.of s3).trans k1
    refine ⟨r, rfl, by omega, by omega, fun D nD => ?_⟩
    refine lc_range (lo := 0) (n := r.toNat) (fun i H' => ∃ (ws : List Str) (n' : Nat), ws.length = i ∧ (∀ x ∈ ws, x ∈ (("any" :: "all" :: ls) : List Str)) ∧ H' D = some (.lst (ws.map V.str)) ∧ H' e = some (.lst ((ls ++ (["any", "all"] : List Str)).map V.str)) ∧ Kp H H' m g ∧ Ms H' m c g n' ∧ n' ≤ n + 1 + i)
      ⟨[], n + 1, rfl, (fun x hx => nomatch hx), upd_same, by rw [upd_ne (ne_of_none (k1 _ _ ee nem neg) nD)]; exact k1 _ _ ee nem neg, k01.put (k01.free M1 nD), M1.put (M1.notm nD) (M1.notc nD) (M1.notg nD), by omega⟩ ?_ ?_
    · rintro i H' hi ⟨ws, n', lw, mem, eD, ee', kp, M', nb'⟩
      refine ⟨rfl, yes_of ?_⟩
      refine ⟨_, rfl, _, rfl, _, rfl, e, _, rfl, .inl (SqL.of ee'), m, c, g, n', _, rfl, by rw [List.length_map, List.length_append]; show (0 : Int) < ((ls.length + 2 : Nat) : Int); omega, by rw [List.length_map, List.length_append]; show ((ls.length + 2 : Nat) : Int) < 1000000; omega, by omega, M', fun z H2 z0 z1 M2 (k2 : Kp H' H2 m g) => ?_⟩
      have z1 : z < ((ls ++ (["any", "all"] : List Str)).length : Nat) := by
        rw [List.length_map] at z1
        exact z1
      have zl : z.toNat < (ls ++ (["any", "all"] : List Str)).length := by omega
      have ez : z = ((z.toNat : Nat) : Int) := by omega
      refine ⟨e, _, z, _, rfl, rfl, SqL.of (k2 _ _ ee' nem neg), by rw [ez]; exact str_at (List.getElem?_eq_getElem zl), ?_⟩
      have nDe : D ≠ e := fun q => by
        rw [q] at nD
        exact nomatch (k1 _ _ ee nem neg).symm.trans nD
      refine ⟨_, k2 D _ eD (M1.notm nD) (M1.notg nD), by rw [List.length_map, lw, sizeLine_eq]; omega, ws ++ [(ls ++ (["any", "all"] : List Str))[z.toNat]], n' + 1, by simp [lw], fun x hx => ?_, ?_, by rw [upd_ne nDe.symm]; exact k2 _ _ ee' nem neg, (kp.trans k2).put (k01.free M1 nD), M2.put (M1.notm nD) (M1.notc nD) (M1.notg nD), by omega⟩
      · rcases List.mem_append.mp hx with hx | hx
        · exact mem x hx
        · have q := List.getElem_mem zl
          rw [← List.mem_singleton.mp hx] at q
          rcases List.mem_append.mp q with q | q
          · exact List.mem_cons_of_mem _ (List.mem_cons_of_mem _ q)
          · simp only [List.mem_cons, List.not_mem_nil, or_false] at q
            rcases q with q | q
            · rw [q]
              exact List.mem_cons_self
            · rw [q]
              exact List.mem_cons_of_mem _ List.mem_cons_self
      · rw [upd_same, List.map_append]
        rfl
    rintro H' ⟨ws, n', lw, mem, eD, ee', kp, M', nb'⟩
    refine ⟨D, _, rfl, .inl ⟨SqL.of eD, fun p np => ?_⟩⟩
    exact k p _ ws n' (by omega) mem (kp.put (kp.free M' np)) (M'.put (M'.notm np) (M'.notc np) (M'.notg np)) (by omega) (SqT.of upd_same)
end
end Lr

namespace Lr
open PySem PySem.Spec PyProof.Rows L2

/-top-/
theorem ixT {X : Cx} {K : PySem.W.Frag} (h : X.K = K := by rfl) : IxR X (rIxT K) := h ▸ ix_tup
theorem ixL {X : Cx} {K : PySem.W.Frag} (h : X.K = K := by rfl) : IxR X (rIxL K) := h ▸ ix_list
theorem lenK {X : Cx} {K : PySem.W.Frag} (h : X.K = K := by rfl) : CallR X (.builtin "len") (rLenSq K) := h ▸ call_len_seq
theorem notInK {X : Cx} {K : PySem.W.Frag} (hu : X.A.units + 65 < cLine) (h : X.K = K := by rfl) : OpR X (compareOp .NotIn) (rNotInD K) := h ▸ op_notInD hu
theorem slLK {X : Cx} {K : PySem.W.Frag} (h : X.K = K := by rfl) : SlR X (rSlL K) := h ▸ sl_list
theorem pg_tupK {X : Cx} {K : PySem.W.Frag} {es : List Expr} {k : Nat} {t : TGs} {n : Nat} {pos : Pos} (hc : X.calm = true) (h : PGs X es t) (e : X.K = K := by rfl)
    (hn : (assignEach es X.env).length = n := by rfl) (hst : (assignEach es X.env).findIdx? (·.1) = none := by rfl) : PG X (.Tuple es k pos) (gTup K n t) := e ▸ pg_tup hc h hn hst
theorem L5_lay {x : Str} (h : x ∈ L5) : PyData.strOk x = true := by
  have z : (L5.all PyData.strOk) = true := by decide +kernel
  exact List.all_eq_true.mp z x h
theorem lay_wd : ∀ {w : List Str}, (∀ x ∈ w, x ∈ L5) → PyData.canLayAll0 (w.map PyData.str) = true
  | [], _ => rfl
  | x :: w, h => by
    show (PyData.strOk x && PyData.canLayAll0 (w.map PyData.str)) = true
    rw [L5_lay (h x List.mem_cons_self), lay_wd fun y hy => h y (List.mem_cons_of_mem _ hy)]
    rfl
theorem depth_strs : ∀ w : List Str, PyData.depthAll (w.map PyData.str) = 0
  | [] => rfl
  | x :: w => by
    show max 0 (PyData.depthAll (w.map PyData.str)) = 0
    rw [depth_strs w]
    rfl
theorem lay_ch {c : Chc} (h : ∀ x ∈ c.2, x ∈ L5) : (dCh c).canLay0 = true := by
  show (true && (PyData.canLayAll0 (c.2.map PyData.str) && true)) = true
  rw [lay_wd h]
  rfl
theorem depth_ch (c : Chc) : (dCh c).depth = 2 := by
  show max 0 (max (PyData.depthAll (c.2.map PyData.str) + 1) 0) + 1 = 2
  rw [depth_strs]
  rfl
theorem shaped_ch {c : Chc} (h : ∀ x ∈ c.2, x ∈ L5) : SeqAt.shaped (dCh c) = true := by
  unfold SeqAt.shaped
  rw [lay_ch h, depth_ch]
  rfl
theorem shaped_chs : ∀ {cs : List Chc}, (∀ c ∈ cs, ∀ x ∈ c.2, x ∈ L5) → PyData.canLayAll0 (cs.map dCh) = true ∧ PyData.depthAll (cs.map dCh) ≤ 2
  | [], _ => ⟨rfl, Nat.zero_le _⟩
  | c :: cs, h => by
    obtain ⟨h1, h2⟩ := shaped_chs fun d hd => h d (List.mem_cons_of_mem _ hd)
    refine ⟨?_, ?_⟩
    · show ((dCh c).canLay0 && PyData.canLayAll0 (cs.map dCh)) = true
      rw [lay_ch (h c List.mem_cons_self), h1]
      rfl
    · show max (dCh c).depth (PyData.depthAll (cs.map dCh)) ≤ 2
      rw [depth_ch]
      omega
theorem shaped_lst {cs : List Chc} (h : ∀ c ∈ cs, ∀ x ∈ c.2, x ∈ L5) : SeqAt.shaped (.list (cs.map dCh)) = true := by
  obtain ⟨h1, h2⟩ := shaped_chs h
  unfold SeqAt.shaped
  rw [Bool.and_eq_true, decide_eq_true_eq]
  refine ⟨h1, ?_⟩
  show PyData.depthAll (cs.map dCh) + 1 ≤ 64
  omega
/-- one of 1, 1, 2, 3 -/
theorem pick3 {r : Int} (h0 : 0 ≤ r) (h1 : r < 4) : ∃ q : Nat, 1 ≤ q ∧ q ≤ 3 ∧ atI [V.int 1, V.int 1, V.int 2, V.int 3] r = some (V.int (q : Nat)) := by
  have c : r = 0 ∨ r = 1 ∨ r = 2 ∨ r = 3 := by omega
  rcases c with rfl | rfl | rfl | rfl
  · exact ⟨1, by decide, by decide, rfl⟩
  · exact ⟨1, by decide, by decide, rfl⟩
  · exact ⟨2, by decide, by decide, rfl⟩
  · exact ⟨3, by decide, by decide, rfl⟩
/-- the roads at the list P -/
def RlAt (K : PySem.W.Frag) (H : Hp) (p : Addr) (rd : List (Int × Int)) : Prop := ∃ ps : List Addr, H p = some (.lst (ps.map V.ref)) ∧ Paired (fun q a => SqT K H q [.int a.1, .int a.2]) ps rd
theorem RlAt.keep {K : PySem.W.Frag} {H H' : Hp} {p : Addr} {rd : List (Int × Int)} (h : RlAt K H p rd) (t : Tk H H') (k : ∀ xs, H p = some (.lst xs) → H' p = some (.lst xs)) : RlAt K H' p rd := by
  obtain ⟨ps, e, pr⟩ := h
  exact ⟨ps, k _ e, paired_mono (fun q a x => t.seq x) pr⟩
theorem RlAt.at {K : PySem.W.Frag} {H : Hp} {p : Addr} {rd : List (Int × Int)} (h : RlAt K H p rd) {j : Int} (j0 : 0 ≤ j) (j1 : j < (rd.length : Nat)) : ∃ (xs : List V) (a : Addr), SqL K H p xs ∧ atI xs j = some (V.ref a) ∧ SqT K H a [.int (rd.getD j.toNat (0, 0)).1, .int (rd.getD j.toNat (0, 0)).2] := by
  obtain ⟨ps, e, pr⟩ := h
  have jn : j.toNat < rd.length := by omega
  obtain ⟨a, ha, hs⟩ := paired_at pr j.toNat (rd.getD j.toNat (0, 0)) (by rw [List.getD_eq_getElem?_getD, List.getElem?_eq_getElem jn]; rfl)
  refine ⟨_, a, SqL.of e, ?_, hs⟩
  have ej : j = ((j.toNat : Nat) : Int) := by omega
  rw [ej]
  exact atI_nat (by rw [List.getElem?_map, ha]; rfl)
theorem eqv_nil : ∀ os : List Int, PyData.eqv (.list (os.map PyData.int)) (.list []) = os.isEmpty
  | [] => rfl
  | _ :: _ => rfl
theorem pick_read {K : PySem.W.Frag} {H : Hp} {m c g : Addr} {n : Nat} {σ : L2.St} {Q : V → Hp → Prop} (M : Ms H m c g n) (nb : n < 100000) (s0 : σ[0]? = some (some (.ref m)))
    (k : ∀ (q : Nat) (H' : Hp), 1 ≤ q → q ≤ 3 → Kp H H' m g → Ms H' m c g (n + 1) → Q (.int (q : Nat)) H') :
    tOp (rIxL K) (tLst (tCons (tC (.int 1)) (tCons (tC (.int 1)) (tCons (tC (.int 2)) (tCons (tC (.int 3)) tNil))))) (tCall spDra [] E0 (tCons (tVar 0) (tCons (tC (.int 4)) tNil))) σ H Q := by
  refine ⟨by show 4 ≤ sizeLine; rw [sizeLine_eq]; decide, fun L nL => ?_⟩
  have s1 : Same H (upd H L (.lst [.int 1, .int 1, .int 2, .int 3])) := same_upd nL
  refine ⟨_, s0, m, c, g, n, 4, rfl, by decide, by decide, nb, M.same s1, fun r H' r0 r1 M' k' => ?_⟩
  obtain ⟨q, q1, q3, at_r⟩ := pick3 r0 r1
  exact ⟨L, _, r, _, rfl, rfl, SqL.of (k' _ _ upd_same (M.notm nL) (M.notg nL)), at_r, k q H' q1 q3 ((Kp.of s1).trans k') M'⟩
def spLG (K : PySem.W.Frag) : Sp := fun vs H Q _ => ∃ (m c g p l : Addr) (road : Int) (n : Nat) (rd : List (Int × Int)) (ls : List Str), vs = [.ref m, .ref p, .ref l, .int road] ∧ Ms H m c g n ∧ n + 200 < 100000 ∧ p ≠ m ∧ p ≠ g ∧ RlAt K H p rd ∧ rd.length ≤ 10 ∧ 0 ≤ road ∧ road < (rd.length : Nat) ∧ LbAt K H l ls ∧ 1 ≤ ls.length ∧ ls.length ≤ 10 ∧ (∀ x ∈ ls, x ∈ L5) ∧
  ∀ (v : V) (H' : Hp) (gs : Gs) (n' : Nat), Kp H H' m g → Ms H' m c g n' → n' ≤ n + 100 → Dp K H' v (dGs gs) → GsOk rd ls road gs → Q v H'
section
variable {P : Program} {w : World} {K : PySem.W.Frag} {mg : Str → Option Value} {base : Heap}
theorem scLG : FnScope ["m", "pairs", "labels", "road", "outs", "found", "turn", "some", "more", "word", "out", "one", "at"] ["m", "pairs", "labels", "road"] (defScope sLG) := ⟨rfl, rfl, rfl, by decide +kernel, rfl, by decide +kernel, by decide +kernel⟩
theorem ok_LG {f : Addr} {fd : FuncData} {fDr : Addr} {fdDr : FuncData} {fLW : Addr} {fdLW : FuncData} (F : Fun K "_law_groups" "_law_groups" sLG f fd) (T : Bt mg) (CDr : Cal K mg "_law_draw" fDr fdDr ["m", "limit"]) (GDr : FnOk P w K mg base CX0 2 fDr fdDr ["m", "limit"] spDra) (CLW : Cal K mg "_law_word" fLW fdLW ["m", "labels", "most"]) (GLW : FnOk P w K mg base CX0 3 fLW fdLW ["m", "labels", "most"] (spLW K)) : FnOk P w K mg base CX0 4 f fd ["m", "pairs", "labels", "road"] (spLG K) := by
  refine F.ok scLG (fun vs H Q E h => ?_) (fun cdv A outer s H vs Q E hr h => ?_)
  · obtain ⟨m, c, g, p, l, road, n, rd, ls, rfl, M, nb, npm, npg, rl, r10, h0, h1, el, l1, l2, l5, k⟩ := h
    rfl
  · obtain ⟨m, c, g, p, l, road, n, rd, ls, rfl, M, nb, npm, npg, rl, r10, h0, h1, el, l1, l2, l5, k⟩ := h
    have hr2 : Room 2 (A.deeper (envOfC "_law_groups" (defScope sLG) s.heap.objs.size f cdv)) := Room.mono hr (by decide)
    have hr3 : Room 3 (A.deeper (envOfC "_law_groups" (defScope sLG) s.heap.objs.size f cdv)) := Room.mono hr (by decide)
    have hu64 : (A.deeper (envOfC "_law_groups" (defScope sLG) s.heap.objs.size f cdv)).units + 64 < cLine := by
      have z := hr.un
      omega
    have hu65 : (A.deeper (envOfC "_law_groups" (defScope sLG) s.heap.objs.size f cdv)).units + 65 < cLine := by
      have z := hr.un
      omega
    refine ⟨_, pss_cons (ps_setLc (i := 4) (own := [("out", 10)]) (g := gName 10) (tt := _) rfl scLG.nd rfl rfl (sw_true rfl rfl rfl (by decide +kernel)) (pi_range1 (by rfl) T.range (pa_cons (pe_callB (lenK (K := K)) (by rfl) T.len PySem.boot_len (pa_cons (pv 1) pa_nil)) pa_nil)) (blkOk_by (N := ["m", "pairs", "labels", "road", "outs", "found", "turn", "some", "more", "word", "out", "one", "at"]) (sc := defScope sLG) (by decide +kernel)) (fun _ _ _ _ _ => pg_name (i := 10) scLG.nd rfl (.inl rfl)) (fun _ _ _ _ _ => pts_one (pt_cmpR op_eq (pe_ix (ixT (K := K)) (pe_ix (ixL (K := K)) (pv 1) (pv 10) (fun _ _ => rfl)) pe_int (fun _ _ => rfl)) (pe_ix (ixT (K := K)) (pe_ix (ixL (K := K)) (pv 1) (pv 3) (fun _ _ => rfl)) pe_int (fun _ _ => rfl)) (nomark _))) (fun _ _ _ _ _ => pv 10))
      (pss_cons (ps_if (PW.pt (pw_or (pt_cmpR (op_eqD hu64) (pv 4) (pe_lst pa_nil) (nomark _)) (pw_or1 (pt_cmpR op_eq (pe_call GDr hr2 (by rfl) CDr.g CDr.k CDr.b .nil pass0 (pa_cons (pv 0) (pa_cons pe_int pa_nil))) pe_int (nomark _))))) (pss_one (ps_ret pe_str)) pss_nil)
      (pss_cons (ps_set (i := 5) scLG.nd rfl (by first | exact Or.inl rfl | exact Or.inr rfl) (pe_lst pa_nil))
      (pss_cons (ps_for PassesOwn.never rfl (pi_range1 (by rfl) T.range (pa_cons (pe_ix (ixL (K := K)) (pe_lst (pa_cons pe_int (pa_cons pe_int (pa_cons pe_int (pa_cons pe_int pa_nil))))) (pe_call GDr hr2 (by rfl) CDr.g CDr.k CDr.b .nil pass0 (pa_cons (pv 0) (pa_cons pe_int pa_nil))) (fun _ _ => rfl)) pa_nil)) (pg_name (i := 6) scLG.nd rfl (by first | exact Or.inl rfl | exact Or.inr rfl))
        (pss_cons (ps_set (i := 7) scLG.nd rfl (by first | exact Or.inl rfl | exact Or.inr rfl) (pe_lst pa_nil))
        (pss_cons (ps_for PassesOwn.never rfl (pi_range1 (by rfl) T.range (pa_cons (pe_ix (ixL (K := K)) (pe_lst (pa_cons pe_int (pa_cons pe_int (pa_cons pe_int (pa_cons pe_int pa_nil))))) (pe_call GDr hr2 (by rfl) CDr.g CDr.k CDr.b .nil pass0 (pa_cons (pv 0) (pa_cons pe_int pa_nil))) (fun _ _ => rfl)) pa_nil)) (pg_name (i := 8) scLG.nd rfl (by first | exact Or.inl rfl | exact Or.inr rfl))
          (pss_cons (ps_set (i := 9) scLG.nd rfl (by first | exact Or.inl rfl | exact Or.inr rfl) (pe_call GLW hr3 (by rfl) CLW.g CLW.k CLW.b .nil pass0 (pa_cons (pv 0) (pa_cons (pv 2) (pa_cons (pe_ix (ixL (K := K)) (pe_lst (pa_cons pe_int (pa_cons pe_int (pa_cons pe_int (pa_cons pe_int pa_nil))))) (pe_call GDr hr2 (by rfl) CDr.g CDr.k CDr.b .nil pass0 (pa_cons (pv 0) (pa_cons pe_int pa_nil))) (fun _ _ => rfl)) pa_nil)))))
            (pss_one (ps_expr (pe_bm PySem.F.plainAttrs_list PySem.F.slot_list_append PySem.F.type_list_append mt_append (pv 7) (pa_cons (pe_tup (pa_cons (pe_ix (ixL (K := K)) (pv 4) (pe_call GDr hr2 (by rfl) CDr.g CDr.k CDr.b .nil pass0 (pa_cons (pv 0) (pa_cons (pe_callB (lenK (K := K)) (by rfl) T.len PySem.boot_len (pa_cons (pv 4) pa_nil)) pa_nil))) (fun _ _ => rfl)) (pa_cons (pv 9) pa_nil))) pa_nil))))))
          (pss_one (ps_expr (pe_bm PySem.F.plainAttrs_list PySem.F.slot_list_append PySem.F.type_list_append mt_append (pv 5) (pa_cons (pe_callTy call_tuple_of (by rfl) T.tuple (by decide +kernel) (pa_cons (pe_lc (own := [("at", 12), ("one", 11)]) (g := gTup K 2 (gCons (gName 12) (gCons (gName 11) gNil))) (tt := _) rfl scLG.nd (pi_enum (by rfl) T.enum (pa_cons (pv 7) pa_nil)) (blkOk_by (N := ["m", "pairs", "labels", "road", "outs", "found", "turn", "some", "more", "word", "out", "one", "at"]) (sc := defScope sLG) (by decide +kernel)) (fun _ _ _ _ _ => pg_tupK (K := K) rfl (pgs_cons (pg_name (i := 12) scLG.nd rfl (.inl rfl)) (pgs_cons (pg_name (i := 11) scLG.nd rfl (.inl rfl)) pgs_nil))) (fun _ _ _ _ _ => pts_one (pt_cmpR (notInK (K := K) hu65) (pv 11) (pe_slice (slLK (K := K)) (pv 7) po_none (po_some (pv 12))) (by rfl)))
        (fun _ _ _ _ _ => pv 11)) pa_nil)) pa_nil)))))))
      (pss_one (ps_ret (pe_callTy call_tuple_of (by rfl) T.tuple (by decide +kernel) (pa_cons (pv 5) pa_nil))))))), ?_⟩
    obtain ⟨ps, ep, pr⟩ := id rl
    have lp := paired_len pr
    refine ⟨_, rfl, p, _, rfl, .inl (SqL.of ep), _, rfl, by omega, by rw [List.length_map]; omega, fun O nO => ?_⟩
    have en : (((ps.map V.ref).length : Nat) : Int).toNat = rd.length := by rw [List.length_map, lp]; omega
    rw [en]
    refine lc_range (lo := 0) (n := rd.length) (fun i H' => ∃ os : List Int, H' O = some (.lst (os.map V.int)) ∧ Same H H' ∧ os.length ≤ i ∧ i ≤ 10 ∧ ∀ o ∈ os, 0 ≤ o ∧ o < (rd.length : Nat) ∧ (rd.getD o.toNat (0, 0)).1 = (rd.getD road.toNat (0, 0)).2) ⟨[], upd_same, same_upd nO, Nat.le_refl _, by decide, fun o ho => nomatch ho⟩ ?_ ?_
    · rintro i H' hi ⟨os, eO, sm, lo, i10, oo⟩
      have rl' : RlAt K H' p rd := rl.keep (Tk.of sm) fun xs e => sm _ _ e
      have z0 : (0 : Int) + (i : Int) = (i : Int) := by omega
      rw [z0]
      obtain ⟨xs1, a1, q1, t1, s1⟩ := rl'.at (j := (i : Int)) (by omega) (by omega)
      obtain ⟨xs2, a2, q2, t2, s2⟩ := rl'.at h0 h1
      refine ⟨rfl, ?_⟩
      refine ⟨_, rfl, _, rfl, p, _, _, _, rfl, rfl, q1, t1, a1, _, _, _, rfl, rfl, s1, (show atI [V.int (rd.getD (i : Int).toNat (0, 0)).1, V.int (rd.getD (i : Int).toNat (0, 0)).2] 0 = some (V.int (rd.getD (i : Int).toNat (0, 0)).1) from rfl), ?_⟩
      refine ⟨_, rfl, _, rfl, p, _, _, _, rfl, rfl, q2, t2, a2, _, _, _, rfl, rfl, s2, (show atI [V.int (rd.getD road.toNat (0, 0)).1, V.int (rd.getD road.toNat (0, 0)).2] 1 = some (V.int (rd.getD road.toNat (0, 0)).2) from rfl), ?_⟩
      refine ⟨rfl, _, rfl, ?_⟩
      by_cases e : (rd.getD (i : Int).toNat (0, 0)).1 = (rd.getD road.toNat (0, 0)).2
      · refine ifT (decide_eq_true (by rw [e])) ?_
        refine ⟨_, rfl, _, eO, by rw [List.length_map, sizeLine_eq]; omega, os ++ [(i : Int)], ?_, fun b o e => by rw [upd_ne (ne_of_none e nO)]; exact sm b o e, by simp; omega, by omega, fun o ho => ?_⟩
        · rw [upd_same, List.map_append]
          rfl
        · rcases List.mem_append.mp ho with ho | ho
          · exact oo o ho
          · rw [List.mem_singleton.mp ho]
            exact ⟨by omega, by omega, e⟩
      · exact ifF (decide_eq_false (fun z => e (by injection z))) ⟨os, eO, sm, by omega, by omega, oo⟩
    rintro H1 ⟨os, eO, s1, lo, _, oo⟩
    have M1 := M.same s1
    have nOm : O ≠ m := M1.at_m eO
    have nOg : O ≠ g := M.notg nO
    refine ⟨_, rfl, Nat.zero_le _, fun Z nZ => ?_⟩
    have s2 : Same H1 (upd H1 Z (.lst [])) := same_upd nZ
    refine ⟨.list (os.map .int), .list [], .lst (SqL.of (s2 _ _ eO)) (dp_ints os), .lst (SqL.of upd_same) .nil, shaped_ints os, rfl, _, rfl, ?_⟩
    by_cases emp : os = []
    · refine ifT (by rw [eqv_nil, emp]; rfl) ?_
      exact k (.str "home") _ none n (Kp.of (s1.trans s2)) (M.same (s1.trans s2)) (by omega) (.str "home") trivial
    refine ifF (by rw [eqv_nil]; cases os with | nil => exact absurd rfl emp | cons _ _ => rfl) ?_
    have M2 := M1.same s2
    have eO2 := s2 _ _ eO
    have k2 : Kp H (upd H1 Z (.lst [])) m g := Kp.of (s1.trans s2)
    revert M2 eO2 k2
    generalize upd H1 Z (.lst []) = H2
    intro M2 eO2 k2
    refine ⟨_, rfl, m, c, g, n, 9, rfl, by decide, by decide, by omega, M2, fun r H3 r0 r1 M3 (k3 : Kp H2 H3 m g) => ⟨rfl, _, rfl, ?_⟩⟩
    have k03 := k2.trans k3
    have eO3 := k3 _ _ eO2 nOm nOg
    refine ite2 (fun _ => ?_) (fun _ => ?_)
    · exact k (.str "home") _ none (n + 1) k03 M3 (by omega) (.str "home") trivial
    refine ⟨Nat.zero_le _, fun Fa nF => ?_⟩
    have nFm := M3.notm nF
    have nFg := M3.notg nF
    have nFc := M3.notc nF
    have HFa := k03.free M3 nF
    have nOF : O ≠ Fa := ne_of_none eO3 nF
    have k04 : Kp H (upd H3 Fa (.lst [])) m g := k03.put HFa
    have M4 : Ms (upd H3 Fa (.lst [])) m c g (n + 1) := M3.put nFm nFc nFg
    have eO4 : (upd H3 Fa (.lst [])) O = some (.lst (os.map V.int)) := by rw [upd_ne nOF]; exact eO3
    have eF4 : (upd H3 Fa (.lst [])) Fa = some (.lst []) := upd_same
    revert k04 M4 eO4 eF4
    generalize upd H3 Fa (.lst []) = H4
    intro k04 M4 eO4 eF4
    refine pick_read (K := K) M4 (by omega) rfl fun q H5 q1 q3 (k5 : Kp H4 H5 m g) M5 => ?_
    refine ⟨(q : Int), rfl, by omega, by omega, ?_⟩
    have eq_ : ((q : Nat) : Int).toNat = q := by omega
    rw [eq_]
    refine for_range (lo := 0) (n := q) (fun i σ H' => ∃ (u6 u7 u8 u9 : Option V) (us : List V) (gs : List Gr) (n' : Nat), σ = [some (.ref m), some (.ref p), some (.ref l), some (.int road), some (.ref O), some (.ref Fa), u6, u7, u8, u9, none, none, none] ∧ Kp H H' m g ∧ Ms H' m c g n' ∧ n' ≤ n + 2 + 20 * i ∧ H' O = some (.lst (os.map V.int)) ∧ H' Fa = some (.lst us) ∧ DpAll K H' us (gs.map dGr) ∧ gs.length = i ∧ ∀ e ∈ gs, GrOk rd ls road e)
      ⟨_, _, _, _, [], [], n + 2, rfl, k04.trans k5, M5, by omega, k5 _ _ eO4 nOm nOg, k5 _ _ eF4 nFm nFg, .nil, rfl, fun e he => nomatch he⟩ ?_ ?_
    · rintro i σ H' hi ⟨u6, u7, u8, u9, us, gs, n', rfl, kp, M', nb', eO', eF', dus, lgs, gok⟩
      refine ⟨Nat.zero_le _, fun S nS => ?_⟩
      have nSm := M'.notm nS
      have nSg := M'.notg nS
      have nSc := M'.notc nS
      have HS := kp.free M' nS
      have nOS : O ≠ S := ne_of_none eO' nS
      have nFS : Fa ≠ S := ne_of_none eF' nS
      have kS : Kp H' (upd H' S (.lst [])) m g := Kp.of (same_upd nS)
      have MS : Ms (upd H' S (.lst [])) m c g n' := M'.put nSm nSc nSg
      have eS : (upd H' S (.lst [])) S = some (.lst []) := upd_same
      revert kS MS eS
      generalize upd H' S (.lst []) = HB
      intro kS MS eS
      refine pick_read (K := K) MS (by omega) rfl fun q' H6 q1' q3' (k6 : Kp HB H6 m g) M6 => ?_
      refine ⟨(q' : Int), rfl, by omega, by omega, ?_⟩
      have eq' : ((q' : Nat) : Int).toNat = q' := by omega
      rw [eq']
      refine for_range (lo := 0) (n := q') (fun j σ H2 => ∃ (u8 u9 : Option V) (zs : List V) (cs : List Chc) (n2 : Nat), σ = [some (.ref m), some (.ref p), some (.ref l), some (.int road), some (.ref O), some (.ref Fa), some (.int (0 + (i : Int))), some (.ref S), u8, u9, none, none, none] ∧ Kp H' H2 m g ∧ Ms H2 m c g n2 ∧ n2 ≤ n' + 1 + 6 * j ∧ H2 S = some (.lst zs) ∧ DpAll K H2 zs (cs.map dCh) ∧ cs.length = j ∧ ∀ e ∈ cs, ChOk rd ls road e)
        ⟨_, _, [], [], n' + 1, rfl, kS.trans k6, M6, by omega, k6 _ _ eS nSm nSg, .nil, rfl, fun e he => nomatch he⟩ ?_ ?_
      · rintro j σ H2 hj ⟨u8, u9, zs, cs, n2, rfl, kp2, M2', nb2, eS2, dzs, lcs, cok⟩
        have tk2 : Tk H H2 := (kp.trans kp2).tk M
        refine ⟨_, rfl, _, rfl, pick_read (K := K) M2' (by omega) rfl fun q2 H7 q21 q23 (k7 : Kp H2 H7 m g) M7 => ?_⟩
        refine ⟨m, c, g, l, _, q2, ls, rfl, M7, by omega, ((kp.trans (kp2.trans k7)).tk M).seq el, l1, l2, by omega, fun wr H8 ws n8 lw mw (k8 : Kp H7 H8 m g) M8 nb8 sw => ?_⟩
        have kp8 : Kp H' H8 m g := (kp2.trans k7).trans k8
        have eS8 := k8 _ _ (k7 _ _ eS2 nSm nSg) nSm nSg
        have eO8 := kp8 _ _ eO' nOm nOg
        refine ⟨_, rfl, .inl ⟨rfl, _, SqL.of eS8⟩, ?_⟩
        have opos : 0 < os.length := by
          cases os with
          | nil => exact absurd rfl emp
          | cons _ _ => exact Nat.succ_pos _
        refine ⟨_, rfl, _, rfl, _, rfl, O, _, rfl, .inl (SqL.of eO8), m, c, g, n8, _, rfl, by rw [List.length_map]; omega, by rw [List.length_map]; omega, by omega, M8, fun z H9 z0 z1 M9 (k9 : Kp H8 H9 m g) => ?_⟩
        rw [List.length_map] at z1
        have zl : z.toNat < os.length := by omega
        have ez : z = ((z.toNat : Nat) : Int) := by omega
        have om := oo _ (List.getElem_mem zl)
        have at_z : atI (os.map V.int) z = some (V.int os[z.toNat]) := by
          have q : atI (os.map V.int) ((z.toNat : Nat) : Int) = some (V.int os[z.toNat]) := atI_nat (by rw [List.getElem?_map, List.getElem?_eq_getElem zl]; rfl)
          rw [← ez] at q
          exact q
        refine ⟨O, _, z, V.int os[z.toNat], rfl, rfl, SqL.of (k9 _ _ eO8 nOm nOg), at_z, ?_⟩
        refine ⟨_, rfl, by show 2 ≤ sizeLine; rw [sizeLine_eq]; decide, fun tt ntt => ?_⟩
        have eS9 := k9 _ _ eS8 nSm nSg
        have nSt : S ≠ tt := ne_of_none eS9 ntt
        refine ⟨S, _, _, rfl, rfl, by rw [upd_ne nSt]; exact eS9, by have z := dpAll_len dzs; rw [List.length_map] at z; rw [sizeLine_eq]; omega, ?_⟩
        have kp9 : Kp H' H9 m g := kp8.trans k9
        have kpT : Kp H' (upd H9 tt (.tup [.int os[z.toNat], .ref wr])) m g := kp9.put (kp9.free M9 ntt)
        have MT : Ms (upd H9 tt (.tup [.int os[z.toNat], .ref wr])) m c g (n8 + 1) := M9.put (M9.notm ntt) (M9.notc ntt) (M9.notg ntt)
        have tkT : Tk H2 (upd H9 tt (.tup [.int os[z.toNat], .ref wr])) := (((k7.trans k8).trans k9).tk M2').trans (Tk.of (same_upd ntt))
        have dT : Dp K (upd H9 tt (.tup [.int os[z.toNat], .ref wr])) (.ref tt) (dCh (os[z.toNat], ws)) := by
          refine .tup (SqT.of upd_same) (.cons (.int _) (.cons (.tup ?_ (dp_strs ws)) .nil))
          exact ((k9.tk M8).trans (Tk.of (same_upd ntt))).seq sw
        have tkS : Tk (upd H9 tt (.tup [.int os[z.toNat], .ref wr])) (upd (upd H9 tt (.tup [.int os[z.toNat], .ref wr])) S (.lst (zs ++ [.ref tt]))) := fun b xs => by
          have old : (upd H9 tt (.tup [.int os[z.toNat], .ref wr])) S = some (.lst zs) := by rw [upd_ne nSt]; exact eS9
          refine ⟨fun e => ?_, fun o e => ?_⟩
          · rw [upd_ne (fun q => by rw [q, old] at e; cases e)]
            exact e
          · rw [upd_ne (fun q => by rw [q, old] at e; cases e)]
            exact e
        refine ⟨_, _, _, cs ++ [(os[z.toNat], ws)], n8 + 1, rfl, kpT.put nS, MT.put nSm nSc nSg, by omega, upd_same, ?_, by simp [lcs], fun e he => ?_⟩
        · rw [List.map_append]
          refine dpAll_app (dp_tkAll (tkT.trans tkS) _ _ (flat_map _ flat_ch _) dzs) (.cons (dp_tk tkS _ _ (flat_ch _) dT) .nil)
        · rcases List.mem_append.mp he with he | he
          · exact cok e he
          · rw [List.mem_singleton.mp he]
            exact ⟨om.1, om.2.1, om.2.2, by show ws.length ≤ 3; omega, mw⟩
      rintro σ H2 ⟨u8', u9', zs, cs, n2, rfl, kp2, M2', nb2, eS2, dzs, lcs, cok⟩
      have eF2 := kp2 _ _ eF' nFm nFg
      have lz : zs.length = cs.length := by
        have z := dpAll_len dzs
        rw [List.length_map] at z
        exact z
      have c5 : ∀ e ∈ cs, ∀ x ∈ e.2, x ∈ L5 := fun e he x hx => l5 x ((cok e he).2.2.2.2 x hx)
      refine ⟨_, rfl, .inl ⟨rfl, _, SqL.of eF2⟩, ?_⟩
      refine ⟨_, rfl, S, zs, rfl, SqL.of eS2, fun D nD => ?_⟩
      refine lc_it walk_enum (fun e H3 => ∃ (vs : List V) (ks : List Chc), H3 D = some (.lst vs) ∧ Same H2 H3 ∧ DpAll K H2 vs (ks.map dCh) ∧ (∀ x ∈ ks, x ∈ cs.take e) ∧ ks.Nodup ∧ ks.length ≤ e ∧ (0 < e → ks ≠ [])) ⟨[], [], upd_same, same_upd nD, .nil, (fun x hx => nomatch hx), List.nodup_nil, Nat.le_refl _, fun q => absurd q (Nat.lt_irrefl _)⟩ (fun e H3 _ ⟨_, _, _, s3, _⟩ => s3.seq (SqL.of eS2)) ?_ ?_
      · rintro e x H3 H4' he ⟨vs, ks, eD, s3, dv, sub, nd, lk, ne0⟩ ⟨t, x1, x2, rfl, nt, rfl, e1, e2⟩
        cases e1
        dsimp only at e2
        obtain ⟨d, hd, dx⟩ := dpAll_get dzs e x2 e2
        rw [List.getElem?_map, Option.map_eq_some_iff] at hd
        obtain ⟨ch, hch, rfl⟩ := hd
        have st : Same H3 (upd H3 t (.tup [.int (e : Nat), x2])) := same_upd nt
        refine ⟨t, _, rfl, SqT.of upd_same, rfl, _, _, rfl, _, _, rfl, rfl, rfl, ?_⟩
        refine ⟨_, rfl, _, rfl, _, rfl, _, rfl, S, zs, rfl, (s3.trans st).seq (SqL.of eS2), fun sl nsl => ?_⟩
        have ssl : Same (upd H3 t (.tup [.int (e : Nat), x2])) (upd (upd H3 t (.tup [.int (e : Nat), x2])) sl (.lst (cutV zs none (some (e : Int))))) := same_upd nsl
        have s5 := (s3.trans st).trans ssl
        have cut := cutV_front (xs := zs) he
        have dsl : Dp K (upd (upd H3 t (.tup [.int (e : Nat), x2])) sl (.lst (cutV zs none (some (e : Int))))) (.ref sl) (.list ((cs.take e).map dCh)) := by
          refine .lst (SqL.of upd_same) ?_
          have q := dpAll_take e (dp_tkAll (Tk.of s5) _ _ (flat_map _ flat_ch _) dzs)
          rw [List.map_take]
          revert q
          generalize (upd (upd H3 t (.tup [.int (e : Nat), x2])) sl (.lst (cutV zs none (some (e : Int))))) = G5
          intro q
          rw [cut]
          exact q
        refine ⟨dCh ch, (cs.take e).map dCh, dp_tk (Tk.of s5) _ _ (flat_ch ch) dx, dsl, shaped_ch (c5 ch (List.mem_of_getElem? hch)), shaped_lst fun y hy => c5 y (List.mem_of_mem_take hy), _, rfl, ?_⟩
        have eD5 : (upd (upd H3 t (.tup [.int (e : Nat), x2])) sl (.lst (cutV zs none (some (e : Int))))) D = some (.lst vs) := ssl _ _ (st _ _ eD)
        have lv : vs.length = ks.length := by
          have z := dpAll_len dv
          rw [List.length_map] at z
          exact z
        have i3 : e < 3 := by omega
        refine ite2 (fun yes => ?_) (fun no => ?_)
        · refine ⟨_, rfl, _, eD5, by rw [sizeLine_eq]; omega, vs ++ [x2], ks ++ [ch], upd_same, fun b o eb => by rw [upd_ne (ne_of_none eb nD)]; exact s5 b o eb, ?_, fun y hy => ?_, ?_, by simp; omega, fun _ => by simp⟩
          · rw [List.map_append]
            exact dpAll_app dv (.cons dx .nil)
          · rw [mem_take_succ hch]
            rcases List.mem_append.mp hy with hy | hy
            · exact List.mem_append_left _ (sub y hy)
            · exact List.mem_append_right _ hy
          · have nin : ch ∉ ks := fun hk => by
              have z : ((cs.take e).map dCh).any (fun z => PyData.eqv z (dCh ch)) = true := List.any_eq_true.mpr ⟨dCh ch, List.mem_map.mpr ⟨ch, sub ch hk, rfl⟩, SeqAt.eqv_refl _ (lay_ch (c5 ch (List.mem_of_getElem? hch)))⟩
              rw [z] at yes
              cases yes
            rw [List.nodup_append]
            exact ⟨nd, List.nodup_cons.mpr ⟨by simp, List.nodup_nil⟩, fun a ha b hb q => nin (by rw [List.mem_singleton.mp hb] at q; rw [← q]; exact ha)⟩
        · refine ⟨vs, ks, eD5, s5, dv, fun y hy => ?_, nd, by omega, fun _ => ?_⟩
          · rw [mem_take_succ hch]
            exact List.mem_append_left _ (sub y hy)
          · cases e with
            | zero => exact absurd rfl no
            | succ e => exact ne0 (Nat.succ_pos _)
      rintro H3 ⟨vs, ks, eD, s3, dv, sub, nd, lk, ne0⟩
      refine ⟨D, _, rfl, .inl ⟨SqL.of eD, fun tp ntp => ?_⟩⟩
      have eF3 := s3 _ _ eF2
      have nFt : Fa ≠ tp := ne_of_none eF3 ntp
      have lus : us.length = gs.length := by
        have z := dpAll_len dus
        rw [List.length_map] at z
        exact z
      have lv : vs.length = ks.length := by
        have z := dpAll_len dv
        rw [List.length_map] at z
        exact z
      refine ⟨Fa, _, _, rfl, rfl, by rw [upd_ne nFt]; exact eF3, by rw [sizeLine_eq]; omega, ?_⟩
      have kp3 : Kp H H3 m g := (kp.trans kp2).trans (Kp.of s3)
      have M3' := M2'.same s3
      have st : Same H3 (upd H3 tp (.tup vs)) := same_upd ntp
      have tkF : Tk (upd H3 tp (.tup vs)) (upd (upd H3 tp (.tup vs)) Fa (.lst (us ++ [.ref tp]))) := fun b xs => by
        have old : (upd H3 tp (.tup vs)) Fa = some (.lst us) := by rw [upd_ne nFt]; exact eF3
        refine ⟨fun e => ?_, fun o e => ?_⟩
        · rw [upd_ne (fun q => by rw [q, old] at e; cases e)]
          exact e
        · rw [upd_ne (fun q => by rw [q, old] at e; cases e)]
          exact e
      refine ⟨_, _, _, _, us ++ [.ref tp], gs ++ [ks], n2, rfl, (kp3.put (kp3.free M3' ntp)).put HFa, (M3'.same st).put nFm nFc nFg, by omega, ?_, upd_same, ?_, by simp [lgs], fun y hy => ?_⟩
      · rw [upd_ne nOF]
        exact st _ _ (s3 _ _ (kp2 _ _ eO' nOm nOg))
      · rw [List.map_append]
        refine dpAll_app (dp_tkAll ((((kp2.tk M').trans (Tk.of s3)).trans (Tk.of st)).trans tkF) _ _ (flat_map _ flat_gr _) dus) (.cons ?_ .nil)
        refine .tup (tkF.seq (SqT.of upd_same)) ?_
        exact dp_tkAll (((Tk.of s3).trans (Tk.of st)).trans tkF) _ _ (flat_map _ flat_ch _) dv
      · rcases List.mem_append.mp hy with hy | hy
        · exact gok y hy
        · rw [List.mem_singleton.mp hy]
          have ne := ne0 (by omega)
          refine ⟨?_, by omega, fun d hd => cok d (List.mem_of_mem_take (sub d hd)), nd⟩
          cases ks with
          | nil => exact absurd rfl ne
          | cons _ _ => exact Nat.succ_pos _
    rintro σ H' ⟨u6, u7, u8, u9, us, gs, n', rfl, kp, M', nb', eO', eF', dus, lgs, gok⟩
    refine ⟨_, rfl, Fa, _, rfl, .inl ⟨SqL.of eF', fun tp ntp => ?_⟩⟩
    refine k (.ref tp) _ (some gs) n' (kp.put (kp.free M' ntp)) (M'.put (M'.notm ntp) (M'.notc ntp) (M'.notg ntp)) (by omega) (.tup (SqT.of upd_same) (dp_tkAll (Tk.of (same_upd ntp)) _ _ (flat_map _ flat_gr _) dus)) ⟨by omega, by omega, gok⟩

end
end Lr

namespace Lr
open PySem PySem.Spec PyProof.Rows L2

/-top-/
theorem slTK {X : Cx} {K : PySem.W.Frag} (h : X.K = K := by rfl) : SlR X (rSlT K) := h ▸ sl_tup
theorem catTK {X : Cx} {K : PySem.W.Frag} (h : X.K = K := by rfl) : OpR X (binaryOp .Add) (rCatT K) := h ▸ op_catT
theorem sortTK {X : Cx} {K : PySem.W.Frag} (h : X.K = K := by rfl) : CallR X (.builtin "sorted") (rSortedTs K) := h ▸ cr_sortedTs
def lbs (q : Nat) : List Str := (["a", "ab", "b", "abc"] : List Str).take (q + 1)
/-- the labels that are drawn -/
def LbsOk (ls : List Str) : Prop := ∃ q : Nat, q ≤ 2 ∧ (ls = lbs q ∨ ls = (lbs q).reverse)
theorem LbsOk.facts {ls : List Str} (h : LbsOk ls) : 1 ≤ ls.length ∧ ls.length ≤ 3 ∧ (∀ x ∈ ls, x ∈ L5) ∧ ls.Nodup := by
  obtain ⟨q, hq, e⟩ := h
  have c : q = 0 ∨ q = 1 ∨ q = 2 := by omega
  rcases c with rfl | rfl | rfl <;> rcases e with rfl | rfl <;> decide +kernel
theorem cut_lbs {r : Int} (h0 : 0 ≤ r) (h1 : r < 3) : ¬ (HT.sIx 4 0 none = 0 ∧ HT.sIx 4 4 (some (1 + r)) = 4) ∧ cutV [V.str "a", V.str "ab", V.str "b", V.str "abc"] none (some (1 + r)) = (lbs r.toNat).map V.str := by
  have c : r = 0 ∨ r = 1 ∨ r = 2 := by omega
  rcases c with rfl | rfl | rfl
  · exact ⟨by decide, rfl⟩
  · exact ⟨by decide, rfl⟩
  · exact ⟨by decide, rfl⟩
def M6 : List Str := ["", "a", "ab", "abc", "b", "bb"]
def rk (x : Str) : Nat := M6.idxOf x
theorem rk_lt {x y : Str} (hx : x ∈ M6) (hy : y ∈ M6) (h : ltCps y.cps.toList x.cps.toList = false) (ne : x ≠ y) : rk x < rk y := by
  have z : (M6.all fun x => M6.all fun y => ltCps y.cps.toList x.cps.toList || x == y || decide (rk x < rk y)) = true := by decide +kernel
  have z1 := List.all_eq_true.mp (List.all_eq_true.mp z x hx) y hy
  rw [h, Bool.false_or, beq_eq_false_iff_ne.mpr ne, Bool.false_or, decide_eq_true_eq] at z1
  exact z1
theorem lt_rk {x y : Str} (hx : x ∈ M6) (hy : y ∈ M6) (h : rk x < rk y) : x.cps.toList < y.cps.toList ∧ y ≠ x := by
  have z : (M6.all fun x => M6.all fun y => !decide (rk x < rk y) || (decide (x.cps.toList < y.cps.toList) && !(y == x))) = true := by decide +kernel
  have z1 := List.all_eq_true.mp (List.all_eq_true.mp z x hx) y hy
  rw [decide_eq_true h, Bool.not_true, Bool.false_or, Bool.and_eq_true, decide_eq_true_eq, Bool.not_eq_true'] at z1
  exact ⟨z1.1, beq_eq_false_iff_ne.mp z1.2⟩
theorem rising_rk : ∀ (p : Str) (l : List Str), (∀ x ∈ p :: l, x ∈ M6) → (p :: l).Nodup → risingS p l = true → (p :: l).Pairwise (fun a b => rk a < rk b)
  | p, [], _, _, _ => List.pairwise_cons.mpr ⟨(fun x hx => nomatch hx), .nil⟩
  | p, x :: r, hm, nd, h => by
    have h2 : (!ltCps x.cps.toList p.cps.toList && risingS x r) = true := h
    rw [Bool.and_eq_true, Bool.not_eq_true'] at h2
    have nd2 := List.nodup_cons.mp nd
    have ih := rising_rk x r (fun y hy => hm y (List.mem_cons_of_mem _ hy)) nd2.2 h2.2
    have l1 : rk p < rk x := rk_lt (hm p List.mem_cons_self) (hm x (List.mem_cons_of_mem _ List.mem_cons_self)) h2.1 fun e => nd2.1 (by rw [e]; exact List.mem_cons_self)
    refine List.pairwise_cons.mpr ⟨fun y hy => ?_, ih⟩
    rcases List.mem_cons.mp hy with rfl | hy
    · exact l1
    · exact Nat.lt_trans l1 ((List.pairwise_cons.mp ih).1 y hy)
theorem sorted_rk {l : List Str} (hm : ∀ x ∈ l, x ∈ M6) (nd : l.Nodup) (h : sortedS l = true) : l.Pairwise (fun a b => rk a < rk b) := by
  cases l with
  | nil => exact .nil
  | cons p l => exact rising_rk p l hm nd h
theorem l5_m6 {x : Str} (h : x ∈ L5) : x ∈ M6 := by
  have z : (L5.all fun x => decide (x ∈ M6)) = true := by decide +kernel
  have z1 := List.all_eq_true.mp z x h
  exact of_decide_eq_true z1
/-- the order of two rows that are drawn -/
def Rr (a b : Rwt) : Prop := a.1.1 < b.1.1 ∨ (a.1.1 = b.1.1 ∧ rk a.1.2 < rk b.1.2 ∧ a.1.2 ∈ M6 ∧ b.1.2 ∈ M6)
theorem Rr.asc {a b : Rwt} (h : Rr a b) : lePair b.1 a.1 = false := by
  unfold lePair
  rcases h with h | ⟨h, hr, ha, hb⟩
  · rw [if_neg (by omega)]
    exact decide_eq_false (by omega)
  · obtain ⟨l1, l2⟩ := lt_rk ha hb hr
    rw [if_pos h.symm, if_neg l2, decide_eq_true l1]
    rfl
theorem sorted_tops {ls ys : List Str} (h : LbsOk ls) (pm : ys.Perm (ls ++ ([""] : List Str))) (st : sortedS ys = true) : ys.length = ls.length + 1 ∧ (∀ y ∈ ys, y = "" ∨ y ∈ ls) ∧ (∀ y ∈ ys, y ∈ M6) ∧ ys.Pairwise (fun a b => rk a < rk b) := by
  obtain ⟨_, _, f3, f4⟩ := h.facts
  have me : ∀ y ∈ ys, y = "" ∨ y ∈ ls := fun y hy => by
    rcases List.mem_append.mp (pm.mem_iff.mp hy) with q | q
    · exact .inr q
    · exact .inl (List.mem_singleton.mp q)
  have m6 : ∀ y ∈ ys, y ∈ M6 := fun y hy => by
    rcases me y hy with rfl | q
    · decide +kernel
    · exact l5_m6 (f3 y q)
  refine ⟨by rw [pm.length_eq, List.length_append]; rfl, me, m6, sorted_rk m6 (pm.nodup_iff.mpr ?_) st⟩
  rw [List.nodup_append]
  exact ⟨f4, List.nodup_cons.mpr ⟨by simp, List.nodup_nil⟩, fun a ha b hb e => (L5_of (f3 a ha)).2.2.2.2.2.1 (by rw [e]; exact List.mem_singleton.mp hb)⟩
theorem lab_read {K : PySem.W.Frag} {b : Bool} {σ : L2.St} {H : Hp} {Q : V → Hp → Prop} {m c g l : Addr} {n : Nat} {ls : List Str} (M : Ms H m c g n) (s6 : σ[6]? = some (some (.ref l))) (el : LbAt K H l ls)
    (k : ∀ (l2 : Addr) (H' : Hp) (ls2 : List Str), (ls2 = ls ∨ ls2 = ls.reverse) → LbAt K H' l2 ls2 → Kp H H' m g → Tk H H' → Ms H' m c g n → Q (.ref l2) H') :
    if b = true then tVar 6 σ H Q else tRevT K (tVar 6) (tPart (tUn (rU fun i => .int (-i)) (tC (.int 1)))) σ H Q := by
  cases b with
  | true => exact ⟨_, s6, k l H ls (.inl rfl) el (Kp.of fun _ _ e => e) (Tk.refl H) M⟩
  | false =>
    refine ⟨_, s6, 1, rfl, -1, rfl, rfl, l, _, rfl, el, fun p np => ?_⟩
    have sm : Same H (upd H p (.tup (ls.map V.str).reverse)) := same_upd np
    refine k p _ ls.reverse (.inr rfl) ?_ (Kp.of sm) (Tk.of sm) (M.same sm)
    have e : (ls.map V.str).reverse = ls.reverse.map V.str := List.map_reverse.symm
    rw [e]
    exact SqT.of upd_same
theorem s2le : 2 ≤ sizeLine := by rw [sizeLine_eq]; decide
theorem s1le : 1 ≤ sizeLine := by rw [sizeLine_eq]; decide
theorem s3le : 3 ≤ sizeLine := by rw [sizeLine_eq]; decide
theorem s4le : 4 ≤ sizeLine := by rw [sizeLine_eq]; decide
/-- a list changes: no tuple does -/
theorem tk_lst {H : Hp} {a : Addr} {xs : List V} {o : HO} (e : H a = some (.lst xs)) : Tk H (upd H a o) := fun b ys => by
  refine ⟨fun q => ?_, fun o' q => ?_⟩
  · rw [upd_ne (fun z => by rw [z, e] at q; cases q)]
    exact q
  · rw [upd_ne (fun z => by rw [z, e] at q; cases q)]
    exact q
theorem dp_prs {K : PySem.W.Frag} {H : Hp} : ∀ {ps : List Addr} {rd : List (Int × Int)}, Paired (fun q a => SqT K H q [.int a.1, .int a.2]) ps rd → DpAll K H (ps.map V.ref) (rd.map dPr)
  | _, _, .nil => .nil
  | _, _, .cons h r => .cons (.tup h (.cons (.int _) (.cons (.int _) .nil))) (dp_prs r)
def spLN (K : PySem.W.Frag) : Sp := fun vs H Q _ => ∃ (m c g : Addr) (n : Nat), vs = [.ref m, .int 2, .int 2, .int 3] ∧ Ms H m c g n ∧ n + 2000 < 100000 ∧
  ∀ (v : V) (H' : Hp) (N : Nt) (n' : Nat), Kp H H' m g → Ms H' m c g n' → n' ≤ n + 1000 → Dp K H' v (dNt N) → NtOk N → LbsOk N.labels → Q v H'
section
variable {P : Program} {w : World} {K : PySem.W.Frag} {mg : Str → Option Value} {base : Heap}
theorem scLN : FnScope ["m", "roads_so", "houses_so", "labels_so", "pairs", "turn", "labels", "found", "road", "top"] ["m", "roads_so", "houses_so", "labels_so"] (defScope sLN) := ⟨rfl, rfl, rfl, by decide +kernel, rfl, by decide +kernel, by decide +kernel⟩
theorem ok_LN {f : Addr} {fd : FuncData} {fDr : Addr} {fdDr : FuncData} {fLG : Addr} {fdLG : FuncData} (F : Fun K "_law_net" "_law_net" sLN f fd) (T : Bt mg) (CDr : Cal K mg "_law_draw" fDr fdDr ["m", "limit"]) (GDr : FnOk P w K mg base CX0 2 fDr fdDr ["m", "limit"] spDra) (CLG : Cal K mg "_law_groups" fLG fdLG ["m", "pairs", "labels", "road"]) (GLG : FnOk P w K mg base CX0 4 fLG fdLG ["m", "pairs", "labels", "road"] (spLG K)) : FnOk P w K mg base CX0 5 f fd ["m", "roads_so", "houses_so", "labels_so"] (spLN K) := by
  refine F.ok scLN (fun vs H Q E h => ?_) (fun cdv A outer s H vs Q E hr h => ?_)
  · obtain ⟨m, c, g, n, rfl, M, nb, k⟩ := h
    rfl
  · obtain ⟨m, c, g, n, rfl, M, nb, k⟩ := h
    have hr2 : Room 2 (A.deeper (envOfC "_law_net" (defScope sLN) s.heap.objs.size f cdv)) := Room.mono hr (by decide)
    have hr4 : Room 4 (A.deeper (envOfC "_law_net" (defScope sLN) s.heap.objs.size f cdv)) := Room.mono hr (by decide)
    refine ⟨_, pss_cons (ps_set (i := 2) scLN.nd rfl (by first | exact Or.inl rfl | exact Or.inr rfl) (pe_op op_add pe_int (pe_call GDr hr2 (by rfl) CDr.g CDr.k CDr.b .nil pass0 (pa_cons (pv 0) (pa_cons (pv 2) pa_nil)))))
      (pss_cons (ps_set (i := 4) scLN.nd rfl (by first | exact Or.inl rfl | exact Or.inr rfl) (pe_lst pa_nil))
      (pss_cons (ps_for PassesOwn.never rfl (pi_range1 (by rfl) T.range (pa_cons (pe_op op_add pe_int (pe_call GDr hr2 (by rfl) CDr.g CDr.k CDr.b .nil pass0 (pa_cons (pv 0) (pa_cons (pv 1) pa_nil)))) pa_nil)) (pg_name (i := 5) scLN.nd rfl (by first | exact Or.inl rfl | exact Or.inr rfl))
        (pss_one (ps_expr (pe_bm PySem.F.plainAttrs_list PySem.F.slot_list_append PySem.F.type_list_append mt_append (pv 4) (pa_cons (pe_tup (pa_cons (pe_call GDr hr2 (by rfl) CDr.g CDr.k CDr.b .nil pass0 (pa_cons (pv 0) (pa_cons (pv 2) pa_nil))) (pa_cons (pe_call GDr hr2 (by rfl) CDr.g CDr.k CDr.b .nil pass0 (pa_cons (pv 0) (pa_cons (pv 2) pa_nil))) pa_nil))) pa_nil)))))
      (pss_cons (ps_set (i := 6) scLN.nd rfl (by first | exact Or.inl rfl | exact Or.inr rfl) (pe_slice (slTK (K := K)) (pe_tup (pa_cons pe_str (pa_cons pe_str (pa_cons pe_str (pa_cons pe_str pa_nil))))) po_none (po_some (pe_op op_add pe_int (pe_call GDr hr2 (by rfl) CDr.g CDr.k CDr.b .nil pass0 (pa_cons (pv 0) (pa_cons (pv 3) pa_nil)))))))
      (pss_cons (ps_set (i := 6) scLN.nd rfl (by first | exact Or.inl rfl | exact Or.inr rfl) (pe_ifExp (pt_cmpR op_eq (pe_call GDr hr2 (by rfl) CDr.g CDr.k CDr.b .nil pass0 (pa_cons (pv 0) (pa_cons pe_int pa_nil))) pe_int (nomark _)) (pv 6) (pe_revT (pv 6) (po_some (pe_un un_neg pe_int)))))
      (pss_cons (ps_set (i := 7) scLN.nd rfl (by first | exact Or.inl rfl | exact Or.inr rfl) (pe_lst pa_nil))
      (pss_cons (ps_for PassesOwn.never rfl (pi_range1 (by rfl) T.range (pa_cons (pe_callB (lenK (K := K)) (by rfl) T.len PySem.boot_len (pa_cons (pv 4) pa_nil)) pa_nil)) (pg_name (i := 8) scLN.nd rfl (by first | exact Or.inl rfl | exact Or.inr rfl))
        (pss_one (ps_for PassesOwn.never rfl (pi_list (pe_callB (sortTK (K := K)) (by rfl) T.sorted (by decide +kernel) (pa_cons (pe_op (catTK (K := K)) (pv 6) (pe_tup (pa_cons pe_str pa_nil))) pa_nil))) (pg_name (i := 9) scLN.nd rfl (by first | exact Or.inl rfl | exact Or.inr rfl))
          (pss_one (ps_if (pt_cmpR op_gt (pe_call GDr hr2 (by rfl) CDr.g CDr.k CDr.b .nil pass0 (pa_cons (pv 0) (pa_cons pe_int pa_nil))) pe_int (nomark _)) (pss_one (ps_expr (pe_bm PySem.F.plainAttrs_list PySem.F.slot_list_append PySem.F.type_list_append mt_append (pv 7) (pa_cons (pe_tup (pa_cons (pe_tup (pa_cons (pv 8) (pa_cons (pv 9) pa_nil))) (pa_cons (pe_call GLG hr4 (by rfl) CLG.g CLG.k CLG.b .nil pass0 (pa_cons (pv 0) (pa_cons (pv 4) (pa_cons (pv 6) (pa_cons (pv 8) pa_nil))))) pa_nil))) pa_nil)))) pss_nil)))))
      (pss_one (ps_ret (pe_tup (pa_cons (pe_callTy call_tuple_of (by rfl) T.tuple (by decide +kernel) (pa_cons (pv 4) pa_nil)) (pa_cons (pv 6) (pa_cons (pe_callTy call_tuple_of (by rfl) T.tuple (by decide +kernel) (pa_cons (pv 7) pa_nil)) pa_nil)))))))))))), ?_⟩
    refine ⟨_, rfl, _, rfl, m, c, g, n, 2, rfl, by decide, by decide, by omega, M, fun r1 H1 r10 r11 M1 (k1 : Kp H H1 m g) => ⟨_, _, rfl, rfl, ?_⟩⟩
    refine ⟨Nat.zero_le _, fun p np => ?_⟩
    have Hp0 : H p = none := k1.free M1 np
    have npm := M1.notm np
    have npg := M1.notg np
    have npc := M1.notc np
    have k2 : Kp H (upd H1 p (.lst [])) m g := k1.put Hp0
    have M2 : Ms (upd H1 p (.lst [])) m c g (n + 1) := M1.put npm npc npg
    have ep2 : (upd H1 p (.lst [])) p = some (.lst []) := upd_same
    revert k2 M2 ep2
    generalize upd H1 p (.lst []) = H2
    intro k2 M2 ep2
    refine ⟨_, rfl, _, rfl, m, c, g, n + 1, 2, rfl, by decide, by decide, by omega, M2, fun r2 H3 r20 r21 M3 (k3 : Kp H2 H3 m g) => ⟨_, _, rfl, rfl, 1 + r2, rfl, by omega, by omega, ?_⟩⟩
    refine for_range (lo := 0) (n := (1 + r2).toNat) (fun i σ H' => ∃ (u5 : Option V) (rd : List (Int × Int)), σ = [some (.ref m), some (.int 2), some (.int (1 + r1)), some (.int 3), some (.ref p), u5, none, none, none, none] ∧ Kp H H' m g ∧ Ms H' m c g (n + 2 + 2 * i) ∧ RlAt K H' p rd ∧ rd.length = i ∧ ∀ e ∈ rd, 0 ≤ e.1 ∧ e.1 ≤ 7 ∧ 0 ≤ e.2 ∧ e.2 ≤ 7)
      ⟨_, [], rfl, k2.trans k3, M3, ⟨[], k3 _ _ ep2 npm npg, .nil⟩, rfl, fun e he => nomatch he⟩ ?_ ?_
    · rintro i σ H' hi ⟨u5, rd, rfl, kp, M', rl, lrd, hrd⟩
      obtain ⟨ps, ep, pr⟩ := rl
      refine ⟨_, rfl, .inl ⟨rfl, _, SqL.of ep⟩, ?_⟩
      refine ⟨_, rfl, _, rfl, m, c, g, _, _, rfl, by omega, by omega, by omega, M', fun x H5 x0 x1 M5 (k5 : Kp H' H5 m g) => ?_⟩
      refine ⟨_, rfl, _, rfl, m, c, g, _, _, rfl, by omega, by omega, by omega, M5, fun y H6 y0 y1 M6 (k6 : Kp H5 H6 m g) => ?_⟩
      refine ⟨s2le, fun tt ntt => ?_⟩
      have ep6 : H6 p = some (.lst (ps.map V.ref)) := k6 _ _ (k5 _ _ ep npm npg) npm npg
      have npt : p ≠ tt := ne_of_none ep6 ntt
      have lps := Paired.length pr
      refine ⟨p, _, _, rfl, rfl, by rw [upd_ne npt]; exact ep6, by rw [List.length_map, sizeLine_eq]; omega, ?_⟩
      have st : Same H6 (upd H6 tt (.tup [.int x, .int y])) := same_upd ntt
      have ep7 : (upd H6 tt (.tup [.int x, .int y])) p = some (.lst (ps.map V.ref)) := st _ _ ep6
      have kp6 : Kp H H6 m g := (kp.trans k5).trans k6
      refine ⟨_, rd ++ [(x, y)], rfl, (kp6.put (kp6.free M6 ntt)).put Hp0, (M6.same st).put npm npc npg, ⟨ps ++ [tt], by rw [upd_same, List.map_append]; rfl, ?_⟩, by simp [lrd], fun e he => ?_⟩
      · have t1 : Tk H' (upd (upd H6 tt (.tup [.int x, .int y])) p (.lst (ps.map V.ref ++ [.ref tt]))) := (((k5.trans k6).tk M').trans (Tk.of st)).trans (tk_lst ep7)
        exact Paired.snoc (paired_mono (fun q a z => t1.seq z) pr) ((tk_lst ep7).seq (SqT.of upd_same))
      · rcases List.mem_append.mp he with he | he
        · exact hrd e he
        · rw [List.mem_singleton.mp he]
          exact ⟨x0, by show x ≤ 7; omega, y0, by show y ≤ 7; omega⟩
    rintro σ H' ⟨u5, rd, rfl, kp, M', rl, lrd, hrd⟩
    have rd1 : 1 ≤ rd.length := by omega
    have rd2 : rd.length ≤ 2 := by omega
    have M' : Ms H' m c g (n + 2 + 2 * rd.length) := by rw [lrd]; exact M'
    refine ⟨s4le, fun lp nlp => ?_⟩
    have s5 : Same H' (upd H' lp (.tup [.str "a", .str "ab", .str "b", .str "abc"])) := same_upd nlp
    refine ⟨_, rfl, _, rfl, m, c, g, _, 3, rfl, by decide, by decide, by omega, M'.same s5, fun r3 H6 r30 r31 M6 (k6 : Kp (upd H' lp (.tup [.str "a", .str "ab", .str "b", .str "abc"])) H6 m g) => ?_⟩
    obtain ⟨cw, ce⟩ := cut_lbs r30 r31
    refine ⟨_, _, rfl, rfl, _, rfl, lp, _, rfl, (k6.tk (M'.same s5)).seq (SqT.of upd_same), cw, fun l0 nl0 => ?_⟩
    rw [ce]
    have kp6 : Kp H' H6 m g := (Kp.of s5).trans k6
    have s7 : Same H6 (upd H6 l0 (.tup ((lbs r3.toNat).map V.str))) := same_upd nl0
    have k7 : Kp H' (upd H6 l0 (.tup ((lbs r3.toNat).map V.str))) m g := kp6.trans (Kp.of s7)
    have M7 := M6.same s7
    have el7 : LbAt K (upd H6 l0 (.tup ((lbs r3.toNat).map V.str))) l0 (lbs r3.toNat) := SqT.of upd_same
    revert k7 M7 el7
    generalize upd H6 l0 (.tup ((lbs r3.toNat).map V.str)) = H7
    intro k7 M7 el7
    refine ⟨_, rfl, m, c, g, _, 2, rfl, by decide, by decide, by omega, M7, fun r4 H8 r40 r41 M8 (k8 : Kp H7 H8 m g) => ⟨rfl, _, rfl, ?_⟩⟩
    refine lab_read M8 rfl ((k8.tk M7).seq el7) fun l H9 ls els el k9 t9 M9 => ?_
    have lok : LbsOk ls := ⟨r3.toNat, by omega, els⟩
    obtain ⟨f1, f2, f3, f4⟩ := lok.facts
    have k29 : Kp H' H9 m g := (k7.trans k8).trans k9
    refine ⟨Nat.zero_le _, fun F nF => ?_⟩
    have kH9 : Kp H H9 m g := kp.trans k29
    have HF : H F = none := kH9.free M9 nF
    have HF' : H' F = none := k29.free M9 nF
    have nFm := M9.notm nF
    have nFg := M9.notg nF
    have nFc := M9.notc nF
    have sF : Same H9 (upd H9 F (.lst [])) := same_upd nF
    have kA : Kp H9 (upd H9 F (.lst [])) m g := Kp.of sF
    have MA := M9.same sF
    have elA : LbAt K (upd H9 F (.lst [])) l ls := (Tk.of sF).seq el
    have eFA : (upd H9 F (.lst [])) F = some (.lst []) := upd_same
    revert kA MA elA eFA
    generalize upd H9 F (.lst []) = HA
    intro kA MA elA eFA
    have rlA : RlAt K H9 p rd := rl.keep (k29.tk M') fun xs e => k29 _ _ e npm npg
    obtain ⟨ps, ep9, pr⟩ := id rlA
    have ep := kA _ _ ep9 npm npg
    have lps := Paired.length pr
    have npF : p ≠ F := fun z => by
      obtain ⟨_, e0, _⟩ := rl
      rw [z, HF'] at e0
      cases e0
    refine ⟨_, rfl, p, _, rfl, .inl (SqL.of ep), _, rfl, by omega, by rw [List.length_map]; omega, ?_⟩
    have en : (((ps.map V.ref).length : Nat) : Int).toNat = rd.length := by rw [List.length_map, lps]; omega
    rw [en]
    refine for_range (lo := 0) (n := rd.length) (fun i σ H' => ∃ (u8 u9 : Option V) (us : List V) (rs : List Rwt) (n' : Nat), σ = [some (.ref m), some (.int 2), some (.int (1 + r1)), some (.int 3), some (.ref p), u5, some (.ref l), some (.ref F), u8, u9] ∧ Kp H9 H' m g ∧ Ms H' m c g n' ∧ n' ≤ n + 20 + 420 * i ∧ H' F = some (.lst us) ∧ DpAll K H' us (rs.map dRw) ∧ rs.length ≤ i * (ls.length + 1) ∧ (∀ e ∈ rs, RwOk rd ls e) ∧ rs.Pairwise Rr ∧ ∀ e ∈ rs, e.1.1 < (i : Nat))
      ⟨_, _, [], [], _, rfl, kA, MA, by omega, eFA, .nil, Nat.zero_le _, (fun e he => nomatch he), .nil, fun e he => nomatch he⟩ ?_ ?_
    · rintro i σ HB hi ⟨u8, u9, us, rs, n1, rfl, kp1, M1', nb1, eF1, du1, lr1, ok1, pw1, lt1⟩
      refine ⟨_, rfl, s1le, fun e1 ne1 => ?_⟩
      have se1 : Same HB (upd HB e1 (.tup [.str ""])) := same_upd ne1
      have elB : LbAt K (upd HB e1 (.tup [.str ""])) l ls := ((kp1.tk M9).trans (Tk.of se1)).seq el
      refine ⟨l, e1, ls.map V.str, [.str ""], rfl, rfl, elB, SqT.of upd_same, by cases ls with | nil => exact absurd f1 (by decide) | cons _ _ => exact (fun z => nomatch z), by rw [List.length_map, sizeLine_eq]; show ls.length + 1 ≤ _; omega, (fun z => nomatch z), fun _ cp ncp => ?_⟩
      have scp : Same (upd HB e1 (.tup [.str ""])) (upd (upd HB e1 (.tup [.str ""])) cp (.tup (ls.map V.str ++ [.str ""]))) := same_upd ncp
      refine ⟨cp, ls ++ ([""] : List Str), rfl, ?_, by rw [List.length_append]; show ls.length + 1 < 64; omega, fun ys sp perm srt nsp => ?_⟩
      · rw [List.map_append]
        exact SqT.of upd_same
      have ssp : Same (upd (upd HB e1 (.tup [.str ""])) cp (.tup (ls.map V.str ++ [.str ""]))) (upd (upd (upd HB e1 (.tup [.str ""])) cp (.tup (ls.map V.str ++ [.str ""]))) sp (.lst (ys.map V.str))) := same_upd nsp
      refine ⟨sp, rfl, ⟨_, SqL.of upd_same⟩, ?_⟩
      have esp : (upd (upd (upd HB e1 (.tup [.str ""])) cp (.tup (ls.map V.str ++ [.str ""]))) sp (.lst (ys.map V.str))) sp = some (.lst (ys.map V.str)) := upd_same
      have sall := (se1.trans scp).trans ssp
      have Msp := M1'.same sall
      have nspm : sp ≠ m := Msp.at_m esp
      have nspg : sp ≠ g := (M1'.same (se1.trans scp)).notg nsp
      have nspF : F ≠ sp := ne_of_none ((se1.trans scp) _ _ eF1) nsp
      revert esp sall Msp
      generalize upd (upd (upd HB e1 (.tup [.str ""])) cp (.tup (ls.map V.str ++ [.str ""]))) sp (.lst (ys.map V.str)) = HC
      intro esp sall Msp
      obtain ⟨ly, my, y6, pw⟩ := sorted_tops lok perm srt
      refine for_list (xs := ys.map V.str) (fun j σ H' => ∃ (u9 : Option V) (us : List V) (rs : List Rwt) (n' : Nat), σ = [some (.ref m), some (.int 2), some (.int (1 + r1)), some (.int 3), some (.ref p), u5, some (.ref l), some (.ref F), some (.int (0 + (i : Int))), u9] ∧ Kp H9 H' m g ∧ H' sp = some (.lst (ys.map V.str)) ∧ Ms H' m c g n' ∧ n' ≤ n + 20 + 420 * i + 101 * j ∧ H' F = some (.lst us) ∧ DpAll K H' us (rs.map dRw) ∧ rs.length ≤ i * (ls.length + 1) + j ∧ (∀ e ∈ rs, RwOk rd ls e) ∧ rs.Pairwise Rr ∧ ∀ e ∈ rs, e.1.1 < (i : Nat) ∨ (e.1.1 = (i : Nat) ∧ ∃ j' : Nat, j' < j ∧ ys[j']? = some e.1.2))
        ⟨_, us, rs, n1, rfl, kp1.trans (Kp.of sall), esp, Msp, by omega, sall _ _ eF1, dp_tkAll (Tk.of sall) _ _ (flat_map _ flat_rw _) du1, by omega, ok1, pw1, fun e he => .inl (lt1 e he)⟩
        (fun j σ H' _ ⟨_, _, _, _, _, _, kk, _⟩ => SqL.of kk) ?_ ?_
      · rintro j xv σ HD hx ⟨u9, us, rs, n2, rfl, kp2, esp2, M2', nb2, eF2, du2, lr2, ok2, pw2, lt2⟩
        rw [List.getElem?_map, Option.map_eq_some_iff] at hx
        obtain ⟨y, hy, rfl⟩ := hx
        have jl : j < ys.length := List.getElem?_eq_some_iff.mp hy |>.1
        refine ⟨_, rfl, m, c, g, n2, 6, rfl, by decide, by decide, by omega, M2', fun r5 HE r50 r51 ME (kE : Kp HD HE m g) => ⟨_, _, rfl, rfl, _, rfl, ?_⟩⟩
        have kpE : Kp H9 HE m g := kp2.trans kE
        have espE := kE _ _ esp2 nspm nspg
        have eFE := kE _ _ eF2 nFm nFg
        refine ite2 (fun _ => ?_) (fun _ => ?_)
        · refine ⟨_, rfl, .inl ⟨rfl, _, SqL.of eFE⟩, ?_⟩
          refine ⟨_, rfl, _, rfl, s2le, fun h nh => ?_⟩
          have sh : Same HE (upd HE h (.tup [.int (0 + (i : Int)), .str y])) := same_upd nh
          have eh : SqT K (upd HE h (.tup [.int (0 + (i : Int)), .str y])) h [.int (0 + (i : Int)), .str y] := SqT.of upd_same
          have kG : Kp H9 (upd HE h (.tup [.int (0 + (i : Int)), .str y])) m g := kpE.trans (Kp.of sh)
          have espG := sh _ _ espE
          have MG := ME.same sh
          have eFG := sh _ _ eFE
          have tG : Tk HD (upd HE h (.tup [.int (0 + (i : Int)), .str y])) := (kE.tk M2').trans (Tk.of sh)
          revert eh kG MG eFG tG espG
          generalize upd HE h (.tup [.int (0 + (i : Int)), .str y]) = HG
          intro eh kG espG MG eFG tG
          have i0 : (0 : Int) + (i : Int) = (i : Int) := by omega
          rw [i0] at eh
          refine ⟨_, rfl, _, rfl, _, rfl, _, rfl, m, c, g, p, l, 0 + (i : Int), n2 + 1, rd, ls, rfl, MG, by omega, npm, npg, rlA.keep (kG.tk M9) (fun xs e => kG _ _ e npm npg), by omega, by omega, by omega, (kG.tk M9).seq el, f1, by omega, f3, fun gv HI gs n3 kI MI nbI dI okI => ?_⟩
          rw [i0] at okI
          refine ⟨s2le, fun tt ntt => ?_⟩
          have eFI := kI _ _ eFG nFm nFg
          have nFt : F ≠ tt := ne_of_none eFI ntt
          have st : Same HI (upd HI tt (.tup [.ref h, gv])) := same_upd ntt
          have eFJ := st _ _ eFI
          have lus : us.length = rs.length := by
            have z := dpAll_len du2
            rw [List.length_map] at z
            exact z
          have lr3 : rs.length ≤ 8 := by
            have q : i * (ls.length + 1) ≤ 1 * 4 := Nat.mul_le_mul (by omega) (by omega)
            omega
          refine ⟨F, _, _, rfl, rfl, eFJ, by rw [sizeLine_eq]; omega, ?_⟩
          have tF : Tk (upd HI tt (.tup [.ref h, gv])) (upd (upd HI tt (.tup [.ref h, gv])) F (.lst (us ++ [.ref tt]))) := tk_lst eFJ
          have tI : Tk HG (upd (upd HI tt (.tup [.ref h, gv])) F (.lst (us ++ [.ref tt]))) := ((kI.tk MG).trans (Tk.of st)).trans tF
          have yin := List.mem_of_getElem? hy
          refine ⟨_, us ++ [.ref tt], rs ++ [(((i : Int), y), gs)], n3, rfl, ((kG.trans kI).trans (Kp.of st)).put nF, by rw [upd_ne nspF.symm]; exact st _ _ (kI _ _ espG nspm nspg), (MI.same st).put nFm nFc nFg, by omega, upd_same, ?_, by simp only [List.length_append, List.length_cons, List.length_nil]; omega, fun e he => ?_, ?_, fun e he => ?_⟩
          · rw [List.map_append]
            refine dpAll_app (dp_tkAll (tG.trans tI) _ _ (flat_map _ flat_rw _) du2) (.cons (.tup (tF.seq (SqT.of upd_same)) (.cons ?_ (.cons ?_ .nil))) .nil)
            · exact .tup (tI.seq eh) (.cons (.int _) (.cons (.str _) .nil))
            · exact dp_tk ((Tk.of st).trans tF) _ _ (flat_gs gs) dI
          · rcases List.mem_append.mp he with he | he
            · exact ok2 e he
            · rw [List.mem_singleton.mp he]
              exact ⟨by show (0 : Int) ≤ (i : Int); omega, by show (i : Int) < _; omega, my y yin, okI⟩
          · rw [List.pairwise_append]
            refine ⟨pw2, List.pairwise_cons.mpr ⟨(fun x hx => nomatch hx), .nil⟩, fun a ha b hb => ?_⟩
            rw [List.mem_singleton.mp hb]
            rcases lt2 a ha with q | ⟨q, j', hj', ej'⟩
            · exact .inl q
            · refine .inr ⟨q, ?_, y6 _ (List.mem_of_getElem? ej'), y6 _ yin⟩
              obtain ⟨w1, w2⟩ := List.getElem?_eq_some_iff.mp ej'
              obtain ⟨w3, w4⟩ := List.getElem?_eq_some_iff.mp hy
              have z := List.pairwise_iff_getElem.mp pw j' j w1 w3 hj'
              rw [w2, w4] at z
              exact z
          · rcases List.mem_append.mp he with he | he
            · rcases lt2 e he with q | ⟨q, j', hj', ej'⟩
              · exact .inl q
              · exact .inr ⟨q, j', by omega, ej'⟩
            · rw [List.mem_singleton.mp he]
              exact .inr ⟨rfl, j, by omega, hy⟩
        · exact ⟨_, us, rs, n2 + 1, rfl, kpE, espE, ME, by omega, eFE, dp_tkAll (kE.tk M2') _ _ (flat_map _ flat_rw _) du2, by omega, ok2, pw2, fun e he => by
            rcases lt2 e he with q | ⟨q, j', hj', ej'⟩
            · exact .inl q
            · exact .inr ⟨q, j', by omega, ej'⟩⟩
      · rintro σ HD ⟨u9, us, rs, n2, rfl, kp2, esp2, M2', nb2, eF2, du2, lr2, ok2, pw2, lt2⟩
        rw [List.length_map, ly] at nb2 lr2
        refine ⟨_, _, us, rs, n2, rfl, kp2, M2', by omega, eF2, du2, by rw [Nat.succ_mul]; exact lr2, ok2, pw2, fun e he => ?_⟩
        rcases lt2 e he with q | ⟨q, _⟩
        · omega
        · omega
    rintro σ HB ⟨u8, u9, us, rs, n1, rfl, kp1, M1', nb1, eF1, du1, lr1, ok1, pw1, lt1⟩
    refine ⟨_, rfl, p, _, rfl, .inl ⟨SqL.of (kp1 _ _ ep9 npm npg), fun pt npt => ?_⟩⟩
    have s1 : Same HB (upd HB pt (.tup (ps.map V.ref))) := same_upd npt
    refine ⟨_, rfl, _, rfl, F, _, rfl, .inl ⟨SqL.of (s1 _ _ eF1), fun ft nft => ?_⟩⟩
    have s2 : Same (upd HB pt (.tup (ps.map V.ref))) (upd (upd HB pt (.tup (ps.map V.ref))) ft (.tup us)) := same_upd nft
    refine ⟨s3le, fun v nv => ?_⟩
    have s3 : Same (upd (upd HB pt (.tup (ps.map V.ref))) ft (.tup us)) (upd (upd (upd HB pt (.tup (ps.map V.ref))) ft (.tup us)) v (.tup [.ref pt, .ref l, .ref ft])) := same_upd nv
    have sT := (s1.trans s2).trans s3
    refine k (.ref v) _ ⟨rd, ls, rs⟩ n1 ?_ (M1'.same sT) ?_ ?_ ?_ lok
    · exact (kH9.trans kp1).trans (Kp.of sT)
    · have q : 420 * rd.length ≤ 840 := by omega
      omega
    · refine .tup (SqT.of upd_same) (.cons ?_ (.cons ?_ (.cons ?_ .nil)))
      · exact .tup (((Tk.of s2).trans (Tk.of s3)).seq (SqT.of upd_same)) (dp_prs (paired_mono (fun q a z => ((kp1.tk M9).trans (Tk.of sT)).seq z) pr))
      · exact .tup (((kp1.tk M9).trans (Tk.of sT)).seq el) (dp_strs ls)
      · exact .tup ((Tk.of s3).seq (SqT.of upd_same)) (dp_tkAll (Tk.of sT) _ _ (flat_map _ flat_rw _) du1)
    · exact ⟨rd1, Nat.le_trans rd2 (by decide), hrd, f1, Nat.le_trans f2 (by decide), f3, f4, lr1, ok1, fun i a b ha hb => by
        obtain ⟨w1, w2⟩ := List.getElem?_eq_some_iff.mp ha
        obtain ⟨w3, w4⟩ := List.getElem?_eq_some_iff.mp hb
        have z := List.pairwise_iff_getElem.mp pw1 i (i + 1) w1 w3 (by omega)
        rw [w2, w4] at z
        exact z.asc⟩

end
end Lr

namespace Lr
open PySem PySem.Spec PyProof.Rows L2
/-- the new set's object -/
abbrev emS (w : World) : Obj := { cls := .type "set", dict := none, data := .set #[] 0 (.fresh 0 0 (!w.params.followText "set-order")) }
/-- set(xs), xs a list of ints: what the table then holds, in an order that can be told -/
def IsSetOf (w : World) (h0 h' : Heap) (ns : List Int) (c : Nat) : Prop := SetR w h' h0.objs.size (fun j => decide (j ∈ ns)) c ∧ c ≤ ns.length ∧ ∀ b o, h0.get? b = some o → h'.get? b = some o
section
variable {P : Program} {w : World} {A : Around} {E : Value → Shared → Prop} {s : Shared}
theorem set_of_list {l : Addr} {items : Array Value} {ns : List Int} {Q : Value → Shared → Prop} (hh : A.handled = none) (hl : s.heap.IsList l items) (hit : IntsAre items.toList ns) (hb : ns.length + 1 < scanBound)
    (done : ∀ (h' : Heap) (tk c : Nat), IsSetOf w s.heap h' ns c → Q (.ref s.heap.objs.size) { s with heap := h', toks := tk }) : wpAny (model P w) A (call (.type "set") [.ref l]) Q E s := by
  have many : items.size = ns.length := by rw [← Array.length_toList]; exact IntsAre.length hit
  obtain ⟨c, tl, hmro⟩ := F.called_set.mro
  have hmade := F.called_set.made; have hsub := F.called_set.sub
  refine wpAny_call (codeAny_of_tree ?_)
  show wpAny _ _ (callAny (.type "set") _) _ _ _
  refine wpAny_pure ⟨Code.quiet_builtin _ (by decide +kernel), codeAny_builtin F.entry_type_call ?_⟩
  rw [Around.under_plain (weight_type_call_type "set" [.ref l] []) rfl]
  have q1 := F.called_set.notType; have q2 := F.called_set.canCreate
  have q3 := F.typeCall_set_1 (.ref l)
  repeat (any_goals (first | assumption | wp_step))
  refine codeAny_mono (code_set_led1 (.ref l) (E := E) (Q₁ := fun x s₁ => x = .ref s.heap.objs.size ∧ s₁ = { s with heap := s.heap.push (emS w) }) ⟨rfl, rfl⟩) fun r s₁ hr => ?_
  cases r with
  | error e => exact hr
  | ok fl =>
    cases fl with
    | ret x =>
      obtain ⟨rfl, rfl⟩ := hr
      have new_at : (s.heap.push (emS w)).get? s.heap.objs.size = some (emS w) := Heap.get?_push_size _ rfl
      have hT : Shared.TypeIs { s with heap := s.heap.push (emS w) } (.ref s.heap.objs.size) "set" := ⟨_, new_at, rfl⟩
      have hli := F.called_set.init.lookup; have hbi := F.called_set.init.bind (.ref s.heap.objs.size)
      repeat (any_goals (first | assumption | wp_step))
      refine codeAny_mono (codeAny_call_builtin (R := wants (fun r s₂ => r = .none ∧ ∃ h' tk c, s₂ = { s with heap := h', toks := tk } ∧ IsSetOf w s.heap h' ns c) E) F.called_set.init.plain F.entry_set_init (check_set_init_1 hT ?_)) fun r₂ s₂ hr₂ => ?_
      · have hl1 : (s.heap.push (emS w)).IsList l items := hl.push _
        obtain ⟨⟨ocls, odict, odata, oslots⟩, hol, hcl, nl, hdl⟩ := hl
        simp only at hcl hdl
        subst hcl hdl
        have at_l : (s.heap.push (emS w)).get? l = some { cls := .type "list", dict := odict, data := .seq items nl, slots := oslots } := Heap.get?_push_of_some _ hol
        have k1 := F.sub_list_set; have k2 := F.sub_list_frozenset
        have k3 : (Value.type "list" == Value.type "dict") = false := by decide
        unfold Builtin.«set.__init__» noKeywords Builtin.Frozenset.updateFrom
        generalize hPI : pyIter = PI
        wp_walk
        subst hPI
        refine wpAny_pyIter_list hl1 (wpAny_bind (wpAny_runValue ?_))
        have lt : l < s.heap.objs.size := Heap.lt_size hol
        have h3 : A.in1.in1.in1.handled = none := by simp [hh]
        have sz : (s.heap.push (emS w)).objs.size = s.heap.objs.size + 1 := Heap.size_push ..
        have n1 : l ≠ (s.heap.push (emS w)).objs.size := by rw [sz]; exact Nat.ne_of_lt (Nat.lt_succ_of_lt lt)
        have n2 : s.heap.objs.size ∉ [(s.heap.push (emS w)).objs.size, l] := by
          rw [sz]
          intro z
          rcases List.mem_cons.mp z with z | z
          · exact Nat.ne_of_lt (Nat.lt_succ_self _) z
          · exact Nat.ne_of_gt lt (List.mem_singleton.mp z)
        have each : ∀ (i : Nat) (v : Value), items[i]? = some v → ∃ k t, ns[i]? = some k ∧ v = .int k t := fun i v hv => by
          have hi : i < ns.length := by rw [← many]; exact (Array.getElem?_eq_some_iff.mp hv).1
          obtain ⟨t, e⟩ := IntsAre.int_at hit i v (by rw [Array.getElem?_toList]; exact hv)
          rw [List.getD_eq_getElem?_getD, List.getElem?_eq_getElem hi] at e
          exact ⟨ns[i], t, List.getElem?_eq_getElem hi, e⟩
        refine set_update_ints ((Walks.list h3 _ l n1 items).toS) s.heap.objs.size n2 ns many hb each (items.size - 0) 0 _ (by omega) (Nat.zero_le _) ⟨⟨_, Heap.get?_push_size _ rfl, rfl, rfl⟩, (hl1.push _)⟩ ?_ ?_
        · exact ⟨0, Nat.le_refl 0, setR_new_at (Heap.get?_push_of_some _ new_at)⟩
        · intro s' c' hm hc' hS'
          obtain ⟨h', g2, d', tk', os'⟩ := s'
          obtain rfl : g2 = s.gens := hm.gens
          obtain rfl : d' = s.drawn := hm.drawn
          obtain rfl : os' = s.os := hm.os
          show wpAny _ _ _ _ _ _
          refine wpAny_pure ?_
          show wpAny _ _ (ret Value.none) _ _ _
          refine wpAny_pure ⟨rfl, h', tk', c', rfl, hS', by omega, fun b o e => hm.heap b o ?_ (Heap.get?_push_of_some _ (Heap.get?_push_of_some _ e))⟩
          have b0 : b < s.heap.objs.size := Heap.lt_size e
          intro z
          rcases List.mem_cons.mp z with z | z
          · exact Nat.ne_of_lt b0 z
          · have z2 := List.mem_singleton.mp z
            rw [sz] at z2
            exact Nat.ne_of_lt (Nat.lt_succ_of_lt b0) z2
      · cases r₂ with
        | error e => exact hr₂
        | ok fl₂ =>
          cases fl₂ with
          | ret r =>
            obtain ⟨rfl, h', tk, c', rfl, res⟩ := hr₂
            repeat (any_goals (first | assumption | wp_step))
            exact done _ _ _ res
          | _ => exact hr₂.elim
    | _ => exact hr.elim
end
section
variable {X : Cx}
/-- set(xs), xs a list of ints -/
def rSetL_I (K : PySem.W.Frag) (w : World) : List V → Hp → VK → Prop := fun xs H Q => ∃ (l : Addr) (ns : List Int), xs = [V.ref l] ∧ SqL K H l (ns.map V.int) ∧ ns.length ≤ 1000 ∧ ∀ a n, H a = none → n ≤ ns.length → Q (.ref a) (upd H a (SetO w a (fun j => decide (j ∈ ns)) n))
theorem cr_setLI (hc : X.calm = true) : CallR X (.type "set") (rSetL_I X.K X.w) := by
  intro pins s σ H xs us Q I r h
  obtain ⟨l, ns, rfl, hl, hf, q⟩ := h
  rw [Vals.ref1 r]
  obtain ⟨its, rv, pl, hz⟩ := I.list hl
  refine set_of_list (ns := ns) (I.ok.hd hc) pl.isList (by simpa using intsAre_of rv) (by unfold scanBound; omega) fun h' tk c ⟨R, cn, k⟩ => ?_
  exact ⟨.ref s.heap.objs.size, _, I.laid (t' := tk) k (Nat.le_refl _) (setO_new R), rfl, q _ c (I.hok.fresh (Nat.le_refl _)) cn⟩
end
end Lr

namespace Lr
open PySem PySem.Spec PyProof.Rows L2

/-top-/
/-- whether the stack is laid along these items, to their end -/
def mt : List Str → List Str → Bool
  | [], s => s.isEmpty
  | it :: suf, s => if it = "all" then (List.range (s.length + 1)).any (fun k => mt suf (s.drop k)) else match s with
    | [] => false
    | l :: s' => decide (it = "any" ∨ it = l) && mt suf s'
theorem mt_all {suf s : List Str} : mt ("all" :: suf) s = true ↔ ∃ k : Nat, k ≤ s.length ∧ mt suf (s.drop k) = true := by
  show (if ("all" : Str) = "all" then (List.range (s.length + 1)).any (fun k => mt suf (s.drop k)) else _) = true ↔ _
  rw [if_pos rfl, List.any_eq_true]
  constructor
  · rintro ⟨k, hk, h⟩
    exact ⟨k, by have z := List.mem_range.mp hk; omega, h⟩
  · rintro ⟨k, hk, h⟩
    exact ⟨k, List.mem_range.mpr (by omega), h⟩
theorem mt_one {it : Str} {suf s : List Str} (ne : it ≠ "all") : mt (it :: suf) s = true ↔ ∃ l s', s = l :: s' ∧ (it = "any" ∨ it = l) ∧ mt suf s' = true := by
  show (if it = "all" then _ else match s with
    | [] => false
    | l :: s' => decide (it = "any" ∨ it = l) && mt suf s') = true ↔ _
  rw [if_neg ne]
  cases s with
  | nil =>
    constructor
    · intro z
      cases z
    · rintro ⟨l, s', z, _⟩
      cases z
  | cons l s' =>
    show (decide (it = "any" ∨ it = l) && mt suf s') = true ↔ _
    rw [Bool.and_eq_true, decide_eq_true_eq]
    constructor
    · rintro ⟨h1, h2⟩
      exact ⟨l, s', rfl, h1, h2⟩
    · rintro ⟨l2, s2, z, h1, h2⟩
      cases z
      exact ⟨h1, h2⟩
theorem mt_nil : ∀ items : List Str, mt items [] = items.all fun it => decide (it = "all")
  | [] => rfl
  | it :: suf => by
    rw [List.all_cons, ← mt_nil suf]
    by_cases e : it = "all"
    · subst e
      rw [Bool.eq_iff_iff, mt_all, decide_eq_true rfl, Bool.true_and]
      constructor
      · rintro ⟨k, _, h⟩
        rw [List.drop_nil] at h
        exact h
      · intro h
        exact ⟨0, Nat.zero_le _, h⟩
    · rw [decide_eq_false e, Bool.false_and]
      refine Bool.eq_false_iff.mpr fun z => ?_
      obtain ⟨l, s', q, _⟩ := (mt_one e).mp z
      cases q
theorem mt_cons_all {suf s : List Str} {l : Str} : mt ("all" :: suf) (l :: s) = (mt suf (l :: s) || mt ("all" :: suf) s) := by
  rw [Bool.eq_iff_iff, Bool.or_eq_true, mt_all, mt_all]
  constructor
  · rintro ⟨k, hk, h⟩
    cases k with
    | zero => exact .inl h
    | succ k => exact .inr ⟨k, by rw [List.length_cons] at hk; omega, h⟩
  · rintro (h | ⟨k, hk, h⟩)
    · exact ⟨0, Nat.zero_le _, h⟩
    · exact ⟨k + 1, by rw [List.length_cons]; omega, h⟩
theorem canFit_mt (shape : List Str) : ∀ (s : List Str) (d : Nat), canFit shape s (d : Int) = mt (shape.drop d) s
  | [], d => by
    rw [mt_nil]
    show (shape.drop ((d : Int)).toNat).all _ = _
    rw [Int.toNat_natCast]
  | l :: s, d => by
    have ih := canFit_mt shape s
    have go : ∀ (items : List Str) (p : Nat), shape.drop p = items → (leadsGo l items p).any (canFit shape s) = mt items (l :: s) := by
      intro items
      induction items with
      | nil => intro p _; rfl
      | cons it rest ihr =>
        intro p hp
        have hp1 : shape.drop (p + 1) = rest := by
          have z : (shape.drop p).tail = shape.drop (p + 1) := List.tail_drop
          rw [hp] at z
          exact z.symm
        unfold leadsGo
        by_cases e : it = "all"
        · subst e
          rw [if_pos rfl, List.any_cons, ihr (p + 1) hp1, ih p, hp, mt_cons_all, Bool.or_comm]
        · rw [if_neg e]
          by_cases e2 : it = "any" ∨ it = l
          · rw [if_pos e2, List.any_cons, List.any_nil, Bool.or_false]
            have z := ih (p + 1)
            rw [hp1] at z
            show canFit shape s ((p : Int) + 1) = _
            rw [show ((p : Int) + 1) = ((p + 1 : Nat) : Int) from by omega, z, Bool.eq_iff_iff, mt_one e]
            constructor
            · intro h
              exact ⟨l, s, rfl, e2, h⟩
            · rintro ⟨l2, s2, q, _, h⟩
              cases q
              exact h
          · rw [if_neg e2, List.any_nil]
            refine (Bool.eq_false_iff.mpr fun z => ?_).symm
            obtain ⟨l2, s2, q, h, _⟩ := (mt_one e).mp z
            cases q
            exact e2 h
    show (leadsGo l (shape.drop ((d : Int)).toNat) ((d : Int)).toNat).any (canFit shape s) = _
    rw [Int.toNat_natCast]
    exact go _ d rfl
/-- the ends from which what is left is laid -/
def En (ends : List Int) (suf stack : List Str) : Prop := ∀ e : Int, e ∈ ends ↔ ∃ k : Nat, e = (k : Int) ∧ k ≤ stack.length ∧ mt suf (stack.drop k) = true
def Ad (it : Str) (stack : List Str) (d e : Int) : Prop := (it = "all" ∧ 0 ≤ e ∧ e ≤ d) ∨ (it ≠ "all" ∧ 0 < d ∧ (it = "any" ∨ it = stack.getD (d - 1).toNat "") ∧ e = d - 1)
theorem En.base (stack : List Str) : En [(stack.length : Int)] [] stack := fun e => by
  rw [List.mem_singleton]
  constructor
  · intro h
    exact ⟨stack.length, h, Nat.le_refl _, by rw [List.drop_length]; rfl⟩
  · rintro ⟨k, rfl, hk, h⟩
    have z : (stack.drop k).isEmpty = true := h
    rw [List.isEmpty_iff] at z
    have z2 := List.drop_eq_nil_iff.mp z
    omega
theorem En.step {ends ends' : List Int} {suf stack : List Str} {it : Str} (h : En ends suf stack) (h' : ∀ e, e ∈ ends' ↔ ∃ d ∈ ends, Ad it stack d e) : En ends' (it :: suf) stack := fun e => by
  rw [h' e]
  by_cases a : it = "all"
  · subst a
    constructor
    · rintro ⟨d, hd, ⟨_, e0, e1⟩ | ⟨ne, _⟩⟩
      · obtain ⟨k, rfl, hk, hm⟩ := (h d).mp hd
        refine ⟨e.toNat, by omega, by omega, mt_all.mpr ⟨k - e.toNat, by rw [List.length_drop]; omega, ?_⟩⟩
        rw [List.drop_drop, show e.toNat + (k - e.toNat) = k from by omega]
        exact hm
      · exact absurd rfl ne
    · rintro ⟨k, rfl, hk, hm⟩
      obtain ⟨j, hj, hm⟩ := mt_all.mp hm
      rw [List.drop_drop] at hm
      rw [List.length_drop] at hj
      exact ⟨((k + j : Nat) : Int), (h _).mpr ⟨k + j, rfl, by omega, hm⟩, .inl ⟨rfl, by omega, by omega⟩⟩
  · constructor
    · rintro ⟨d, hd, ⟨z, _⟩ | ⟨_, d0, c, rfl⟩⟩
      · exact absurd z a
      · obtain ⟨k, rfl, hk, hm⟩ := (h d).mp hd
        have lt : k - 1 < stack.length := by omega
        refine ⟨k - 1, by omega, by omega, (mt_one a).mpr ⟨stack[k - 1], stack.drop k, ?_, ?_, hm⟩⟩
        · rw [List.drop_eq_getElem_cons lt, show k - 1 + 1 = k from by omega]
        · have z : ((k : Int) - 1).toNat = k - 1 := by omega
          rw [z, List.getD_eq_getElem?_getD, List.getElem?_eq_getElem lt] at c
          exact c
    · rintro ⟨k, rfl, hk, hm⟩
      obtain ⟨l, s', q, c, hm⟩ := (mt_one a).mp hm
      have lt : k < stack.length := by
        have z := congrArg List.length q
        rw [List.length_drop, List.length_cons] at z
        omega
      rw [List.drop_eq_getElem_cons lt] at q
      injection q with q1 q2
      refine ⟨((k + 1 : Nat) : Int), (h _).mpr ⟨k + 1, rfl, by omega, by rw [q2]; exact hm⟩, .inr ⟨a, by omega, ?_, by omega⟩⟩
      have z : (((k + 1 : Nat) : Int) - 1).toNat = k := by omega
      rw [z, List.getD_eq_getElem?_getD, List.getElem?_eq_getElem lt]
      rw [← q1] at c
      exact c
theorem same_free {H H' : Hp} {p : Addr} (s : Same H H') (n : H' p = none) : H p = none := by
  cases z : H p with
  | none => rfl
  | some o =>
    have q := s p o z
    rw [n] at q
    cases q
def rgL (d : Int) : List Int := (List.range (d + 1 - 0).toNat).map fun i => 0 + ((i : Nat) : Int)
theorem rgL_eq (d : Int) : rgV 0 (d + 1) = (rgL d).map V.int := by
  unfold rgV rgL
  rw [List.map_map]
  rfl
theorem mem_rgL {d e : Int} : e ∈ rgL d ↔ 0 ≤ e ∧ e ≤ d := by
  unfold rgL
  rw [List.mem_map]
  constructor
  · rintro ⟨i, hi, rfl⟩
    have z := List.mem_range.mp hi
    omega
  · rintro ⟨h0, h1⟩
    exact ⟨e.toNat, List.mem_range.mpr (by omega), by omega⟩
theorem len_rgL (d : Int) : (rgL d).length = (d + 1).toNat := by
  unfold rgL
  rw [List.length_map, List.length_range]
  congr 1
  omega
theorem inV_ints (y : Int) : ∀ ls : List Int, inV (V.int y) (ls.map V.int) = decide (y ∈ ls)
  | [] => rfl
  | l :: ls => by
    have ih := inV_ints y ls
    unfold inV at ih ⊢
    rw [List.map_cons, List.any_cons, ih]
    have z : eqV (V.int l) (V.int y) = decide (l = y) := by
      simp only [eqV]
      exact Bool.beq_eq_decide_eq l y
    rw [z, Bool.eq_iff_iff, Bool.or_eq_true, decide_eq_true_eq, decide_eq_true_eq, decide_eq_true_eq, List.mem_cons]
    exact ⟨fun h => h.elim (fun e => .inl e.symm) .inr, fun h => h.elim (fun e => .inl e.symm) .inr⟩
theorem flat_ints : ∀ ls : List Int, (ls.map V.int).all flatV = true
  | [] => rfl
  | l :: ls => by
    rw [List.map_cons, List.all_cons, flat_ints ls]
    rfl
def spCu (K : PySem.W.Frag) : Sp := fun vs H Q _ => ∃ (sh st : Addr) (shape stack : List Str), vs = [.ref sh, .ref st] ∧ SqT K H sh (shape.map V.str) ∧ SqT K H st (stack.map V.str) ∧ stack.length ≤ 6 ∧ ∀ H', Same H H' → Q (.bl (canFit shape stack 0)) H'
abbrev rLenSqT (K : PySem.W.Frag) : List V → Hp → VK → Prop := rLenSq K
section
variable {P : Program} {w : World} {K : PySem.W.Frag} {mg : Str → Option Value} {base : Heap}
theorem scCu : FnScope ["shape", "stack", "ends", "item", "fresh", "end"] ["shape", "stack"] (defScope sCu) := ⟨rfl, rfl, rfl, by decide +kernel, rfl, by decide +kernel, by decide +kernel⟩
theorem ok_Cu {f : Addr} {fd : FuncData} (F : Fun K "_law_cut" "_law_cut" sCu f fd) (T : Bt mg) : FnOk P w K mg base CX0 1 f fd ["shape", "stack"] (spCu K) := by
  refine F.ok scCu (fun vs H Q E h => ?_) (fun cdv A outer s H vs Q E hr h => ?_)
  · obtain ⟨sh, st, shape, stack, rfl, es, et, l6, k⟩ := h
    rfl
  · obtain ⟨sh, st, shape, stack, rfl, es, et, l6, k⟩ := h
    refine ⟨_, (pss_cons (ps_set (i := 2) scCu.nd rfl (by first | exact Or.inl rfl | exact Or.inr rfl) (pe_lst (pa_cons (pe_callB (lenK (K := K)) (by rfl) T.len PySem.boot_len (pa_cons (pv 1) pa_nil)) pa_nil)))
      (pss_cons (ps_for PassesOwn.never rfl (pi_tup (pe_revT (pv 0) (po_some (pe_un un_neg pe_int)))) (pg_name (i := 3) scCu.nd rfl (by first | exact Or.inl rfl | exact Or.inr rfl)) (pss_cons (ps_set (i := 4) scCu.nd rfl (by first | exact Or.inl rfl | exact Or.inr rfl) (pe_lst pa_nil))
      (pss_cons (ps_for PassesOwn.never rfl (pi_list (pv 2)) (pg_name (i := 5) scCu.nd rfl (by first | exact Or.inl rfl | exact Or.inr rfl)) (pss_one (ps_if (pt_cmpR op_eq (pv 3) pe_str (nomark _)) (pss_one (ps_set (i := 4) scCu.nd rfl (by first | exact Or.inl rfl | exact Or.inr rfl) (pe_op op_cat (pv 4) (pe_listRg rfl (by rfl) T.list (prg_1 (by rfl) T.range (pe_op op_add (pv 5) pe_int)))))) (pss_one (ps_if (PW.pt (pw_and (pt_cmpR op_gt (pv 5) pe_int (nomark _)) (pw_and1 (pt_cmpR op_in_seq (pv 3) (pe_tup (pa_cons pe_str (pa_cons (pe_ix (ixT (K := K)) (pv 1) (pe_op op_sub (pv 5) pe_int) (fun _ _ => rfl)) pa_nil))) (by rfl))))) (pss_one (ps_expr (pe_bm PySem.F.plainAttrs_list PySem.F.slot_list_append PySem.F.type_list_append mt_append (pv 4) (pa_cons (pe_op op_sub (pv 5) pe_int) pa_nil)))) pss_nil)))))
      (pss_one (ps_set (i := 2) scCu.nd rfl (by first | exact Or.inl rfl | exact Or.inr rfl) (pe_callB (cr_sortedSet rfl) (by rfl) T.sorted (by decide +kernel) (pa_cons (pe_callTy (cr_setLI rfl) (by rfl) T.set (by decide +kernel) (pa_cons (pv 4) pa_nil)) pa_nil)))))))
      (pss_one (ps_ret (pe_cmpR op_in_seq pe_int (pv 2) (by rfl)))))), ?_⟩
    refine ⟨_, rfl, st, _, rfl, .inr et, s1le, fun E0 nE => ?_⟩
    have s1 : Same H (upd H E0 (.lst [.int ((stack.map V.str).length : Nat)])) := same_upd nE
    refine ⟨_, rfl, 1, rfl, -1, rfl, rfl, sh, _, rfl, (Tk.of s1).seq es, fun rp nrp => ?_⟩
    have s2 : Same (upd H E0 (.lst [.int ((stack.map V.str).length : Nat)])) (upd (upd H E0 (.lst [.int ((stack.map V.str).length : Nat)])) rp (.tup (shape.map V.str).reverse)) := same_upd nrp
    have erp : SqT K (upd (upd H E0 (.lst [.int ((stack.map V.str).length : Nat)])) rp (.tup (shape.map V.str).reverse)) rp (shape.map V.str).reverse := SqT.of upd_same
    have eE : (upd (upd H E0 (.lst [.int ((stack.map V.str).length : Nat)])) rp (.tup (shape.map V.str).reverse)) E0 = some (.lst ([((stack.length : Nat) : Int)].map V.int)) := by
      refine s2 _ _ ?_
      rw [upd_same, List.length_map]
      rfl
    have s12 := s1.trans s2
    revert erp eE s12
    generalize upd (upd H E0 (.lst [.int ((stack.map V.str).length : Nat)])) rp (.tup (shape.map V.str).reverse) = H2
    intro erp eE s12
    refine ⟨rp, rfl, ⟨_, erp⟩, ?_⟩
    refine for_tup (K := K) (xs := (shape.map V.str).reverse) (fun i σ H' => ∃ (Ea : Addr) (u3 u4 u5 : Option V) (ends : List Int), σ = [some (.ref sh), some (.ref st), some (.ref Ea), u3, u4, u5] ∧ Same H2 H' ∧ H' Ea = some (.lst (ends.map V.int)) ∧ ends.length ≤ 7 ∧ En ends (shape.drop (shape.length - i)) stack)
      ⟨E0, _, _, _, _, rfl, Same.refl _, eE, by show 1 ≤ 7; decide, by rw [Nat.sub_zero, List.drop_length]; exact En.base stack⟩ (fun i σ H' _ ⟨_, _, _, _, _, _, sm, _⟩ => (Tk.of sm).seq erp) ?_ ?_
    · rintro i x σ HB hx ⟨Ea, u3, u4, u5, ends, rfl, sm, eE1, le, en⟩
      have il : i < shape.length := by
        have z := (List.getElem?_eq_some_iff.mp hx).1
        rw [List.length_reverse, List.length_map] at z
        exact z
      rw [← List.map_reverse, List.getElem?_map, Option.map_eq_some_iff] at hx
      obtain ⟨it, hit, rfl⟩ := hx
      rw [List.getElem?_reverse il] at hit
      have ed : shape.drop (shape.length - (i + 1)) = it :: shape.drop (shape.length - i) := by
        have lt : shape.length - (i + 1) < shape.length := by omega
        rw [List.drop_eq_getElem_cons lt, show shape.length - (i + 1) + 1 = shape.length - i from by omega]
        rw [show shape.length - 1 - i = shape.length - (i + 1) from by omega, List.getElem?_eq_getElem lt] at hit
        injection hit with hit
        rw [hit]
      have etB : SqT K HB st (stack.map V.str) := ((Tk.of s12).trans (Tk.of sm)).seq et
      refine ⟨Nat.zero_le _, fun F0 nF0 => ?_⟩
      refine ⟨_, rfl, Ea, rfl, ⟨_, SqL.of ((same_upd nF0) _ _ eE1)⟩, ?_⟩
      refine for_list (K := K) (xs := ends.map V.int) (fun j σ H' => ∃ (Fa : Addr) (u5 : Option V) (fr : List Int), σ = [some (.ref sh), some (.ref st), some (.ref Ea), some (.str it), some (.ref Fa), u5] ∧ Same HB H' ∧ HB Fa = none ∧ H' Fa = some (.lst (fr.map V.int)) ∧ fr.length ≤ 7 * j ∧ ∀ e, e ∈ fr ↔ ∃ d ∈ ends.take j, Ad it stack d e)
        ⟨F0, _, [], rfl, same_upd nF0, nF0, upd_same, Nat.zero_le _, fun e => by
          rw [List.take_zero]
          constructor
          · intro z
            cases z
          · rintro ⟨d, hd, _⟩
            cases hd⟩ (fun j σ H' _ ⟨_, _, _, _, sm2, _⟩ => SqL.of (sm2 _ _ eE1)) ?_ ?_
      · rintro j x σ H' hx ⟨Fa, u5, fr, rfl, sm2, nFB, eF, lf, mem⟩
        rw [List.getElem?_map, Option.map_eq_some_iff] at hx
        obtain ⟨d, hd, rfl⟩ := hx
        have jl : j < 7 := by
          have z := (List.getElem?_eq_some_iff.mp hd).1
          omega
        obtain ⟨kd, ekd, hkd, _⟩ := (en d).mp (List.mem_of_getElem? hd)
        refine ⟨_, rfl, rfl, _, rfl, ?_⟩
        refine ite2 (fun yes => ?_) (fun no => ?_)
        · have ia : it = "all" := by
            have z := of_decide_eq_true yes
            injection z
          refine ⟨_, rfl, _, rfl, _, _, rfl, rfl, _, rfl, RgOk.of_le (by omega) (by omega) (by omega) (by omega), fun q nq => ?_⟩
          rw [rgL_eq]
          have nFq : Fa ≠ q := ne_of_none eF nq
          refine ⟨Fa, q, _, _, rfl, rfl, by rw [upd_ne nFq]; exact eF, upd_same, by rw [List.length_map, List.length_map, len_rgL, sizeLine_eq]; omega, fun p np => ?_⟩
          have s5 : Same H' (upd H' q (.lst ((rgL d).map V.int))) := same_upd nq
          have s6 : Same (upd H' q (.lst ((rgL d).map V.int))) (upd (upd H' q (.lst ((rgL d).map V.int))) p (.lst (fr.map V.int ++ (rgL d).map V.int))) := same_upd np
          refine ⟨p, _, fr ++ rgL d, rfl, (sm2.trans s5).trans s6, same_free (sm2.trans s5) np, by rw [upd_same, List.map_append], by rw [List.length_append, len_rgL]; omega, fun e => ?_⟩
          rw [List.mem_append, mem e, mem_take_succ hd, mem_rgL]
          constructor
          · rintro (⟨d2, h2, h3⟩ | h2)
            · exact ⟨d2, List.mem_append_left _ h2, h3⟩
            · exact ⟨d, List.mem_append_right _ (List.mem_singleton.mpr rfl), .inl ⟨ia, h2.1, h2.2⟩⟩
          · rintro ⟨d2, h2, h3⟩
            rcases List.mem_append.mp h2 with h2 | h2
            · exact .inl ⟨d2, h2, h3⟩
            · rw [List.mem_singleton.mp h2] at h3
              rcases h3 with h3 | h3
              · exact .inr h3.2
              · exact absurd ia h3.1
        · have ia : it ≠ "all" := fun z => no (decide_eq_true (by rw [z]))
          have keep : (¬ (0 < d ∧ (it = "any" ∨ it = stack.getD (d - 1).toNat ""))) → ∀ e, e ∈ fr ↔ ∃ d ∈ ends.take (j + 1), Ad it stack d e := fun nd e => by
            rw [mem e, mem_take_succ hd]
            constructor
            · rintro ⟨d2, h2, h3⟩
              exact ⟨d2, List.mem_append_left _ h2, h3⟩
            · rintro ⟨d2, h2, h3⟩
              rcases List.mem_append.mp h2 with h2 | h2
              · exact ⟨d2, h2, h3⟩
              · rw [List.mem_singleton.mp h2] at h3
                rcases h3 with h3 | h3
                · exact absurd h3.1 ia
                · exact absurd ⟨h3.2.1, h3.2.2.1⟩ nd
          refine ⟨_, rfl, _, _, rfl, rfl, _, rfl, ?_⟩
          refine ite2 (fun yes => ?_) (fun no2 => ?_)
          · have d0 : 0 < d := of_decide_eq_true yes
            have lt : (d - 1).toNat < stack.length := by omega
            have at_d : atI (stack.map V.str) (d - 1) = some (V.str (stack.getD (d - 1).toNat "")) := by
              have z := str_at (List.getElem?_eq_getElem lt)
              rw [show (((d - 1).toNat : Nat) : Int) = d - 1 from by omega] at z
              rw [z, List.getD_eq_getElem?_getD, List.getElem?_eq_getElem lt]
              rfl
            refine ⟨_, rfl, _, rfl, _, rfl, _, _, rfl, rfl, st, _, _, _, rfl, rfl, (Tk.of sm2).seq etB, at_d, ?_⟩
            refine ⟨s2le, fun t nt => ?_⟩
            have s5 : Same H' (upd H' t (.tup [.str "any", .str (stack.getD (d - 1).toNat "")])) := same_upd nt
            refine ⟨t, _, rfl, .inr (SqT.of upd_same), rfl, rfl, _, rfl, ?_⟩
            have ans : (if false = true then !inV (V.str it) [V.str "any", V.str (stack.getD (d - 1).toNat "")] else inV (V.str it) [V.str "any", V.str (stack.getD (d - 1).toNat "")]) = decide (it = "any" ∨ it = stack.getD (d - 1).toNat "") := by
              show inV (V.str it) ((["any", stack.getD (d - 1).toNat ""] : List Str).map V.str) = _
              rw [inV_strs]
              simp
            by_cases e2 : it = "any" ∨ it = stack.getD (d - 1).toNat ""
            · refine ifT (ans.trans (decide_eq_true e2)) ?_
              have eF5 := s5 _ _ eF
              refine ⟨_, rfl, .inl ⟨rfl, _, SqL.of eF5⟩, _, rfl, _, _, rfl, rfl, Fa, _, _, rfl, rfl, eF5, by rw [List.length_map, sizeLine_eq]; omega, ?_⟩
              refine ⟨Fa, _, fr ++ [d - 1], rfl, fun b o eb => ?_, nFB, by rw [upd_same, List.map_append]; rfl, by rw [List.length_append]; show fr.length + 1 ≤ _; omega, fun e => ?_⟩
              · rw [upd_ne (ne_of_none eb nFB)]
                exact s5 _ _ (sm2 _ _ eb)
              · rw [List.mem_append, mem e, mem_take_succ hd, List.mem_singleton]
                constructor
                · rintro (⟨d2, h2, h3⟩ | h2)
                  · exact ⟨d2, List.mem_append_left _ h2, h3⟩
                  · exact ⟨d, List.mem_append_right _ (List.mem_singleton.mpr rfl), .inr ⟨ia, d0, e2, h2⟩⟩
                · rintro ⟨d2, h2, h3⟩
                  rcases List.mem_append.mp h2 with h2 | h2
                  · exact .inl ⟨d2, h2, h3⟩
                  · rw [List.mem_singleton.mp h2] at h3
                    rcases h3 with h3 | h3
                    · exact absurd h3.1 ia
                    · exact .inr h3.2.2.2
            · refine ifF (ans.trans (decide_eq_false e2)) ?_
              exact ⟨Fa, _, fr, rfl, sm2.trans s5, nFB, s5 _ _ eF, by omega, keep fun z => e2 z.2⟩
          · refine ifF rfl ?_
            exact ⟨Fa, _, fr, rfl, sm2, nFB, eF, by omega, keep fun z => no2 (decide_eq_true z.1)⟩
      · rintro σ H' ⟨Fa, u5, fr, rfl, sm2, nFB, eF, lf, mem⟩
        rw [List.length_map] at lf mem
        rw [List.take_length] at mem
        refine ⟨_, rfl, Fa, fr, rfl, SqL.of eF, by omega, fun D n nD ln => ?_⟩
        have s7 : Same H' (upd H' D (SetO w D (fun z => decide (z ∈ fr)) n)) := same_upd nD
        refine ⟨D, _, n, rfl, upd_same, by omega, fun ms p asc mm _ np => ?_⟩
        have en' : En ms (shape.drop (shape.length - (i + 1))) stack := by
          rw [ed]
          refine en.step fun e => ?_
          rw [mm e, decide_eq_true_eq, mem e]
        have bd : ∀ z ∈ ms, 0 ≤ z ∧ z ≤ ((stack.length : Nat) : Int) := fun z hz => by
          obtain ⟨k, rfl, hk, _⟩ := (en' z).mp hz
          exact ⟨by omega, by omega⟩
        have lm := asc_len asc bd
        exact ⟨p, _, _, _, ms, rfl, ((sm.trans sm2).trans s7).trans (same_upd np), upd_same, by omega, en'⟩
    rintro σ H' ⟨Ea, u3, u4, u5, ends, rfl, sm, eE1, le, en⟩
    rw [List.length_reverse, List.length_map, Nat.sub_self] at en
    refine ⟨_, rfl, Ea, _, rfl, .inl (SqL.of eE1), rfl, flat_ints ends, ?_⟩
    have ans : (if false = true then !inV (V.int 0) (ends.map V.int) else inV (V.int 0) (ends.map V.int)) = canFit shape stack 0 := by
      show inV (V.int 0) (ends.map V.int) = canFit shape stack ((0 : Nat) : Int)
      rw [inV_ints, canFit_mt, Bool.eq_iff_iff, decide_eq_true_eq, en 0]
      constructor
      · rintro ⟨k, e, _, h⟩
        have k0 : k = 0 := by omega
        subst k0
        exact h
      · intro h
        exact ⟨0, rfl, Nat.zero_le _, h⟩
    rw [ans]
    exact k H' (s12.trans sm)

end
end Lr

namespace Lr
open PySem PySem.Spec PyProof.Rows L2

/-top-/
theorem catAK {X : Cx} {K : PySem.W.Frag} (h : X.K = K := by rfl) : OpR X (binaryOp .Add) (rCatA K) := h ▸ op_catA
/-- a list of tuples of texts -/
def StsAt (K : PySem.W.Frag) (H : Hp) (p : Addr) (sts : List (List Str)) : Prop := ∃ ps : List Addr, H p = some (.lst (ps.map V.ref)) ∧ Paired (fun a w => SqT K H a (w.map V.str)) ps sts
theorem StsAt.same {K : PySem.W.Frag} {H H' : Hp} {p : Addr} {sts : List (List Str)} (h : StsAt K H p sts) (s : Same H H') : StsAt K H' p sts := by
  obtain ⟨ps, e, pr⟩ := h
  exact ⟨ps, s _ _ e, paired_mono (fun q a z => (Tk.of s).seq z) pr⟩
/-- stacks over the labels, at most so high -/
def StOk (ls : List Str) (most : Nat) (sts : List (List Str)) : Prop := ∀ w ∈ sts, w.length ≤ most ∧ ∀ x ∈ w, x ∈ ls
theorem StOk.mono {ls : List Str} {a b : Nat} {sts : List (List Str)} (h : StOk ls a sts) (l : a ≤ b) : StOk ls b sts := fun w hw => ⟨Nat.le_trans (h w hw).1 l, (h w hw).2⟩
theorem StOk.app {ls : List Str} {a : Nat} {s t : List (List Str)} (h : StOk ls a s) (g : StOk ls a t) : StOk ls a (s ++ t) := fun w hw => by
  rcases List.mem_append.mp hw with hw | hw
  · exact h w hw
  · exact g w hw
theorem three_pow {i : Nat} (h : i ≤ 6) : 3 ^ i ≤ 729 := Nat.pow_le_pow_right (by decide) h
def spSt (K : PySem.W.Frag) : Sp := fun vs H Q _ => ∃ (l : Addr) (most : Nat) (ls : List Str), vs = [.ref l, .int most] ∧ LbAt K H l ls ∧ ls.length ≤ 3 ∧ most ≤ 6 ∧
  ∀ (H' : Hp) (p : Addr) (sts : List (List Str)), Same H H' → StsAt K H' p sts → StOk ls most sts → Q (.ref p) H'
section
variable {P : Program} {w : World} {K : PySem.W.Frag} {mg : Str → Option Value} {base : Heap}
theorem scSt : FnScope ["labels", "most", "found", "last", "turn", "longer", "stack", "label"] ["labels", "most"] (defScope sSt) := ⟨rfl, rfl, rfl, by decide +kernel, rfl, by decide +kernel, by decide +kernel⟩
theorem ok_St {f : Addr} {fd : FuncData} (F : Fun K "_law_stacks" "_law_stacks" sSt f fd) (T : Bt mg) : FnOk P w K mg base CX0 1 f fd ["labels", "most"] (spSt K) := by
  refine F.ok scSt (fun vs H Q E h => ?_) (fun cdv A outer s H vs Q E hr h => ?_)
  · obtain ⟨l, most, ls, rfl, el, l3, m6, k⟩ := h
    rfl
  · obtain ⟨l, most, ls, rfl, el, l3, m6, k⟩ := h
    refine ⟨_, (pss_cons (ps_par (i := 2) (j := 3) rfl scSt.nd rfl rfl (by decide) rfl rfl (pa_cons (pe_lst (pa_cons (pe_tup pa_nil) pa_nil)) (pa_cons (pe_lst (pa_cons (pe_tup pa_nil) pa_nil)) pa_nil)) rfl)
      (pss_cons (ps_for PassesOwn.never rfl (pi_range1 (by rfl) T.range (pa_cons (pv 1) pa_nil)) (pg_name (i := 4) scSt.nd rfl (by first | exact Or.inl rfl | exact Or.inr rfl)) (pss_cons (ps_set (i := 5) scSt.nd rfl (by first | exact Or.inl rfl | exact Or.inr rfl) (pe_lst pa_nil))
      (pss_cons (ps_for PassesOwn.never rfl (pi_list (pv 3)) (pg_name (i := 6) scSt.nd rfl (by first | exact Or.inl rfl | exact Or.inr rfl)) (pss_one (ps_set (i := 5) scSt.nd rfl (by first | exact Or.inl rfl | exact Or.inr rfl) (pe_op op_cat (pv 5) (pe_lc (own := [("label", 7)]) (g := gName 7) (tt := tYes) (te := tOp (rCatA K) (tVar 6) (tTup (tCons (tVar 7) tNil))) rfl scSt.nd (pi_tup (pv 0)) (blkOk_by (N := ["labels", "most", "found", "last", "turn", "longer", "stack", "label"]) (sc := defScope sSt) (by decide +kernel)) (fun _ _ _ _ _ => pg_name (i := 7) scSt.nd rfl (.inl rfl)) (fun _ _ _ _ _ => pts_nil)
        (fun _ _ _ _ _ => pe_op (catAK (K := K)) (pv 6) (pe_tup (pa_cons (pv 7) pa_nil))))))))
      (pss_one (ps_par (i := 2) (j := 3) rfl scSt.nd rfl rfl (by decide) rfl rfl (pa_cons (pe_op op_cat (pv 2) (pv 5)) (pa_cons (pv 5) pa_nil)) rfl)))))
      (pss_one (ps_ret (pv 2))))), ?_⟩
    refine ⟨Nat.zero_le _, fun a1 n1 => ⟨s1le, fun F nF => ⟨Nat.zero_le _, fun a2 n2 => ⟨s1le, fun L nL => ⟨_, _, rfl, ?_⟩⟩⟩⟩⟩
    have q1 : Same H (upd H a1 (.tup [])) := same_upd n1
    have q2 : Same (upd H a1 (.tup [])) (upd (upd H a1 (.tup [])) F (.lst [.ref a1])) := same_upd nF
    have q3 : Same (upd (upd H a1 (.tup [])) F (.lst [.ref a1])) (upd (upd (upd H a1 (.tup [])) F (.lst [.ref a1])) a2 (.tup [])) := same_upd n2
    have q4 : Same (upd (upd (upd H a1 (.tup [])) F (.lst [.ref a1])) a2 (.tup [])) (upd (upd (upd (upd H a1 (.tup [])) F (.lst [.ref a1])) a2 (.tup [])) L (.lst [.ref a2])) := same_upd nL
    have one1 : StsAt K (upd (upd (upd (upd H a1 (.tup [])) F (.lst [.ref a1])) a2 (.tup [])) L (.lst [.ref a2])) F [[]] := by
      refine StsAt.same ⟨[a1], upd_same, .cons ?_ .nil⟩ (q3.trans q4)
      exact (Tk.of q2).seq (SqT.of upd_same)
    have one2 : StsAt K (upd (upd (upd (upd H a1 (.tup [])) F (.lst [.ref a1])) a2 (.tup [])) L (.lst [.ref a2])) L [[]] := ⟨[a2], upd_same, .cons ((Tk.of q4).seq (SqT.of upd_same)) .nil⟩
    have qq := ((q1.trans q2).trans q3).trans q4
    revert one1 one2 qq
    generalize upd (upd (upd (upd H a1 (.tup [])) F (.lst [.ref a1])) a2 (.tup [])) L (.lst [.ref a2]) = H0
    intro one1 one2 qq
    refine ⟨_, rfl, _, rfl, by omega, by omega, ?_⟩
    rw [Int.toNat_natCast]
    have ok0 : StOk ls 0 [[]] := fun w hw => by
      rw [List.mem_singleton.mp hw]
      exact ⟨Nat.le_refl _, fun x hx => nomatch hx⟩
    refine for_range (lo := 0) (n := most) (fun i σ H' => ∃ (Fa La : Addr) (u4 u5 u6 : Option V) (fs las : List (List Str)), σ = [some (.ref l), some (.int (most : Nat)), some (.ref Fa), some (.ref La), u4, u5, u6, none] ∧ Same H H' ∧ StsAt K H' Fa fs ∧ StsAt K H' La las ∧ fs.length ≤ 2 * 3 ^ i ∧ las.length ≤ 3 ^ i ∧ StOk ls i fs ∧ StOk ls i las)
      ⟨F, L, _, _, _, [[]], [[]], rfl, qq, one1, one2, by show 1 ≤ 2 * 3 ^ 0; decide, by show 1 ≤ 3 ^ 0; decide, ok0, ok0⟩ ?_ ?_
    · rintro i σ HB hi ⟨Fa, La, u4, u5, u6, fs, las, rfl, sm, sF, sL, lf, ll, okF, okL⟩
      have p3 := three_pow (i := i) (by omega)
      refine ⟨Nat.zero_le _, fun G0 nG0 => ?_⟩
      have sG : Same HB (upd HB G0 (.lst [])) := same_upd nG0
      obtain ⟨la, eL, prL⟩ := id sL
      have lla := Paired.length prL
      refine ⟨_, rfl, La, rfl, ⟨_, SqL.of (sG _ _ eL)⟩, ?_⟩
      refine for_list (K := K) (xs := la.map V.ref) (fun j σ H' => ∃ (Ga : Addr) (u6 : Option V) (gs : List (List Str)), σ = [some (.ref l), some (.int (most : Nat)), some (.ref Fa), some (.ref La), some (.int (0 + (i : Int))), some (.ref Ga), u6, none] ∧ Same HB H' ∧ StsAt K H' Ga gs ∧ gs.length ≤ 3 * j ∧ StOk ls (i + 1) gs)
        ⟨G0, _, [], rfl, sG, ⟨[], upd_same, .nil⟩, Nat.zero_le _, fun w hw => nomatch hw⟩ (fun j σ H' _ ⟨_, _, _, _, s2, _⟩ => SqL.of (s2 _ _ eL)) ?_ ?_
      · rintro j x σ H' hx ⟨Ga, u6, gs, rfl, s2, sg, lg, okG⟩
        rw [List.getElem?_map, Option.map_eq_some_iff] at hx
        obtain ⟨a, ha, rfl⟩ := hx
        obtain ⟨w, hw, sw⟩ := paired_get prL j a ha
        have jl : j < la.length := (List.getElem?_eq_some_iff.mp ha).1
        have okw := okL w (List.mem_of_getElem? hw)
        have el' : SqT K H' l (ls.map V.str) := ((Tk.of sm).trans (Tk.of s2)).seq el
        refine ⟨_, rfl, _, rfl, l, rfl, ⟨_, el'⟩, fun D nD => ?_⟩
        refine lc_tup (K := K) (xs := ls.map V.str) (fun e H2 => ∃ (ps : List Addr) (ts : List (List Str)), H2 D = some (.lst (ps.map V.ref)) ∧ Same H' H2 ∧ Paired (fun a w => SqT K H2 a (w.map V.str)) ps ts ∧ ts.length = e ∧ StOk ls (i + 1) ts)
          ⟨[], [], upd_same, same_upd nD, .nil, rfl, fun w hw => nomatch hw⟩ (fun e H2 _ ⟨_, _, _, s3, _⟩ => (Tk.of s3).seq el') ?_ ?_
        · rintro e x H2 hx ⟨ps, ts, eD, s3, pr, lt, okT⟩
          rw [List.getElem?_map, Option.map_eq_some_iff] at hx
          obtain ⟨y, hy, rfl⟩ := hx
          have el3 : e < ls.length := (List.getElem?_eq_some_iff.mp hy).1
          refine ⟨rfl, yes_of ?_⟩
          refine ⟨_, rfl, _, rfl, s1le, fun t1 nt1 => ?_⟩
          have s4 : Same H2 (upd H2 t1 (.tup [.str y])) := same_upd nt1
          have sw4 : SqT K (upd H2 t1 (.tup [.str y])) a (w.map V.str) := (((Tk.of s2).trans (Tk.of s3)).trans (Tk.of s4)).seq sw
          have lps := Paired.length pr
          have fin : ∀ (q : Addr) (H5 : Hp), Same (upd H2 t1 (.tup [.str y])) H5 → SqT K H5 q ((w ++ [y]).map V.str) → ∃ acc, H5 D = some (.lst acc) ∧ acc.length < sizeLine ∧ ∃ (ps : List Addr) (ts : List (List Str)), (upd H5 D (.lst (acc ++ [.ref q]))) D = some (.lst (ps.map V.ref)) ∧ Same H' (upd H5 D (.lst (acc ++ [.ref q]))) ∧ Paired (fun a w => SqT K (upd H5 D (.lst (acc ++ [.ref q]))) a (w.map V.str)) ps ts ∧ ts.length = e + 1 ∧ StOk ls (i + 1) ts := fun q H5 s5 sq => by
            have eD5 := s5 _ _ (s4 _ _ eD)
            have tD : Tk H5 (upd H5 D (.lst (ps.map V.ref ++ [.ref q]))) := tk_lst eD5
            refine ⟨_, eD5, by rw [List.length_map, sizeLine_eq]; omega, ps ++ [q], ts ++ [w ++ [y]], by rw [upd_same, List.map_append]; rfl, fun b o eb => ?_, ?_, by simp [lt], okT.app fun v hv => ?_⟩
            · rw [upd_ne (ne_of_none eb nD)]
              exact s5 _ _ (s4 _ _ (s3 _ _ eb))
            · exact Paired.snoc (paired_mono (fun q a z => (((Tk.of s4).trans (Tk.of s5)).trans tD).seq z) pr) (tD.seq sq)
            · rw [List.mem_singleton.mp hv]
              refine ⟨by rw [List.length_append]; show w.length + 1 ≤ _; omega, fun z hz => ?_⟩
              rcases List.mem_append.mp hz with hz | hz
              · exact okw.2 z hz
              · rw [List.mem_singleton.mp hz]
                exact List.mem_of_getElem? hy
          refine ⟨a, t1, _, _, rfl, rfl, sw4, SqT.of upd_same, by rw [List.length_map, sizeLine_eq]; show w.length + 1 ≤ _; omega, fun z => ?_, (fun _ z => nomatch z), fun _ _ p np => ?_⟩
          · refine fin t1 _ (Same.refl _) ?_
            have w0 : w = [] := List.map_eq_nil_iff.mp z
            rw [w0]
            exact SqT.of upd_same
          · refine fin p _ (same_upd np) ?_
            rw [List.map_append]
            exact SqT.of upd_same
        · rintro H2 ⟨ps, ts, eD, s3, pr, lt, okT⟩
          rw [List.length_map] at lt
          obtain ⟨gp, eG, prG⟩ := sg.same s3
          have lps := Paired.length pr
          have lgp := Paired.length prG
          refine ⟨Ga, D, _, _, rfl, rfl, eG, eD, by rw [List.length_map, List.length_map, sizeLine_eq]; omega, fun p np => ?_⟩
          have s5 : Same H2 (upd H2 p (.lst (gp.map V.ref ++ ps.map V.ref))) := same_upd np
          refine ⟨p, _, gs ++ ts, rfl, (s2.trans s3).trans s5, ⟨gp ++ ps, by rw [upd_same, List.map_append], ?_⟩, by rw [List.length_append]; omega, okG.app okT⟩
          exact paired_app (paired_mono (fun q a z => (Tk.of s5).seq z) prG) (paired_mono (fun q a z => (Tk.of s5).seq z) pr)
      · rintro σ H' ⟨Ga, u6, gs, rfl, s2, sg, lg, okG⟩
        rw [List.length_map] at lg
        obtain ⟨fp, eF, prF⟩ := sF.same s2
        obtain ⟨gp, eG, prG⟩ := id sg
        have lfp := Paired.length prF
        have lgp := Paired.length prG
        refine ⟨_, rfl, _, rfl, Fa, Ga, _, _, rfl, rfl, eF, eG, by rw [List.length_map, List.length_map, sizeLine_eq]; omega, fun p np => ⟨_, rfl, _, _, rfl, ?_⟩⟩
        have s5 : Same H' (upd H' p (.lst (fp.map V.ref ++ gp.map V.ref))) := same_upd np
        refine ⟨p, Ga, _, _, _, fs ++ gs, gs, rfl, (sm.trans s2).trans s5, ⟨fp ++ gp, by rw [upd_same, List.map_append], ?_⟩, sg.same s5, ?_, ?_, (okF.mono (Nat.le_succ i)).app okG, okG⟩
        · exact paired_app (paired_mono (fun q a z => (Tk.of s5).seq z) prF) (paired_mono (fun q a z => (Tk.of s5).seq z) prG)
        · rw [List.length_append, Nat.pow_succ]
          omega
        · rw [Nat.pow_succ]
          omega
    rintro σ H' ⟨Fa, La, u4, u5, u6, fs, las, rfl, sm, sF, sL, lf, ll, okF, okL⟩
    exact ⟨_, rfl, k H' Fa fs sm sF okF⟩

end
end Lr

namespace Lr
open PySem PySem.Spec PyProof.Rows L2 LamX

/-top-/
/-- what _law_heard asks of the classes, the error being of the class c8 -/
structure Th (K : PySem.W.Frag) (mg : Str → Option Value) (B nid iid : String) (tl : List Value) (cNE cT c1 c2 c3 c4 c5 c6 c7 c8 c9 c10 : Addr) : Prop where
  gN : mg "NetError" = some (.ref cNE)
  gT : mg "TooGreat" = some (.ref cT)
  g1 : mg "BadNet" = some (.ref c1)
  g2 : mg "BadNumber" = some (.ref c2)
  g3 : mg "BadRoad" = some (.ref c3)
  g4 : mg "BadHead" = some (.ref c4)
  g5 : mg "BadFailed" = some (.ref c5)
  g6 : mg "BadParcel" = some (.ref c6)
  g7 : mg "BadChoices" = some (.ref c7)
  g8 : mg "BadShape" = some (.ref c8)
  g9 : mg "BadGoal" = some (.ref c9)
  g10 : mg "BadPaper" = some (.ref c10)
  ve : mg "ValueError" = none
  any : PySem.W.exmAny K (.ref c8) [.ref cNE, .ref cT] = some true
  kT : PySem.W.kitOne K (.ref c8) (.ref cT) = some false
  k1 : PySem.W.kitOne K (.ref c8) (.ref c1) = some false
  k2 : PySem.W.kitOne K (.ref c8) (.ref c2) = some false
  k3 : PySem.W.kitOne K (.ref c8) (.ref c3) = some false
  k4 : PySem.W.kitOne K (.ref c8) (.ref c4) = some false
  k5 : PySem.W.kitOne K (.ref c8) (.ref c5) = some false
  k6 : PySem.W.kitOne K (.ref c8) (.ref c6) = some false
  k7 : PySem.W.kitOne K (.ref c8) (.ref c7) = some false
  k8 : PySem.W.kitOne K (.ref c8) (.ref c8) = some true
  k9 : PySem.W.kitOne K (.ref c8) (.ref c9) = some false
  k10 : PySem.W.kitOne K (.ref c8) (.ref c10) = some false
  kV : PySem.W.kitOne K (.ref c8) (.type "ValueError") = some true
  x : XT K B nid iid tl c8
  fr : PySem.W.findIn K (.ref c8) "value" = some none
abbrev NHe : List Str := ["call", "heard", "error", "e", "kinds_so", "words", "found", "one", "is_so"]
/-- the call always leaves by such an error; what is told of it -/
def TTh (c8 : Addr) : (XK → Hp → VK → Prop) → Hp → VK → Prop := fun tl H Q => ∀ H1, Same H H1 → ∀ R : VK, tl (fun cls d H' => cls = .ref c8 ∧ ∃ (dd : Addr) (v : V), d = some dd ∧ H' dd = some (exd dd [("value", v)]) ∧ ∀ H'' p, Same H' H'' → H'' p = some (.tup [.str "shape", v]) → Q (.ref p) H'') H1 R
theorem takes_len {X : Cx} {W : WX} (t : Takes X W) : Takes X (fun cls d σ H => σ.length = X.N.length → W cls d σ H) := fun u s' ⟨a, B, sI, pins, σ, H, cls, d, e, I, nb, up, sky, na, os, ag, w⟩ =>
  t u s' ⟨a, B, sI, pins, σ, H, cls, d, e, I, nb, up, sky, na, os, ag, w I.len⟩
def wds : List V := [.str "net", .str "number", .str "road", .str "head", .str "failed", .str "parcel", .str "choices", .str "shape", .str "goal", .str "paper"]
def bks : List V := [.bl false, .bl false, .bl false, .bl false, .bl false, .bl false, .bl false, .bl true, .bl false, .bl false]
theorem bk_at (i : Nat) (h : i < 10) : bks[i]? = some (V.bl (decide (i = 7))) := by
  match i, h with
  | 0, _ => rfl
  | 1, _ => rfl
  | 2, _ => rfl
  | 3, _ => rfl
  | 4, _ => rfl
  | 5, _ => rfl
  | 6, _ => rfl
  | 7, _ => rfl
  | 8, _ => rfl
  | 9, _ => rfl
theorem nine {α : Type} : ∀ l : List α, l.length = 9 → ∃ a b c d e f g h i, l = [a, b, c, d, e, f, g, h, i]
  | [a, b, c, d, e, f, g, h, i], _ => ⟨a, b, c, d, e, f, g, h, i, rfl⟩
section
variable {P : Program} {w : World} {K : PySem.W.Frag} {mg : Str → Option Value} {base : Heap}
theorem scHe : FnScope ["call", "heard", "error", "e", "kinds_so", "words", "found", "one", "is_so"] ["call"] (defScope sHe) := ⟨rfl, rfl, rfl, by decide +kernel, rfl, by decide +kernel, by decide +kernel⟩
theorem heard_body {X : Cx} {s : Shared} {H : Hp} {g f c' : Addr} {cdg : Value} {q : Str} {tl : XK → Hp → VK → Prop} {W : WX} {pn : List (Addr × Obj)} {xe : Value → Shared → Prop} {p1 p2 p3 p4 p5 : Pos}
    (act : ∀ (W : WX) (pn : List (Addr × Obj)) (xe : Value → Shared → Prop) (E : XK) (p1 p2 : Pos), Takes ((cxOf C8.CX0 X.prog X.w X.K X.mg X.base NHe "_law_heard" (defScope sHe) g cdg X.A X.stack s H C8.E0).tr pn xe) W → (∀ cls d σ' H', E cls d H' → W cls d σ' H') →
      PE ((cxOf C8.CX0 X.prog X.w X.K X.mg X.base NHe "_law_heard" (defScope sHe) g cdg X.A X.stack s H C8.E0).tr pn xe) (.Call (.Name "call" p1) [] [] p2) (fun σZ HZ Q => σZ[0]? = some (some (.ref f)) ∧ HZ c' = some (CodeO c' q) ∧ tl E HZ Q))
    (tk : Takes ((cxOf C8.CX0 X.prog X.w X.K X.mg X.base NHe "_law_heard" (defScope sHe) g cdg X.A X.stack s H C8.E0).tr pn xe) W) :
    PSs ((cxOf C8.CX0 X.prog X.w X.K X.mg X.base NHe "_law_heard" (defScope sHe) g cdg X.A X.stack s H C8.E0).tr pn xe) [.Assign [.Name "heard" p3] (.List [.Call (.Name "call" p1) [] [] p2] p4) p5]
      (fun D σ H => ∃ Ech : XK, (∀ cls d σ' H', Ech cls d H' → σ'.length = 9 → W cls d σ' H') ∧ σ[0]? = some (some (.ref f)) ∧ H c' = some (CodeO c' q) ∧ ∀ R : VK, tl Ech H R) := by
  refine ⟨fun pins s' σ H' D I hh => ?_⟩
  obtain ⟨Ech, hW, h1, h2, h3⟩ := hh
  have hp := act (fun cls d σ H => σ.length = 9 → W cls d σ H) pn xe Ech p1 p2 (takes_len tk) (fun cls d σ' H' e l => hW cls d σ' H' e l)
  have hq := pss_one (ps_set (i := 1) (x := "heard") (pos' := p3) (pos := p5) scHe.nd rfl (.inl rfl) (pe_lst (pos := p4) (pa_cons hp pa_nil)))
  exact hq.run pins s' σ H' D I ⟨h1, h2, h3 _⟩
theorem heard_gives {X : Cx} {q : Str} {g : Addr} {cdg : Value} {cNE cT c1 c2 c3 c4 c5 c6 c7 c8 c9 c10 : Addr} {B nid iid : String} {tls : List Value} (T : Bt X.mg) (h : Th X.K X.mg B nid iid tls cNE cT c1 c2 c3 c4 c5 c6 c7 c8 c9 c10) :
    LamX.GivesTo X NHe "_law_heard" (defScope sHe) g cdg (defBody sHe) "call" q (TTh c8) := by
  intro f c' s H Q tl act hc told
  refine ⟨_, (pss_cons (ps_par (i := 1) (j := 2) rfl scHe.nd rfl rfl (by decide) rfl rfl (pa_cons (pe_lst pa_nil) (pa_cons pe_non pa_nil)) (by rfl))
      (pss_cons (ps_try_own2 (X := (cxOf C8.CX0 X.prog X.w X.K X.mg X.base NHe "_law_heard" (defScope sHe) g cdg X.A X.stack s H C8.E0).nox) (c := .ref cNE) (c' := .ref cT) (i := 3)
        (tb := fun W D σ H => ∃ Ech : XK, (∀ cls d σ' H', Ech cls d H' → σ'.length = 9 → W cls d σ' H') ∧ σ[0]? = some (some (.ref f)) ∧ H c' = some (CodeO c' q) ∧ ∀ R : VK, tl Ech H R)
        rfl rfl rfl scHe.nd rfl rfl ⟨(by rfl), (by decide), .inl h.gN⟩ ⟨(by rfl), (by decide), .inl h.gT⟩ LamX.takes0 (fun W pn xe tk _ => heard_body act tk) (fun a pn => pss_one (ps_set (i := 2) scHe.nd rfl (.inl rfl) (pv 3))))
      (pss_cons (ps_if (pt_cmpR op_isN (pv 2) pe_non (nomark _)) (pss_one (ps_ret (pv 1))) pss_nil)
      (pss_cons (ps_if (pt_val (pe_callB call_isY (by rfl) T.isi (by decide +kernel) (pa_cons (pv 2) (pa_cons (pe_glob (v := V.ref cT) (by rfl) h.gT rfl) pa_nil)))) (pss_one (ps_ret (pe_ifExp (pt_not (pt_val (pe_callB call_isY (by rfl) T.isi (by decide +kernel) (pa_cons (pv 2) (pa_cons (pe_bltn (v := V.ty "ValueError") (by rfl) h.ve (by decide +kernel) rfl) pa_nil))))) (pe_tup (pa_cons pe_str (pa_cons (pe_ya (pv 2)) pa_nil))) pe_str))) pss_nil)
      (pss_cons (ps_set (i := 4) scHe.nd rfl (.inl rfl) (pe_lst (pa_cons (pe_callB call_isY (by rfl) T.isi (by decide +kernel) (pa_cons (pv 2) (pa_cons (pe_glob (v := V.ref c1) (by rfl) h.g1 rfl) pa_nil))) (pa_cons (pe_callB call_isY (by rfl) T.isi (by decide +kernel) (pa_cons (pv 2) (pa_cons (pe_glob (v := V.ref c2) (by rfl) h.g2 rfl) pa_nil))) (pa_cons (pe_callB call_isY (by rfl) T.isi (by decide +kernel) (pa_cons (pv 2) (pa_cons (pe_glob (v := V.ref c3) (by rfl) h.g3 rfl) pa_nil))) pa_nil)))))
      (pss_cons (ps_set (i := 4) scHe.nd rfl (.inl rfl) (pe_op op_cat (pv 4) (pe_lst (pa_cons (pe_callB call_isY (by rfl) T.isi (by decide +kernel) (pa_cons (pv 2) (pa_cons (pe_glob (v := V.ref c4) (by rfl) h.g4 rfl) pa_nil))) (pa_cons (pe_callB call_isY (by rfl) T.isi (by decide +kernel) (pa_cons (pv 2) (pa_cons (pe_glob (v := V.ref c5) (by rfl) h.g5 rfl) pa_nil))) (pa_cons (pe_callB call_isY (by rfl) T.isi (by decide +kernel) (pa_cons (pv 2) (pa_cons (pe_glob (v := V.ref c6) (by rfl) h.g6 rfl) pa_nil))) pa_nil))))))
      (pss_cons (ps_set (i := 4) scHe.nd rfl (.inl rfl) (pe_op op_cat (pv 4) (pe_lst (pa_cons (pe_callB call_isY (by rfl) T.isi (by decide +kernel) (pa_cons (pv 2) (pa_cons (pe_glob (v := V.ref c7) (by rfl) h.g7 rfl) pa_nil))) (pa_cons (pe_callB call_isY (by rfl) T.isi (by decide +kernel) (pa_cons (pv 2) (pa_cons (pe_glob (v := V.ref c8) (by rfl) h.g8 rfl) pa_nil))) (pa_cons (pe_callB call_isY (by rfl) T.isi (by decide +kernel) (pa_cons (pv 2) (pa_cons (pe_glob (v := V.ref c9) (by rfl) h.g9 rfl) pa_nil))) pa_nil))))))
      (pss_cons (ps_expr (pe_bm PySem.F.plainAttrs_list PySem.F.slot_list_append PySem.F.type_list_append mt_append (pv 4) (pa_cons (pe_callB call_isY (by rfl) T.isi (by decide +kernel) (pa_cons (pv 2) (pa_cons (pe_glob (v := V.ref c10) (by rfl) h.g10 rfl) pa_nil))) pa_nil)))
      (pss_cons (ps_set (i := 5) scHe.nd rfl (.inl rfl) (pe_lst (pa_cons pe_str (pa_cons pe_str (pa_cons pe_str (pa_cons pe_str (pa_cons pe_str (pa_cons pe_str (pa_cons pe_str (pa_cons pe_str (pa_cons pe_str (pa_cons pe_str pa_nil))))))))))))
      (pss_cons (ps_setLc (i := 6) (own := [("one", 7), ("is_so", 8)]) (g := gTup X.K 2 (gCons (gName 7) (gCons (gName 8) gNil))) (tt := _) rfl scHe.nd rfl rfl (sw_true rfl rfl rfl (by decide +kernel)) (pi_zip (by rfl) T.zip (pa_cons (pv 5) (pa_cons (pv 4) pa_nil))) (blkOk_by (N := ["call", "heard", "error", "e", "kinds_so", "words", "found", "one", "is_so"]) (sc := defScope sHe) (by decide +kernel)) (fun _ _ _ _ _ => pg_tupK (K := X.K) rfl (pgs_cons (pg_name (i := 7) scHe.nd rfl (.inl rfl)) (pgs_cons (pg_name (i := 8) scHe.nd rfl (.inl rfl)) pgs_nil))) (fun _ _ _ _ _ => pts_one (pt_val (pv 8))) (fun _ _ _ _ _ => pv 7))
      (pss_cons (ps_if (PW.pt (pw_or (pt_cmpR op_ne (pe_callB call_len_seq (by rfl) T.len PySem.boot_len (pa_cons (pv 6) pa_nil)) pe_int (nomark _)) (pw_or1 (pt_not (pt_val (pe_callB call_isY (by rfl) T.isi (by decide +kernel) (pa_cons (pv 2) (pa_cons (pe_bltn (v := V.ty "ValueError") (by rfl) h.ve (by decide +kernel) rfl) pa_nil)))))))) (pss_one (ps_ret pe_str)) pss_nil)
      (pss_cons (ps_if (pt_cmpR op_in_seq (pe_ix ix_list (pv 6) pe_int (fun _ _ => rfl)) (pe_tup (pa_cons pe_str (pa_cons pe_str pa_nil))) (by rfl)) (pss_one (ps_ret (pe_tup (pa_cons (pe_ix ix_list (pv 6) pe_int (fun _ _ => rfl)) (pa_cons (pe_ya (pv 2)) pa_nil))))) pss_nil)
      (pss_one (ps_ret (pe_tup (pa_cons (pe_ix ix_list (pv 6) pe_int (fun _ _ => rfl)) (pa_cons (pe_ifExp (pt_cmpR op_eq (pe_ix ix_list (pv 6) pe_int (fun _ _ => rfl)) pe_str (nomark _)) (pe_ya (pv 2)) (pe_ya (pv 2))) pa_nil))))))))))))))))), ?_⟩
  refine ⟨Nat.zero_le _, fun e0 n0 => ⟨_, _, rfl, ?_⟩⟩
  have s0 : Same H (upd H e0 (.lst [])) := same_upd n0
  refine ⟨fun cls d H' => cls = .ref c8 ∧ ∃ (dd : Addr) (v : V), d = some dd ∧ H' dd = some (exd dd [("value", v)]) ∧ ∀ H'' p, Same H' H'' → H'' p = some (.tup [.str "shape", v]) → Q (.ref p) H'', ?_, rfl, s0 _ _ hc, fun R => told _ s0 R⟩
  rintro cls d σ' H' ⟨rfl, dd, v, rfl, edd, k⟩ len
  obtain ⟨x0, x1, x2, x3, x4, x5, x6, x7, x8, rfl⟩ := nine σ' len
  refine ⟨true, h.any, fun _ a na => ?_, fun z => nomatch z⟩
  have sA : Same H' (upd H' a (exq a (.ref c8) (some dd))) := same_upd na
  have exA : ExIn (upd H' a (exq a (.ref c8) (some dd))) a c8 [("value", v)] := .inr ⟨dd, .inr upd_same, .inl (sA _ _ edd)⟩
  revert exA sA
  generalize upd H' a (exq a (.ref c8) (some dd)) = HA
  intro sA exA
  refine ⟨_, rfl, ?_⟩
  refine ⟨_, rfl, rfl, _, rfl, ifF (decide_eq_false (fun z => nomatch z)) ?_⟩
  refine ⟨_, rfl, B, nid, iid, tls, a, c8, _, .ref cT, .ref cT, false, rfl, h.x, exA.same ((Same.refl _)), .own cT, h.kT, ⟨_, rfl, ifF rfl ?_⟩⟩
  refine ⟨_, rfl, B, nid, iid, tls, a, c8, _, .ref c1, .ref c1, false, rfl, h.x, exA.same ((Same.refl _)), .own c1, h.k1, ⟨_, rfl, B, nid, iid, tls, a, c8, _, .ref c2, .ref c2, false, rfl, h.x, exA.same ((Same.refl _)), .own c2, h.k2, ⟨_, rfl, B, nid, iid, tls, a, c8, _, .ref c3, .ref c3, false, rfl, h.x, exA.same ((Same.refl _)), .own c3, h.k3, ⟨s3le, fun p1 n1 => ?_⟩⟩⟩⟩
  have s1 : Same HA (upd HA p1 (.lst [.bl false, .bl false, .bl false])) := same_upd n1
  refine ⟨_, rfl, _, rfl, B, nid, iid, tls, a, c8, _, .ref c4, .ref c4, false, rfl, h.x, exA.same (s1), .own c4, h.k4, ⟨_, rfl, B, nid, iid, tls, a, c8, _, .ref c5, .ref c5, false, rfl, h.x, exA.same (s1), .own c5, h.k5, ⟨_, rfl, B, nid, iid, tls, a, c8, _, .ref c6, .ref c6, false, rfl, h.x, exA.same (s1), .own c6, h.k6, ⟨s3le, fun p2 n2 => ?_⟩⟩⟩⟩
  have s2 : Same (upd HA p1 (.lst [.bl false, .bl false, .bl false])) (upd (upd HA p1 (.lst [.bl false, .bl false, .bl false])) p2 (.lst [.bl false, .bl false, .bl false])) := same_upd n2
  refine ⟨p1, p2, _, _, rfl, rfl, s2 _ _ upd_same, upd_same, by rw [sizeLine_eq]; show 6 ≤ _; decide, fun p3 n3 => ?_⟩
  have s3 := (s1.trans s2).trans (same_upd (o := .lst ([V.bl false, .bl false, .bl false] ++ [V.bl false, .bl false, .bl false])) n3)
  have e3 : (upd (upd (upd HA p1 (.lst [.bl false, .bl false, .bl false])) p2 (.lst [.bl false, .bl false, .bl false])) p3 (.lst ([V.bl false, .bl false, .bl false] ++ [V.bl false, .bl false, .bl false]))) p3 = some (.lst ([V.bl false, .bl false, .bl false] ++ [V.bl false, .bl false, .bl false])) := upd_same
  revert s3 e3
  generalize upd (upd (upd HA p1 (.lst [.bl false, .bl false, .bl false])) p2 (.lst [.bl false, .bl false, .bl false])) p3 (.lst ([V.bl false, .bl false, .bl false] ++ [V.bl false, .bl false, .bl false])) = HB
  intro s3 e3
  refine ⟨_, rfl, _, rfl, B, nid, iid, tls, a, c8, _, .ref c7, .ref c7, false, rfl, h.x, exA.same (s3), .own c7, h.k7, ⟨_, rfl, B, nid, iid, tls, a, c8, _, .ref c8, .ref c8, true, rfl, h.x, exA.same (s3), .own c8, h.k8, ⟨_, rfl, B, nid, iid, tls, a, c8, _, .ref c9, .ref c9, false, rfl, h.x, exA.same (s3), .own c9, h.k9, ⟨s3le, fun p4 n4 => ?_⟩⟩⟩⟩
  have s4 : Same HB (upd HB p4 (.lst [.bl false, .bl true, .bl false])) := same_upd n4
  refine ⟨p3, p4, _, _, rfl, rfl, s4 _ _ e3, upd_same, by rw [sizeLine_eq]; show 9 ≤ _; decide, fun p5 n5 => ?_⟩
  have s5 := (s3.trans s4).trans (same_upd (o := .lst (([V.bl false, .bl false, .bl false] ++ [V.bl false, .bl false, .bl false]) ++ [V.bl false, .bl true, .bl false])) n5)
  have s45 := s4.trans (same_upd (o := .lst (([V.bl false, .bl false, .bl false] ++ [V.bl false, .bl false, .bl false]) ++ [V.bl false, .bl true, .bl false])) n5)
  have nH5 : HB p5 = none := same_free s4 n5
  have e5 : (upd (upd HB p4 (.lst [.bl false, .bl true, .bl false])) p5 (.lst (([V.bl false, .bl false, .bl false] ++ [V.bl false, .bl false, .bl false]) ++ [V.bl false, .bl true, .bl false]))) p5 = some (.lst (([V.bl false, .bl false, .bl false] ++ [V.bl false, .bl false, .bl false]) ++ [V.bl false, .bl true, .bl false])) := upd_same
  revert s5 s45 e5
  generalize upd (upd HB p4 (.lst [.bl false, .bl true, .bl false])) p5 (.lst (([V.bl false, .bl false, .bl false] ++ [V.bl false, .bl false, .bl false]) ++ [V.bl false, .bl true, .bl false])) = HC
  intro s5 s45 e5
  refine ⟨_, rfl, .inl ⟨rfl, _, SqL.of e5⟩, _, rfl, B, nid, iid, tls, a, c8, _, .ref c10, .ref c10, false, rfl, h.x, exA.same (s5), .own c10, h.k10, ⟨p5, _, _, rfl, rfl, e5, by rw [sizeLine_eq]; show 9 < _; decide, ?_⟩⟩
  have nA5 : HA p5 = none := same_free s3 nH5
  have s6 : Same HA (upd HC p5 (.lst bks)) := fun b o eb => by
    rw [upd_ne (ne_of_none eb nA5)]
    exact s5 _ _ eb
  have e6 : (upd HC p5 (.lst bks)) p5 = some (.lst bks) := upd_same
  revert s6 e6
  show Same HA (upd HC p5 (.lst bks)) → (upd HC p5 (.lst bks)) p5 = some (.lst bks) → _
  intro s6 e6
  refine ⟨by rw [sizeLine_eq]; show 10 ≤ _; decide, fun p6 n6 => ?_⟩
  have s7 := s6.trans (same_upd (o := .lst wds) n6)
  have e7 := (same_upd (o := .lst wds) n6) _ _ e6
  have e8 : (upd (upd HC p5 (.lst bks)) p6 (.lst wds)) p6 = some (.lst wds) := upd_same
  refine ⟨_, rfl, _, rfl, p6, p5, _, _, rfl, SqL.of e8, SqL.of e7, fun D nD => ?_⟩
  refine lc_it (walk_zip (xs := wds) (ys := bks) (n := 10) rfl) (fun i H' => H' D = some (.lst (if i ≤ 7 then [] else [.str "shape"])) ∧ Same (upd (upd HC p5 (.lst bks)) p6 (.lst wds)) H') ⟨upd_same, same_upd nD⟩ (fun i H' _ ⟨_, sm⟩ => ⟨SqL.of (sm _ _ e8), SqL.of (sm _ _ e7)⟩) ?_ ?_
  · rintro i x H3 H4 hi ⟨eD, sm⟩ ⟨t, x1, x2, rfl, nt, rfl, e1, e2⟩
    dsimp only at e1 e2
    rw [bk_at i hi] at e2
    cases e2
    have st : Same H3 (upd H3 t (.tup [x1, V.bl (decide (i = 7))])) := same_upd nt
    refine ⟨t, _, rfl, SqT.of upd_same, rfl, _, _, rfl, _, _, rfl, rfl, rfl, ?_⟩
    refine ⟨_, rfl, _, rfl, ?_⟩
    refine ite2 (fun yes => ?_) (fun no => ?_)
    · have i7 := of_decide_eq_true yes
      subst i7
      cases e1
      refine ⟨_, rfl, _, st _ _ eD, by rw [if_pos (Nat.le_refl 7), sizeLine_eq]; decide, ?_, fun b o eb => ?_⟩
      · rw [upd_same, if_pos (Nat.le_refl 7), if_neg (by decide)]
        rfl
      · rw [upd_ne (ne_of_none eb nD)]
        exact st _ _ (sm _ _ eb)
    · have n7 : i ≠ 7 := fun z => no (decide_eq_true z)
      refine ⟨?_, sm.trans st⟩
      rw [st _ _ eD]
      by_cases z : i ≤ 7
      · rw [if_pos z, if_pos (by omega)]
      · rw [if_neg z, if_neg (by omega)]
  rintro HE ⟨eD, sm⟩
  rw [if_neg (by decide)] at eD
  have s8 := s7.trans sm
  refine ⟨_, rfl, D, _, rfl, .inl (SqL.of eD), rfl, _, rfl, ifF rfl ?_⟩
  refine ⟨_, rfl, B, nid, iid, tls, a, c8, _, .ty "ValueError", .type "ValueError", true, rfl, h.x, exA.same s8, .ty _, h.kV, _, rfl, ifF rfl ?_⟩
  refine ⟨_, rfl, D, _, _, _, rfl, rfl, SqL.of eD, rfl, s2le, fun t nt => ?_⟩
  have s9 : Same HE (upd HE t (.tup [.str "net", .str "choices"])) := same_upd nt
  refine ⟨t, _, rfl, .inr (SqT.of upd_same), rfl, rfl, _, rfl, ifF (by show inV (V.str "shape") ((["net", "choices"] : List Str).map V.str) = false; rw [inV_strs]; decide +kernel) ?_⟩
  have eD9 := s9 _ _ eD
  refine ⟨_, rfl, D, _, _, _, rfl, rfl, SqL.of eD9, rfl, ?_⟩
  refine ⟨_, rfl, D, _, _, _, rfl, rfl, SqL.of eD9, rfl, rfl, _, rfl, ifF (decide_eq_false (fun z => nomatch z)) ?_⟩
  refine ⟨_, rfl, B, nid, iid, tls, a, c8, _, v, rfl, h.x, h.fr, exA.same (s8.trans s9), rfl, s2le, fun p np => ?_⟩
  exact k _ p ((sA.trans (s8.trans s9)).trans (same_upd np)) upd_same

end
end Lr

namespace L2
open PySem PySem.Spec PyProof.Rows

/-- the law's call at the heap behind the top: no repr runs there -/
theorem law_callG {P : Program} {w : World} {K : PySem.W.Frag} {mg mb : Str → Option Value} {CX : CXT} {k : Nat} {fa a : Addr} {fd : FuncData} {x : Str} {sp : Sp} {s : Shared} {vs : List Value} {ns : List Int}
    (kin : K.In s.heap) (glob : s.heap.Ns mainGlobals mg) (blt : s.heap.Ns builtinsNs mb) (boot : ∀ x : Str, x ≠ "__name__" → mb x = bootBuiltins x) (nolim : s.heap.NoLimit) (nogen : s.gens = #[])
    (at_a : s.heap.get? a = some { cls := .type "list", data := .seq vs.toArray }) (inums : IntsAre vs ns) (few : ns.length ≤ sizeLine) (hr : Room k callerA)
    (G : ∀ base : Heap, K.In base → base.Ns mainGlobals mg → FnG P w K mg base CX k fa fd [x] sp) (bind : ∀ (s : Shared) (u : Value), BindsTo s fd ⟨[u], []⟩ [(x, u)])
    (want : ∀ H : Hp, Only H → SqL K H a (ns.map V.int) → sp [.ref a] H (fun v _ => v = .bl true) fun _ _ _ => False) (calm : ∀ H e s', CX [] H s (fun _ _ _ => False) e s' → False) :
    codeAny (model P w) callerA (.call (.ref fa) ⟨[.ref a], []⟩) (fun r s' => r = .ok (.ret (.bool true)) ∧ OldK s.heap s'.heap ∧ s'.os = s.os ∧ AllBare s'.gens) s := by
  have rel := vals_ints inums
  have same_len := inums.length
  -- H tells of the script alone, if of anything
  have main : ∀ H : Hp, Only H → SqL K H a (ns.map V.int) → HOk P w H s.heap → (∀ b, H b ≠ none → b = a) → (H a ≠ none → K.lookup a = none) →
      codeAny (model P w) callerA (.call (.ref fa) ⟨[.ref a], []⟩) (fun r s' => r = .ok (.ret (.bool true)) ∧ OldK s.heap s'.heap ∧ s'.os = s.os ∧ AllBare s'.gens) s := by
    intro H only seq hok just_a not_K
    have hid : ∀ {b : Addr} {o : Obj}, s.heap.get? b = some o → H b = none → (hidT s.heap H).get? b = some o := fun z n => hidT_get z n
    have is_a : ∀ {b : Addr} {u : HO}, H b = some u → b = a := fun {b u} z => just_a b (by
      rw [z]
      simp)
    have dict_free : ∀ {b : Addr} {o : Obj} {es : Array DictEntry} {ep : Nat}, s.heap.get? b = some o → o.data = .dict es ep → H b = none := fun {b o es ep} z dz => by
      cases q : H b with
      | none => rfl
      | some u =>
        have e := is_a q
        subst e
        rw [at_a] at z
        cases z
        exact absurd (show Data.seq vs.toArray _ = Data.dict es ep from dz) (fun e => by cases e)
    have ns_hid : ∀ {b : Addr} {m : Str → Option Value}, s.heap.Ns b m → (hidT s.heap H).Ns b m := fun {b m} n => by
      obtain ⟨o, es, ep, z, dz, r⟩ := n
      exact ⟨o, es, ep, hid z (dict_free z dz), dz, r⟩
    have kin_hid : K.In (hidT s.heap H) := fun b o z => hid (kin b o z) (by
      cases q : H b with
      | none => rfl
      | some u =>
        have e := is_a q
        subst e
        rw [not_K (by rw [q]; simp)] at z
        cases z)
    have mod : Mod K mg (hidT s.heap H) := by
      obtain ⟨mc, l1, l2⟩ := nolim
      exact ⟨kin_hid, ns_hid glob, ⟨mb, ns_hid blt, boot⟩, ⟨mc, ns_hid l1, l2⟩⟩
    have env0 : Env0 P w K mg (hidT s.heap H) callerA [] s H := ⟨rfl, mod, fun b o z => of_hidT z, Nat.le_of_eq (hidT_size _ _), trivial, (fun b hb => absurd hb (by simp [frs])), hok, .of_eq nogen⟩
    have run := (G _ kin_hid (ns_hid glob)).go callerA [] s H ⟨[.ref a], []⟩ [.ref a] [.ref a] _ _ rfl hr env0 (bind s (.ref a)) (.cons rfl .nil) (want H only seq)
    refine codeAny_mono run fun r s' back => ?_
    match r, back with
    | .error er, back => exact (calm H er s' back).elim
    | .ok .next, back => exact False.elim back
    | .ok .brk, back => exact False.elim back
    | .ok .cont, back => exact False.elim back
    | .ok (.ret u), ⟨v, H', os, bare, un, hok', ru, q⟩ =>
      have vt : v = .bl true := q
      subst vt
      obtain rfl : u = Value.bool true := ru
      refine ⟨rfl, OldK.of_keep fun b o z => ?_, os, bare⟩
      cases q : H b with
      | none => exact un.keep b o z q (fun z => nomatch z) (by simp)
      | some u =>
        rcases only b with n | ⟨ob, xs, e⟩
        · rw [q] at n
          cases n
        · have e' := un.frzs b ob _ e
          obtain ⟨z1, _⟩ := hok b _ e
          obtain ⟨z2, _⟩ := hok' b _ e'
          rw [z] at z1
          cases z1
          exact z2
  have its_len : (ns.map V.int).length ≤ sizeLine := by
    rw [List.length_map]
    exact few
  cases in_K : K.lookup a with
  | some o =>
    have z := kin a o in_K
    rw [at_a] at z
    cases z
    refine main (fun _ => none) (fun _ => .inl rfl) (.inr ⟨_, vs.toArray, _, in_K, rfl, rfl, rfl, ?_, by simpa using rel⟩) (fun b u z => nomatch (show (none : Option HO) = some u from z)) (fun b z => absurd rfl z) fun z => absurd rfl z
    rw [List.size_toArray, same_len]
    exact few
  | none =>
    refine main (fun b => if b = a then some (.frz { cls := .type "list", data := .seq vs.toArray } (.lst (ns.map V.int))) else none) (fun b => ?_) (.inl (.inr ⟨_, if_pos rfl⟩)) (fun b u z => ?_) (fun b z => ?_) fun _ => in_K
    · by_cases e : b = a
      · exact .inr ⟨_, _, if_pos e⟩
      · exact .inl (if_neg e)
    · by_cases e : b = a
      · have z2 := (if_pos e).symm.trans z
        cases z2
        subst e
        exact ⟨at_a, its_len, vs, _, rel, at_a⟩
      · exact nomatch (if_neg e).symm.trans z
    · by_cases e : b = a
      · exact e
      · exact absurd (if_neg e) z

/-- what the head leaves (case hc), from such a promise of the law -/
theorem walk_ofG {l : PySem.W.OpenLaw} {n k : Nat} {q : Program} {loose : List Str} {XP : (Str → Option Value) → Heap → Prop} {YP : World → Heap → Prop} {d : DefRec} {K : Params → PySem.W.Frag} {sp : PySem.W.Frag → Sp} {x : Str}
    (most : l.most = some n) (low : n ≤ sizeLine) (plain : d.params.defaults = []) (hr : Room k callerA) (hY : ∀ (w : World) (h : Heap), YP w h → (K w.params).In h)
    (F : ∀ (w : World) (mg : Str → Option Value) (fa : Addr) (h : Heap), (K w.params).In h → h.Ns mainGlobals mg → mg d.name = some (.ref fa) →
      ∃ fd : FuncData, (∀ (s : Shared) (u : Value), BindsTo s fd ⟨[u], []⟩ [(x, u)]) ∧ ∀ base : Heap, (K w.params).In base → base.Ns mainGlobals mg → FnG l.prog w (K w.params) mg base CX0 k fa fd [x] (sp (K w.params)))
    (want : ∀ (K : PySem.W.Frag) (H : Hp) (a : Addr) (ns : List Int), ns.length ≤ n → Only H → SqL K H a (ns.map V.int) → sp K [.ref a] H (fun v _ => v = .bl true) fun _ _ _ => False) :
    PySem.W.WalkO q loose XP YP l.row.toRowW d [] (fun f vs => PySem.call f vs) := by
  refine Att.attach_call most plain fun w s₀ s₁ mg mb fa o pm cd doc a vs ns G Y ho hd hcd hmg at_a inums few nogen => ?_
  have kin := hY w _ Y
  obtain ⟨fd, bind, hF⟩ := F w mg fa _ kin G.T.g hmg
  exact law_callG kin G.T.g G.T.b G.T.builtins G.T.nolimit nogen at_a inums (Nat.le_trans few low) hr hF bind (fun H only seq => want _ H a ns few only seq) fun H e s' z => z
end L2

namespace Lr
open PySem PySem.Spec PyProof.Rows L2 LamX

/-- the law's call at the heap behind the top, where no repr runs, with the table P of its own code object c (it makes lambdas) -/
theorem law_callGT {P : Program} {w : World} {K : PySem.W.Frag} {mg mb : Str → Option Value} {k : Nat} {fa a c T : Addr} {fd : FuncData} {x : Str} {sp : Sp} {s : Shared} {vs : List Value} {ns : List Int}
    (kin : K.In s.heap) (glob : s.heap.Ns mainGlobals mg) (blt : s.heap.Ns builtinsNs mb) (boot : ∀ x : Str, x ≠ "__name__" → mb x = bootBuiltins x) (nolim : s.heap.NoLimit) (nogen : s.gens = #[])
    (at_T : s.heap.get? T = some { cls := .none, data := .fields #[] }) (noK : K.lookup T = none) (hd : PySem.W.CodeHd s.heap c T)
    (bm : ∃ (bm : Addr) (ob : Obj), mg "__builtins__" = some (.ref bm) ∧ bm ≠ builtinsNs ∧ s.heap.get? bm = some ob ∧ ob.cls = .type "module" ∧ ob.dict = some builtinsNs ∧ ob.data = .plain)
    (at_a : s.heap.get? a = some { cls := .type "list", data := .seq vs.toArray }) (inums : IntsAre vs ns) (few : ns.length ≤ sizeLine) (hr : Room k callerA)
    (G : ∀ base : Heap, K.In base → base.Ns mainGlobals mg → TabB base mg c T → FnG P w K mg base CX0 k fa fd [x] sp) (bind : ∀ (s : Shared) (u : Value), BindsTo s fd ⟨[u], []⟩ [(x, u)])
    (want : ∀ H : Hp, H T = some (.tbl #[]) → SqL K H a (ns.map V.int) → sp [.ref a] H (fun v _ => v = .bl true) fun _ _ _ => False) :
    codeAny (model P w) callerA (.call (.ref fa) ⟨[.ref a], []⟩) (fun r s' => r = .ok (.ret (.bool true)) ∧ OldK s.heap s'.heap ∧ s'.os = s.os ∧ AllBare s'.gens) s := by
  have rel := vals_ints inums
  have same_len := inums.length
  have aT : a ≠ T := fun e => by
    rw [e, at_T] at at_a
    cases at_a
  have main : ∀ H : Hp, H T = some (.tbl #[]) → (∀ b, H b = none ∨ b = T ∨ ∃ o xs, H b = some (.frz o (.lst xs))) → SqL K H a (ns.map V.int) → HOk P w H s.heap → (∀ b, H b ≠ none → b = a ∨ b = T) → (H a ≠ none → K.lookup a = none) →
      codeAny (model P w) callerA (.call (.ref fa) ⟨[.ref a], []⟩) (fun r s' => r = .ok (.ret (.bool true)) ∧ OldK s.heap s'.heap ∧ s'.os = s.os ∧ AllBare s'.gens) s := by
    intro H HT only seq hok two not_K
    have plain : ∀ {b : Addr} {o : Obj}, s.heap.get? b = some o → (∀ us n, o.data ≠ .seq us n) → o.data ≠ .fields #[] → H b = none := fun {b o} z n1 n2 => by
      cases q : H b with
      | none => rfl
      | some u =>
        rcases two b (by rw [q]; intro e; cases e) with e | e
        · rw [e, at_a] at z
          cases z
          exact absurd rfl (n1 _ _)
        · rw [e, at_T] at z
          cases z
          exact absurd rfl n2
    have dicts : ∀ {b : Addr} {o : Obj} {es : Array DictEntry} {ep : Nat}, s.heap.get? b = some o → o.data = .dict es ep → H b = none := fun {b o es ep} z dz => plain z (fun us n e => nomatch dz.symm.trans e) (fun e => nomatch dz.symm.trans e)
    have hid : ∀ {b : Addr} {o : Obj}, s.heap.get? b = some o → H b = none → (hidT s.heap H).get? b = some o := fun z n => hidT_get z n
    have ns_hid : ∀ {b : Addr} {m : Str → Option Value}, s.heap.Ns b m → (hidT s.heap H).Ns b m := fun {b m} n => by
      obtain ⟨o, es, ep, z, dz, r⟩ := n
      exact ⟨o, es, ep, hid z (dicts z dz), dz, r⟩
    have kin_hid : K.In (hidT s.heap H) := fun b o z => hid (kin b o z) (by
      cases q : H b with
      | none => rfl
      | some u =>
        rcases two b (by rw [q]; intro e; cases e) with e | e
        · rw [e] at z q
          rw [not_K (by rw [q]; intro e; cases e)] at z
          cases z
        · rw [e, noK] at z
          cases z)
    have mod : Mod K mg (hidT s.heap H) := by
      obtain ⟨mc, l1, l2⟩ := nolim
      exact ⟨kin_hid, ns_hid glob, ⟨mb, ns_hid blt, boot⟩, ⟨mc, ns_hid l1, l2⟩⟩
    have TB : TabB (hidT s.heap H) mg c T := by
      refine ⟨?_, ?_, fun z => ?_⟩
      · obtain ⟨o, us, file, tf, flags, tg, inF, text, tt, e1, r1, r2, r3, r⟩ := hd
        refine ⟨o, us, file, tf, flags, tg, inF, text, tt, hid e1 (plain e1 (fun us' n e => nomatch r2.symm.trans e) fun e => ?_), r1, r2, r3, r⟩
        have z := r2.symm.trans e
        cases z
        simp at r3
      · obtain ⟨bm, ob, b1, b2, b3, b4, b5, b6⟩ := bm
        refine ⟨bm, ob, b1, b2, fun q => ?_, fun q => ?_, hid b3 (plain b3 (fun us n e => nomatch b6.symm.trans e) fun e => nomatch b6.symm.trans e), b4, b5, b6⟩
        · obtain ⟨o, es, ep, e, dz, _⟩ := glob
          rw [q, e] at b3
          cases b3
          rw [dz] at b6
          cases b6
        · rw [q, at_T] at b3
          cases b3
          cases b6
      · obtain ⟨o, es, ep, e, dz, _⟩ := glob
        rw [z, at_T] at e
        cases e
        cases dz
    have env0 : Env0 P w K mg (hidT s.heap H) callerA [] s H := ⟨rfl, mod, fun b o z => of_hidT z, Nat.le_of_eq (hidT_size _ _), trivial, (fun b hb => absurd hb (by simp [frs])), hok, .of_eq nogen⟩
    have run := (G _ kin_hid (ns_hid glob) TB).go callerA [] s H ⟨[.ref a], []⟩ [.ref a] [.ref a] _ _ rfl hr env0 (bind s (.ref a)) (.cons rfl .nil) (want H HT seq)
    refine codeAny_mono run fun r s' back => ?_
    match r, back with
    | .error er, back => exact False.elim back
    | .ok .next, back => exact False.elim back
    | .ok .brk, back => exact False.elim back
    | .ok .cont, back => exact False.elim back
    | .ok (.ret u), ⟨v, H', os, bare, un, hok', ru, q⟩ =>
      have vt : v = .bl true := q
      subst vt
      obtain rfl : u = Value.bool true := ru
      have keep : ∀ b o, b ≠ T → s.heap.get? b = some o → s'.heap.get? b = some o := fun b o nT z => by
        cases q : H b with
        | none => exact un.keep b o z q (fun z => nomatch z) (by simp)
        | some u =>
          rcases only b with n | n | ⟨ob, xs, e⟩
          · rw [q] at n
            cases n
          · exact absurd n nT
          · have e' := un.frzs b ob _ e
            obtain ⟨z1, _⟩ := hok b _ e
            obtain ⟨z2, _⟩ := hok' b _ e'
            rw [z] at z1
            cases z1
            exact z2
      obtain ⟨more, gT⟩ : ∃ more : Array Value, s'.heap.get? T = some { cls := .none, data := .fields more } := by
        obtain ⟨more, z⟩ := un.tbls T #[] HT
        exact ⟨_, hok' T _ z⟩
      refine ⟨rfl, ⟨fun b o z => ?_, fun b o z => ?_⟩, os, bare⟩
      · by_cases e : b = T
        · subst e
          rw [at_T] at z
          cases z
          exact .inr (.inl ⟨(hd.tab at_T).isCodeTable, rfl, #[], more, rfl, by rw [Array.empty_append]; exact gT⟩)
        · exact .inl (keep b o e z)
      · by_cases e : b = T
        · subst e
          exact ⟨_, gT⟩
        · exact ⟨o, keep b o e z⟩
  have its_len : (ns.map V.int).length ≤ sizeLine := by
    rw [List.length_map]
    exact few
  cases in_K : K.lookup a with
  | some o =>
    have z := kin a o in_K
    rw [at_a] at z
    cases z
    refine main (fun b => if b = T then some (.tbl #[]) else none) (if_pos rfl) (fun b => ?_) (.inr ⟨_, vs.toArray, _, in_K, rfl, rfl, rfl, ?_, by simpa using rel⟩) (fun b u z => ?_) (fun b z => ?_) fun z => absurd (if_neg aT) z
    · by_cases e : b = T
      · exact .inr (.inl e)
      · exact .inl (if_neg e)
    · rw [List.size_toArray, same_len]
      exact few
    · by_cases e : b = T
      · have z2 := (if_pos e).symm.trans z
        cases z2
        subst e
        exact at_T
      · exact nomatch (if_neg e).symm.trans z
    · by_cases e : b = T
      · exact .inr e
      · exact absurd (if_neg e) z
  | none =>
    refine main (fun b => if b = a then some (.frz { cls := .type "list", data := .seq vs.toArray } (.lst (ns.map V.int))) else if b = T then some (.tbl #[]) else none) ((if_neg (Ne.symm aT)).trans (if_pos rfl)) (fun b => ?_) (.inl (.inr ⟨_, if_pos rfl⟩)) (fun b u z => ?_) (fun b z => ?_) fun _ => in_K
    · by_cases e : b = a
      · exact .inr (.inr ⟨_, _, if_pos e⟩)
      · by_cases e2 : b = T
        · exact .inr (.inl e2)
        · exact .inl ((if_neg e).trans (if_neg e2))
    · by_cases e : b = a
      · have z2 := (if_pos e).symm.trans z
        cases z2
        subst e
        exact ⟨at_a, its_len, vs, _, rel, at_a⟩
      · have z1 := (if_neg e).symm.trans z
        by_cases e2 : b = T
        · have z2 := (if_pos e2).symm.trans z1
          cases z2
          subst e2
          exact at_T
        · exact nomatch (if_neg e2).symm.trans z1
    · by_cases e : b = a
      · exact .inl e
      · by_cases e2 : b = T
        · exact .inr e2
        · exact absurd ((if_neg e).trans (if_neg e2)) z

/-- what the head leaves (case hc), from such a promise of the law -/
theorem walk_ofGT {l : PySem.W.OpenLaw} {n k : Nat} {q : Program} {loose : List Str} {XP : (Str → Option Value) → Heap → Prop} {YP : World → Heap → Prop} {d : DefRec} {K : Params → PySem.W.Frag} {sp : PySem.W.Frag → Addr → Sp} {x : Str}
    (most : l.most = some n) (low : n ≤ sizeLine) (plain : d.params.defaults = []) (hr : Room k callerA) (hY : ∀ (w : World) (h : Heap), YP w h → (K w.params).In h) (rec : ∃ dd, (recsOf q).find? (fun e => e.name == d.name) = some dd)
    (F : ∀ (w : World) (mg : Str → Option Value) (fa : Addr) (h : Heap), (K w.params).In h → h.Ns mainGlobals mg → mg d.name = some (.ref fa) →
      ∃ (fd : FuncData) (c T : Addr), PySem.W.tabIn (K w.params) d.name = some (c, T) ∧ (K w.params).lookup T = none ∧ (∀ (s : Shared) (u : Value), BindsTo s fd ⟨[u], []⟩ [(x, u)]) ∧
        ∀ base : Heap, (K w.params).In base → base.Ns mainGlobals mg → TabB base mg c T → FnG l.prog w (K w.params) mg base CX0 k fa fd [x] (sp (K w.params) T))
    (want : ∀ (K : PySem.W.Frag) (H : Hp) (a T : Addr) (ns : List Int), ns.length ≤ n → H T = some (.tbl #[]) → SqL K H a (ns.map V.int) → sp K T [.ref a] H (fun v _ => v = .bl true) fun _ _ _ => False) :
    PySem.W.WalkO q loose XP YP l.row.toRowW d [] (fun f vs => PySem.call f vs) := by
  refine Att.attach_call most plain fun w s₀ s₁ mg mb fa o pm cd doc a vs ns G Y ho hd hcd hmg at_a inums few nogen => ?_
  have kin := hY w _ Y
  obtain ⟨fd, c, T, tab, noK, bind, hF⟩ := F w mg fa _ kin G.T.g hmg
  obtain ⟨dd, rec⟩ := rec
  obtain ⟨head, at_T⟩ := PySem.W.tab_of G.T kin rec tab
  exact law_callGT kin G.T.g G.T.b G.T.builtins G.T.nolimit nogen at_T noK head G.T.bmain at_a inums (Nat.le_trans few low) hr hF bind fun H HT seq => want _ H a T ns few HT seq
end Lr

namespace Lr
open PySem PySem.Spec PyProof.Rows L2 LamX

/-top-/
def qLam : Str := "law" ++ ".<locals>." ++ "<lambda>"
section
variable {P : Program} {w : World} {K : PySem.W.Frag} {mg : Str → Option Value} {base : Heap}
/-- a def whose code object is known -/
theorem Fun.okGC {x qual : Str} {st : Stmt} {f c : Addr} {fd : FuncData} {N ps : List Str} {k : Nat} {sp : Sp} (F : Fun K x qual st f fd) (hc : fd.code = .ref c) (S : FnScope N ps (defScope st)) (len : ∀ vs H Q E, sp vs H Q E → vs.length = ps.length)
    (walk : ∀ (A : Around) (outer : List Env) (s : Shared) (H : Hp) (vs : List V) (Q : VK) (E : XK), A.guards = some [] → Room k (A.deeper (envOfC qual (defScope st) s.heap.objs.size f (.ref c))) → sp vs H Q E →
      ∃ t, PSs (cxOf CX0 P w K mg base N qual (defScope st) f (.ref c) A outer s H E).nox (defBody st) t ∧ t { nx := fun _ H' => Q .non H', rt := Q } (start N vs) H) : FnG P w K mg base CX0 (k + 1) f fd ps sp := by
  obtain ⟨oc, od, kV, doc, pm, an, cdv, ct, osl, rfl, at_f, code⟩ := F.ex
  have e : cdv = .ref c := hc
  subst e
  refine fnG_of at_f code S len fun A outer s H vs Q E gd hr want => ?_
  obtain ⟨t, h, q⟩ := walk A outer s H vs Q E gd hr want
  exact ⟨t, h.nox, q⟩
end
theorem lam_passes {X : Cx} {A : Around} {outer : List Env} {s : Shared} {H : Hp} {E : XK} {scope : Scope} {f c' : Addr} : Passes (L2.CX X.prog X.w) (lamCx X A outer s H E scope f c') E :=
  passes_call (X := lamCx X A outer s H E scope f c') (W := fun cls d _ H => E cls d H) (takes_of rfl rfl rfl rfl) (fun _ _ _ _ h => h)
/-- all but the state's dict, its great numbers and the tables of code objects stays -/
def Kx (H H' : Hp) (m g : Addr) : Prop := ∀ b o, H b = some o → b ≠ m → b ≠ g → (∀ ps, o ≠ .tbl ps) → H' b = some o
theorem Kx.trans {H H1 H2 : Hp} {m g : Addr} (a : Kx H H1 m g) (b : Kx H1 H2 m g) : Kx H H2 m g := fun c o e n1 n2 n3 => b c o (a c o e n1 n2 n3) n1 n2 n3
theorem Kx.of {H H' : Hp} {m g : Addr} (s : Same H H') : Kx H H' m g := fun b o e _ _ _ => s b o e
theorem Kx.kp {H H' : Hp} {m g : Addr} (s : Kp H H' m g) : Kx H H' m g := fun b o e h1 h2 _ => s b o e h1 h2
theorem Kx.ext {H H' : Hp} {m g : Addr} (s : ExtN H H') : Kx H H' m g := fun b o e _ _ h => s b o e h
theorem Kx.tk {H H' : Hp} {m c g : Addr} {n : Nat} (k : Kx H H' m g) (M : Ms H m c g n) : Tk H H' := by
  obtain ⟨gs, _, e2⟩ := M.hg
  refine fun b xs => ⟨fun e => k b _ e (fun z => ?_) (fun z => ?_) (fun _ z => nomatch z), fun o e => k b _ e (fun z => ?_) (fun z => ?_) (fun _ z => nomatch z)⟩
  · rw [z, M.hd] at e
    cases e
  · rw [z] at e
    exact nomatch e2.symm.trans e
  · rw [z, M.hd] at e
    cases e
  · rw [z] at e
    exact nomatch e2.symm.trans e
theorem Ms.ext {H H' : Hp} {m c g : Addr} {n : Nat} (M : Ms H m c g n) (s : ExtN H H') : Ms H' m c g n := by
  obtain ⟨cs, l1, h1⟩ := M.hc
  obtain ⟨gs, l2, h2⟩ := M.hg
  exact ⟨s _ _ M.hd (fun _ z => nomatch z), ⟨cs, l1, s _ _ h1 (fun _ z => nomatch z)⟩, ⟨gs, l2, s _ _ h2 (fun _ z => nomatch z)⟩, M.cg⟩
theorem tabs_kp {H H' : Hp} {T : List (Addr × Str)} {m c g : Addr} {n : Nat} (t : Tabs T H) (M : Ms H m c g n) (k : Kp H H' m g) : Tabs T H' := fun p hp => by
  obtain ⟨ps, e, o, h⟩ := t p hp
  obtain ⟨gs, _, e2⟩ := M.hg
  have ne : ∀ {b : Addr} {u : HO}, H b = some u → (∀ kv, u ≠ .dK kv) → (∀ xs, u ≠ .lst xs) → b ≠ m ∧ b ≠ g := fun {b u} eb h1 h2 => ⟨fun z => by
    rw [z, M.hd] at eb
    cases eb
    exact h1 _ rfl, fun z => by
    have e3 : H g = some (.lst (gs.map V.int)) := e2
    rw [z, e3] at eb
    cases eb
    exact h2 _ rfl⟩
  obtain ⟨n1, n2⟩ := ne e (fun _ z => nomatch z) (fun _ z => nomatch z)
  refine ⟨ps, k _ _ e n1 n2, o, fun pos cv hc => ?_⟩
  obtain ⟨c0, e0, ec⟩ := h pos cv hc
  obtain ⟨n3, n4⟩ := ne ec (fun _ z => by unfold CodeO at z; cases z) (fun _ z => by unfold CodeO at z; cases z)
  exact ⟨c0, e0, k _ _ ec n3 n4⟩
theorem fine_bl : ∀ b : Bool, fine (.bool b) = true := by decide +kernel
def M8 : List Str := ["any", "all", "a", "ab", "b", "abc", "bb"]
theorem l5_m8 {x : Str} (h : x ∈ L5) : x ∈ M8 := by
  have z : (L5.all fun x => decide (x ∈ M8)) = true := by decide +kernel
  exact of_decide_eq_true (List.all_eq_true.mp z x h)
theorem all_up (h : ("All" : Str) ∈ L5) : False := by
  have z : decide (("All" : Str) ∈ L5) = false := by decide +kernel
  rw [decide_eq_true h] at z
  cases z
theorem shown8 {x : Str} (h : x ∈ M8) : (reprText x).length ≤ 7 := by
  have z : (M8.all fun x => decide ((reprText x).length ≤ 7)) = true := by decide +kernel
  exact of_decide_eq_true (List.all_eq_true.mp z x h)
theorem textFrom_up : ∀ (ts : List Str) (k : Nat) (acc : Str), (∀ t ∈ ts, t.length ≤ 7) → (textFrom k acc ts).length ≤ acc.length + 9 * ts.length
  | [], k, acc, _ => Nat.le_refl _
  | t :: r, k, acc, h => by
    have ih := textFrom_up r (k + 1) (acc ++ (if k > 0 then ", " else "" : String) ++ t) fun u hu => h u (List.mem_cons_of_mem _ hu)
    have e : (acc ++ (if k > 0 then ", " else "" : String) ++ t).length ≤ acc.length + 2 + t.length := by
      rw [strLen_append, strLen_append]
      split
      · exact Nat.le_refl _
      · show acc.length + 0 + t.length ≤ _
        omega
    have h7 := h t List.mem_cons_self
    show (textFrom (k + 1) _ r).length ≤ _
    rw [List.length_cons]
    omega
theorem shown_words : ∀ {ws : List Str}, (∀ x ∈ ws, x ∈ M8) → (∀ t ∈ PyData.shownAll (ws.map .str), t.length ≤ 7) ∧ (PyData.shownAll (ws.map .str)).length = ws.length ∧ PyData.showableAll (ws.map .str) = true
  | [], _ => ⟨fun t ht => (nomatch ht), rfl, rfl⟩
  | x :: ws, h => by
    obtain ⟨h1, h2, h3⟩ := shown_words (ws := ws) fun y hy => h y (List.mem_cons_of_mem _ hy)
    refine ⟨fun t ht => ?_, ?_, ?_⟩
    · have ht2 : t ∈ reprText x :: PyData.shownAll (ws.map .str) := ht
      rcases List.mem_cons.mp ht2 with rfl | ht2
      · exact shown8 (h x List.mem_cons_self)
      · exact h1 t ht2
    · show (PyData.shownAll (ws.map .str)).length + 1 = ws.length + 1
      rw [h2]
    · show (true && PyData.showableAll (ws.map .str)) = true
      rw [h3]
      rfl
theorem fine_words {ws : List Str} (h : ∀ x ∈ ws, x ∈ M8) (l : ws.length ≤ 6) : fine (.tuple [.str "shape", .list (ws.map .str)]) = true := by
  obtain ⟨h1, h2, h3⟩ := shown_words h
  unfold fine
  rw [Bool.and_eq_true, Bool.and_eq_true, decide_eq_true_eq, decide_eq_true_eq]
  refine ⟨⟨?_, ?_⟩, ?_⟩
  · show (true && (PyData.showableAll (ws.map .str) && true)) = true
    rw [h3]
    rfl
  · have a1 := textFrom_up (PyData.shownAll (ws.map .str)) 0 "[" h1
    have a2 : (listText (PyData.shownAll (ws.map .str))).length ≤ 60 := by
      unfold listText
      rw [strLen_append]
      have b1 : ("[" : Str).length = 1 := rfl
      have b2 : ("]" : Str).length = 1 := rfl
      rw [b1] at a1
      rw [b2]
      omega
    show (tupleText [reprText "shape", listText (PyData.shownAll (ws.map .str))]).length ≤ 1000
    have a3 := join_length_add [reprText "shape", listText (PyData.shownAll (ws.map .str))] (fun z => nomatch z)
    have a4 : piled [reprText "shape", listText (PyData.shownAll (ws.map .str))] = (reprText "shape").length + 2 + ((listText (PyData.shownAll (ws.map .str))).length + 2) := by simp [piled]
    have a5 : (reprText ("shape" : Str)).length ≤ 9 := by decide +kernel
    unfold tupleText
    rw [strLen_append, strLen_append]
    have b3 : ("(" : Str).length = 1 := rfl
    have b4 : (if ([reprText ("shape" : Str), listText (PyData.shownAll (ws.map .str))].length == 1) = true then (",)" : Str) else (")" : Str)).length = 1 := rfl
    rw [b3]
    have b5 : ∀ b : Bool, ((if b = true then ",)" else ")" : String) : Str).length ≤ 2 := by decide
    have b6 := b5 ([reprText ("shape" : Str), listText (PyData.shownAll (ws.map .str))].length == 1)
    omega
  · show max 0 (max (PyData.depthAll (ws.map .str) + 1) 0) + 1 ≤ 30
    rw [depth_strs]
    decide
theorem most_at {ls : List Str} (h1 : 1 ≤ ls.length) (h2 : ls.length ≤ 3) : ∃ most : Nat, most ≤ 6 ∧ atI [V.int 0, V.int 6, V.int 5, V.int 4] (((ls.map V.str).length : Nat) : Int) = some (V.int (most : Nat)) := by
  rw [List.length_map]
  have c : ls.length = 1 ∨ ls.length = 2 ∨ ls.length = 3 := by omega
  rcases c with c | c | c <;> rw [c]
  · exact ⟨6, by decide, rfl⟩
  · exact ⟨5, by decide, rfl⟩
  · exact ⟨4, by decide, rfl⟩
theorem slice1_read {K : PySem.W.Frag} {H : Hp} {l : Addr} {ls rest : List Str} {y : Str} {Q : V → Hp → Prop} (e : ls = y :: rest) (el : LbAt K H l ls) (k : ∀ (q : Addr) (H' : Hp), Same H H' → SqT K H' q [V.str y] → Q (.ref q) H') :
    rSlA K (.ref l) none (some 1) H Q := by
  subst e
  have c : cutV ((y :: rest).map V.str) none (some 1) = [V.str y] := by
    unfold cutV
    have z : HT.sIx ((y :: rest).map V.str).length ((y :: rest).map V.str).length (some 1) = 1 := by
      rw [List.length_map, List.length_cons]
      unfold HT.sIx
      simp
    have z0 : HT.sIx ((y :: rest).map V.str).length 0 none = 0 := rfl
    rw [z, z0]
    rfl
  refine ⟨l, _, rfl, el, fun h => ?_, fun _ p np => ?_⟩
  · refine k l H (Same.refl H) ?_
    have z : HT.sIx ((y :: rest).map V.str).length ((y :: rest).map V.str).length (some 1) = 1 := by
      rw [List.length_map, List.length_cons]
      unfold HT.sIx
      simp
    have l1 := h.2
    rw [z, List.length_map, List.length_cons] at l1
    have r0 : rest = [] := List.length_eq_zero_iff.mp (by omega)
    subst r0
    exact el
  · rw [c]
    exact k p _ (same_upd np) (SqT.of upd_same)
theorem da_strs {K : PySem.W.Frag} {H : Hp} {b : Bool} : ∀ ws : List Str, DaAll K H b (ws.map V.str) (ws.map PyData.str)
  | [] => .nil
  | x :: ws => .cons (.str x) (da_strs ws)
theorem at_list {xs : List V} {z : Int} (h0 : 0 ≤ z) (h1 : z < (xs.length : Nat)) : ∃ x, x ∈ xs ∧ atI xs z = some x := by
  have zl : z.toNat < xs.length := by omega
  have q : atI xs ((z.toNat : Nat) : Int) = some xs[z.toNat] := atI_nat (List.getElem?_eq_getElem zl)
  rw [show ((z.toNat : Nat) : Int) = z from by omega] at q
  exact ⟨_, List.getElem_mem zl, q⟩
theorem okHand : NtOk ⟨[(0, 0)], ["a", "bb"], []⟩ := ⟨by decide, by decide, by decide, by decide, by decide, by decide +kernel, by decide +kernel, by decide, fun r hr => (nomatch hr), fun i a b ha hb => (nomatch ha)⟩
def spLaw (K : PySem.W.Frag) (PT : Addr) : Sp := fun vs H Q _ => ∃ (a : Addr) (ns : List Int), vs = [.ref a] ∧ SqL K H a (ns.map V.int) ∧ ns.length ≤ 63 ∧ H PT = some (.tbl #[]) ∧ ∀ H', Q (.bl true) H'
section
variable {P : Program} {w : World} {K : PySem.W.Frag} {mg : Str → Option Value} {base : Heap}
theorem scLaw : FnScope ["script", "m", "turn", "net", "shape", "stack", "odds", "odd", "some"] ["script"] (defScope sLaw) := ⟨rfl, rfl, rfl, by decide +kernel, rfl, by decide +kernel, by decide +kernel⟩
theorem ok_law {f c PT c8 cNE cT c1 c2 c3 c4 c5 c6 c7 c9 c10 : Addr} {B nid iid : String} {tls : List Value} {fd : FuncData} {fLN : Addr} {fdLN : FuncData} {fLS : Addr} {fdLS : FuncData} {fSt : Addr} {fdSt : FuncData} {fFi : Addr} {fdFi : FuncData} {fCu : Addr} {fdCu : FuncData} {fDr : Addr} {fdDr : FuncData} {fBeg : Addr} {fdBeg : FuncData} {fLk : Addr} {fdLk : FuncData} {fHe : Addr} {fdHe : FuncData} (F : Fun K "law" "law" sLaw f fd) (code : fd.code = .ref c) (TB : TabB base mg c PT) (T : Bt mg) (CLN : Cal K mg "_law_net" fLN fdLN ["m", "roads_so", "houses_so", "labels_so"]) (GLN : FnOk P w K mg base CX0 5 fLN fdLN ["m", "roads_so", "houses_so", "labels_so"] (spLN K)) (CLS : Cal K mg "_law_shape" fLS fdLS ["m", "labels", "most"]) (GLS : FnOk P w K mg base CX0 3 fLS fdLS ["m", "labels", "most"] (spLS K)) (CSt : Cal K mg "_law_stacks" fSt fdSt ["labels", "most"]) (GSt : FnOk P w K mg base CX0 1 fSt fdSt ["labels", "most"] (spSt K)) (CFi : Cal K mg "fits" fFi fdFi ["net", "shape", "stack"]) (GFi : FnOk P w K mg base CX0 9 fFi fdFi ["net", "shape", "stack"] (spFi K)) (CCu : Cal K mg "_law_cut" fCu fdCu ["shape", "stack"]) (GCu : FnOk P w K mg base CX0 1 fCu fdCu ["shape", "stack"] (spCu K)) (CDr : Cal K mg "_law_draw" fDr fdDr ["m", "limit"]) (GDr : FnOk P w K mg base CX0 2 fDr fdDr ["m", "limit"] spDra) (CBeg : Cal K mg "_law_begun" fBeg fdBeg ["script"]) (GBeg : FnOk P w K mg base CX0 2 fBeg fdBeg ["script"] (spBeg K)) (CLk : Cal K mg "_law_like" fLk fdLk ["heard", "due"]) (GLk : FnG P w K mg base CX0 1 fLk fdLk ["heard", "due"] (spLk K)) (GFix : FnOk P w K mg base (CX P w) 9 fFi fdFi ["net", "shape", "stack"] (spFix K c8))
    (FHe : Fun K "_law_heard" "_law_heard" sHe fHe fdHe) (CHe : Cal K mg "_law_heard" fHe fdHe ["call"]) (TH : Th K mg B nid iid tls cNE cT c1 c2 c3 c4 c5 c6 c7 c8 c9 c10) : FnG P w K mg base CX0 12 f fd ["script"] (spLaw K PT) := by
  obtain ⟨ocH, odH, kVH, dcH, pmH, anH, cdH, ctH, osH, rfl, lkH, hcdH⟩ := FHe.ex
  refine Fun.okGC F code scLaw (fun vs H Q E h => ?_) (fun A outer s H vs Q E gd hr h => ?_)
  · obtain ⟨a, ns, rfl, _⟩ := h
    rfl
  · obtain ⟨a, ns, rfl, hS, few, hPT, k⟩ := h
    have hr11 : Room 11 (A.deeper (envOfC "law" (defScope sLaw) s.heap.objs.size f (.ref c))) := hr
    have hu64 := hr11.units
    have hr1 : Room 1 (A.deeper (envOfC "law" (defScope sLaw) s.heap.objs.size f (.ref c))) := Room.mono hr (by decide)
    have hr2 : Room 2 (A.deeper (envOfC "law" (defScope sLaw) s.heap.objs.size f (.ref c))) := Room.mono hr (by decide)
    have hr3 : Room 3 (A.deeper (envOfC "law" (defScope sLaw) s.heap.objs.size f (.ref c))) := Room.mono hr (by decide)
    have hr5 : Room 5 (A.deeper (envOfC "law" (defScope sLaw) s.heap.objs.size f (.ref c))) := Room.mono hr (by decide)
    have hr9 : Room 9 (A.deeper (envOfC "law" (defScope sLaw) s.heap.objs.size f (.ref c))) := Room.mono hr (by decide)
    have gd2 : (A.deeper (envOfC "law" (defScope sLaw) s.heap.objs.size f (.ref c))).guards = some [] := gd
    refine ⟨_, (pss_cons (ps_set (i := 1) scLaw.nd rfl (by first | exact Or.inl rfl | exact Or.inr rfl) (pe_call GBeg hr2 (by rfl) CBeg.g CBeg.k CBeg.b .nil pass0 (pa_cons (pv 0) pa_nil)))
      (pss_cons (ps_for PassesOwn.never rfl (pi_range1 (by rfl) T.range (pa_cons pe_int pa_nil)) (pg_name (i := 2) scLaw.nd rfl (by first | exact Or.inl rfl | exact Or.inr rfl)) (pss_cons (ps_set (i := 3) scLaw.nd rfl (by first | exact Or.inl rfl | exact Or.inr rfl) (pe_call GLN hr5 (by rfl) CLN.g CLN.k CLN.b .nil pass0 (pa_cons (pv 1) (pa_cons pe_int (pa_cons pe_int (pa_cons pe_int pa_nil))))))
      (pss_cons (ps_set (i := 4) scLaw.nd rfl (by first | exact Or.inl rfl | exact Or.inr rfl) (pe_call GLS hr3 (by rfl) CLS.g CLS.k CLS.b .nil pass0 (pa_cons (pv 1) (pa_cons (pe_ix ix_tup (pv 3) pe_int (fun _ _ => rfl)) (pa_cons pe_int pa_nil)))))
      (pss_cons (ps_for PassesOwn.never rfl (pi_list (pe_call GSt hr1 (by rfl) CSt.g CSt.k CSt.b .nil pass0 (pa_cons (pe_ix ix_tup (pv 3) pe_int (fun _ _ => rfl)) (pa_cons (pe_ix ix_list (pe_lst (pa_cons pe_int (pa_cons pe_int (pa_cons pe_int (pa_cons pe_int pa_nil))))) (pe_callB call_len_seq (by rfl) T.len PySem.boot_len (pa_cons (pe_ix ix_tup (pv 3) pe_int (fun _ _ => rfl)) pa_nil)) (fun _ _ => rfl)) pa_nil)))) (pg_name (i := 5) scLaw.nd rfl (by first | exact Or.inl rfl | exact Or.inr rfl)) (pss_one (ps_if (pt_not (pt_val (pe_callG GLk gd2 hr1 (by rfl) CLk.g CLk.k CLk.b pass0 (pa_cons (pe_call GFi hr9 (by rfl) CFi.g CFi.k CFi.b .nil pass0 (pa_cons (pv 3) (pa_cons (pv 4) (pa_cons (pv 5) pa_nil)))) (pa_cons (pe_call GCu hr1 (by rfl) CCu.g CCu.k CCu.b .nil pass0 (pa_cons (pv 4) (pa_cons (pv 5) pa_nil))) pa_nil))))) (pss_one (ps_ret pe_bl)) pss_nil)))
      (pss_cons (ps_set (i := 6) scLaw.nd rfl (by first | exact Or.inl rfl | exact Or.inr rfl) (pe_lst (pa_cons pe_non (pa_cons pe_int (pa_cons (pe_callTy call_list_of (by rfl) T.list (by decide +kernel) (pa_cons (pe_ix ix_tup (pv 3) pe_int (fun _ _ => rfl)) pa_nil)) (pa_cons pe_str (pa_cons (pe_tup (pa_cons pe_int pa_nil)) (pa_cons (pe_tup (pa_cons pe_str pa_nil)) (pa_cons (pe_tup (pa_cons pe_str pa_nil)) (pa_cons (pe_tup (pa_cons pe_str pa_nil)) (pa_cons (pe_op op_repOne (pe_slice sl_tupA (pe_ix ix_tup (pv 3) pe_int (fun _ _ => rfl)) po_none (po_some pe_int)) pe_int) (pa_cons pe_dnewK (pa_cons (pe_tup (pa_cons pe_str pa_nil)) pa_nil)))))))))))))
      (pss_cons (ps_if (pt_cmpR (op_neD hu64) (pe_lc (own := [("odd", 7)]) (g := gName 7) (tt := _) (te := tVar 7) rfl scLaw.nd (pi_list (pv 6)) (blkOk_by (N := ["script", "m", "turn", "net", "shape", "stack", "odds", "odd", "some"]) (sc := defScope sLaw) (by decide +kernel)) (fun _ _ _ _ _ => pg_name (i := 7) scLaw.nd rfl (.inl rfl)) (fun _ _ _ _ _ => pts_one (pt_cmpR op_notBl (pe_call GFi hr9 (by rfl) CFi.g CFi.k CFi.b .nil pass0 (pa_cons (pv 3) (pa_cons (pe_tup (pa_cons pe_str pa_nil)) (pa_cons (pv 7) pa_nil)))) pe_bl (nomark _))) (fun _ _ _ _ _ => pv 7)) (pe_lst pa_nil) (nomark _)) (pss_one (ps_ret pe_bl)) pss_nil)
      (pss_cons (ps_set (i := 6) scLaw.nd rfl (by first | exact Or.inl rfl | exact Or.inr rfl) (pe_lst (pa_cons pe_non (pa_cons pe_int (pa_cons (pe_callTy call_list_of (by rfl) T.list (by decide +kernel) (pa_cons (pv 4) pa_nil)) (pa_cons pe_str (pa_cons (pe_tup (pa_cons pe_str pa_nil)) (pa_cons (pe_tup (pa_cons pe_str pa_nil)) (pa_cons (pe_tup (pa_cons pe_int pa_nil)) (pa_cons (pe_tup (pa_cons pe_str pa_nil)) (pa_cons (pe_op op_repOne (pe_tup (pa_cons pe_str pa_nil)) pe_int) (pa_cons pe_dnewK (pa_cons (pe_tup (pa_cons (pe_tup pa_nil) pa_nil)) (pa_cons pe_bl pa_nil))))))))))))))
      (pss_cons (ps_set (i := 7) scLaw.nd rfl (by first | exact Or.inl rfl | exact Or.inr rfl) (pe_ix ix_list (pv 6) (pe_call GDr hr2 (by rfl) CDr.g CDr.k CDr.b .nil pass0 (pa_cons (pv 1) (pa_cons pe_int pa_nil))) (fun _ _ => rfl)))
      (pss_cons (ps_if (pt_not (pt_val (pe_callG GLk gd2 hr1 (by rfl) CLk.g CLk.k CLk.b pass0 (pa_cons (pe_lamcall (T := [(PT, qLam)]) (TT := TTh c8) (a := "call") (k := 9) (Ng := NHe) (t := fun E => tCall (spFix K c8) [] E (tCons (tVar 3) (tCons (tVar 7) (tCons (tC .non) tNil)))) (by rfl) CHe.g CHe.k lkH hcdH CHe.b scHe rfl (.inl rfl) (heard_gives T TH) TB rfl (List.mem_singleton.mpr rfl) (fun p hp _ => by rw [List.mem_singleton.mp hp]; rfl) hr11 (lamS_by (sc := defScope sLaw) (by decide +kernel)) rfl (fun _ _ _ _ _ => rfl)
        (fun A outer s H E f c' hr9 => pe_call GFix hr9 (by rfl) CFi.g CFi.k CFi.b .nil lam_passes (pa_cons (pv 3) (pa_cons (pv 7) (pa_cons pe_non pa_nil))))) (pa_cons (pe_tup (pa_cons pe_str (pa_cons (pv 7) pa_nil))) pa_nil))))) (pss_one (ps_ret pe_bl)) pss_nil)
      (pss_one (ps_if (PW.pt (pw_or (pt_cmpR op_notBl (pe_call GFi hr9 (by rfl) CFi.g CFi.k CFi.b .nil pass0 (pa_cons (pv 3) (pa_cons (pe_tup (pa_cons pe_str pa_nil)) (pa_cons (pe_op op_repOne (pe_slice sl_tupA (pe_ix ix_tup (pv 3) pe_int (fun _ _ => rfl)) po_none (po_some pe_int)) pe_int) pa_nil)))) pe_bl (nomark _)) (pw_or1 (pt_cmpR op_notBl (pe_call GFi hr9 (by rfl) CFi.g CFi.k CFi.b .nil pass0 (pa_cons (pv 3) (pa_cons (pe_tup pa_nil) (pa_cons (pe_tup pa_nil) pa_nil)))) pe_bl (nomark _))))) (pss_one (ps_ret pe_bl)) pss_nil)))))))))))
      (pss_cons (ps_set (i := 3) scLaw.nd rfl (by first | exact Or.inl rfl | exact Or.inr rfl) (pe_tup (pa_cons (pe_tup (pa_cons (pe_tup (pa_cons pe_int (pa_cons pe_int pa_nil))) pa_nil)) (pa_cons (pe_tup (pa_cons pe_str (pa_cons pe_str pa_nil))) (pa_cons (pe_tup pa_nil) pa_nil)))))
      (pss_cons (ps_set (i := 8) scLaw.nd rfl (by first | exact Or.inl rfl | exact Or.inr rfl) (pe_lst (pa_cons (pe_call GFi hr9 (by rfl) CFi.g CFi.k CFi.b .nil pass0 (pa_cons (pv 3) (pa_cons (pe_tup (pa_cons pe_str (pa_cons pe_str (pa_cons pe_str (pa_cons pe_str pa_nil))))) (pa_cons (pe_tup (pa_cons pe_str (pa_cons pe_str pa_nil))) pa_nil)))) (pa_cons (pe_call GFi hr9 (by rfl) CFi.g CFi.k CFi.b .nil pass0 (pa_cons (pv 3) (pa_cons (pe_tup (pa_cons pe_str (pa_cons pe_str (pa_cons pe_str (pa_cons pe_str pa_nil))))) (pa_cons (pe_tup (pa_cons pe_str (pa_cons pe_str (pa_cons pe_str pa_nil)))) pa_nil)))) pa_nil))))
      (pss_one (ps_ret (pe_cmpR (op_eqD hu64) (pv 8) (pe_lst (pa_cons pe_bl (pa_cons pe_bl pa_nil))) (nomark _)))))))), ?_⟩
    refine ⟨_, rfl, a, ns, rfl, hS, few, fun H1 m cc g s1 nm nc ng M1 => ?_⟩
    refine ⟨6, rfl, by decide, by decide, ?_⟩
    refine for_range (lo := 0) (n := 6) (fun i σ H' => ∃ (u2 u3 u4 u5 u6 u7 u8 : Option V) (n' : Nat), σ = [some (.ref a), some (.ref m), u2, u3, u4, u5, u6, u7, u8] ∧ Ms H' m cc g n' ∧ n' ≤ 3000 * i ∧ Tabs [(PT, qLam)] H')
      ⟨_, _, _, _, _, _, _, 0, rfl, M1, Nat.zero_le _, fun p hp => by
        rw [List.mem_singleton.mp hp]
        exact TabS.nil (s1 _ _ hPT)⟩ ?_ ?_
    · rintro i σ H0 hi ⟨u2, u3, u4, u5, u6, u7, u8, n0, rfl, M0, nb0, tabs0⟩
      refine ⟨_, rfl, m, cc, g, n0, rfl, M0, by omega, fun v H1 N n1 k1 M1 nb1 dN1 okN lok => ?_⟩
      have tabs1 := tabs_kp tabs0 M0 k1
      obtain ⟨f1, f2, f3, f4⟩ := lok.facts
      obtain ⟨pn, l, v1, v3, rfl, en1, el1⟩ : ∃ (pn l : Addr) (v1 v3 : V), v = .ref pn ∧ SqT K H1 pn [v1, .ref l, v3] ∧ LbAt K H1 l N.labels := by
        obtain ⟨p, xs, rfl, ep, dxs⟩ := dp_of_tup dN1
        cases dxs with
        | cons d1 dxs =>
          cases dxs with
          | cons d2 dxs =>
            cases dxs with
            | cons d3 dxs =>
              cases dxs
              obtain ⟨l, ys, rfl, el, dl⟩ := dp_of_tup d2
              have eys := strs_dp dl
              subst eys
              exact ⟨p, l, _, _, rfl, ep, el⟩
      refine ⟨_, rfl, _, rfl, pn, _, _, _, rfl, rfl, en1, rfl, m, cc, g, l, n1, 6, N.labels, rfl, M1, by omega, el1, by omega, by decide, fun r H2 ws n2 lw mem k2 M2 nb2 er2 => ?_⟩
      have tabs2 := tabs_kp tabs1 M1 k2
      have t2 := k2.tk M1
      have en2 := t2.seq en1
      have el2 : LbAt K H2 l N.labels := t2.seq el1
      have dN2 := dp_tk t2 _ _ (flat_nt N) dN1
      have wok : shOk N.labels ws = true := by
        unfold shOk
        rw [decide_eq_true lw, Bool.true_and]
        exact List.all_eq_true.mpr fun x hx => decide_eq_true (mem x hx)
      obtain ⟨most, m6, at_m⟩ := most_at f1 f2
      refine ⟨_, rfl, pn, _, _, _, rfl, rfl, en2, rfl, s4le, fun L nL => ?_⟩
      have sL : Same H2 (upd H2 L (.lst [.int 0, .int 6, .int 5, .int 4])) := same_upd nL
      refine ⟨_, rfl, pn, _, _, _, rfl, rfl, (Tk.of sL).seq en2, rfl, l, _, rfl, .inr ((Tk.of sL).seq el2), L, _, _, _, rfl, rfl, SqL.of upd_same, at_m, l, most, N.labels, rfl, (Tk.of sL).seq el2, f2, m6, fun H3 sp sts s3 hst okst => ?_⟩
      have s23 := sL.trans s3
      obtain ⟨ps, eP, prP⟩ := hst
      refine ⟨sp, rfl, ⟨_, SqL.of eP⟩, ?_⟩
      refine for_list (K := K) (xs := ps.map V.ref) (fun j σ H' => ∃ u5 : Option V, σ = [some (.ref a), some (.ref m), some (.int (0 + (i : Int))), some (.ref pn), some (.ref r), u5, u6, u7, u8] ∧ Same H3 H') ⟨_, rfl, Same.refl _⟩ (fun j σ H' _ ⟨_, _, sm⟩ => SqL.of (sm _ _ eP)) ?_ ?_
      · rintro j x σ H' hx ⟨u5, rfl, sm⟩
        rw [List.getElem?_map, Option.map_eq_some_iff] at hx
        obtain ⟨st, ha, rfl⟩ := hx
        obtain ⟨wd, hw, sw⟩ := paired_get prP j st ha
        obtain ⟨lwd, mwd⟩ := okst wd (List.mem_of_getElem? hw)
        have tm : Tk H2 H' := (Tk.of s23).trans (Tk.of sm)
        refine ⟨_, rfl, _, rfl, _, rfl, .ref pn, r, .ref st, N, ws, canFit ws wd 0, rfl, dp_tk tm _ _ (flat_nt N) dN2, okN, tm.seq er2, wok, .inl ⟨st, wd, rfl, (Tk.of sm).seq sw, by omega, ?_⟩, fun H5 s5 => ?_⟩
        · rw [decide_eq_true (by omega), List.all_eq_true.mpr fun y hy => decide_eq_true (mwd y hy)]
          rfl
        refine ⟨_, rfl, _, rfl, r, st, ws, wd, rfl, (tm.trans (Tk.of s5)).seq er2, ((Tk.of sm).trans (Tk.of s5)).seq sw, by omega, fun H6 s6 => ?_⟩
        obtain ⟨g1, g2, g3⟩ := fine_of (fine_bl (canFit ws wd 0))
        exact ⟨_, _, .bool (canFit ws wd 0), false, rfl, .bl _, .bl _, g1, g2, g3, _, rfl, ifF rfl ⟨_, rfl, (sm.trans s5).trans s6⟩⟩
      rintro σ H4 ⟨u5', rfl, sm4⟩
      have s24 := s23.trans sm4
      have M4 := M2.same s24
      have tabs4 : Tabs [(PT, qLam)] H4 := tabs2.ext fun b o z => s24 b o z
      have en4 := (Tk.of s24).seq en2
      have el4 : LbAt K H4 l N.labels := (Tk.of s24).seq el2
      have dN4 := dp_tk (Tk.of s24) _ _ (flat_nt N) dN2
      have er4 := (Tk.of s24).seq er2
      obtain ⟨y, rest, els⟩ : ∃ y rest, N.labels = y :: rest := by
        cases z : N.labels with
        | nil => rw [z] at f1; cases f1
        | cons y rest => exact ⟨y, rest, rfl⟩
      have yin : y ∈ N.labels := by rw [els]; exact List.mem_cons_self
      -- what is no stack
      refine ⟨_, rfl, pn, _, _, _, rfl, rfl, en4, rfl, l, _, rfl, .inr el4, fun L1 nL1 => ?_⟩
      have sG1 : Same H4 (upd H4 L1 (.lst (N.labels.map V.str))) := same_upd nL1
      have eL1 : (upd H4 L1 (.lst (N.labels.map V.str))) L1 = some (.lst (N.labels.map V.str)) := upd_same
      revert sG1 eL1
      generalize upd H4 L1 (.lst (N.labels.map V.str)) = G1
      intro sG1 eL1
      refine ⟨s1le, fun ta nta => ?_⟩
      have sG2 : Same G1 (upd G1 ta (.tup [.int 5])) := same_upd nta
      have eta : (upd G1 ta (.tup [.int 5])) ta = some (.tup [.int 5]) := upd_same
      revert sG2 eta
      generalize upd G1 ta (.tup [.int 5]) = G2
      intro sG2 eta
      refine ⟨s1le, fun tb ntb => ?_⟩
      have sG3 : Same G2 (upd G2 tb (.tup [.str "zz"])) := same_upd ntb
      have etb : (upd G2 tb (.tup [.str "zz"])) tb = some (.tup [.str "zz"]) := upd_same
      revert sG3 etb
      generalize upd G2 tb (.tup [.str "zz"]) = G3
      intro sG3 etb
      refine ⟨s1le, fun tc ntc => ?_⟩
      have sG4 : Same G3 (upd G3 tc (.tup [.str "any"])) := same_upd ntc
      have etc : (upd G3 tc (.tup [.str "any"])) tc = some (.tup [.str "any"]) := upd_same
      revert sG4 etc
      generalize upd G3 tc (.tup [.str "any"]) = G4
      intro sG4 etc
      refine ⟨s1le, fun td ntd => ?_⟩
      have sG5 : Same G4 (upd G4 td (.tup [.str "all"])) := same_upd ntd
      have etd : (upd G4 td (.tup [.str "all"])) td = some (.tup [.str "all"]) := upd_same
      revert sG5 etd
      generalize upd G4 td (.tup [.str "all"]) = G5
      intro sG5 etd
      have s45 := ((((sG1.trans sG2).trans sG3).trans sG4).trans sG5)
      refine ⟨_, rfl, pn, _, _, _, rfl, rfl, (Tk.of s45).seq en4, rfl, _, rfl, ?_⟩
      refine slice1_read els ((Tk.of s45).seq el4) fun q Gq sGq sq => ?_
      refine ⟨q, 3001, .str y, rfl, rfl, sq, by decide, by decide, fun tr ntr => ?_⟩
      have sG6 : Same Gq (upd Gq tr (.tup (List.replicate (3001 : Int).toNat (V.str y)))) := same_upd ntr
      have etr : (upd Gq tr (.tup (List.replicate (3001 : Int).toNat (V.str y)))) tr = some (.tup (List.replicate (3001 : Int).toNat (V.str y))) := upd_same
      revert sG6 etr
      generalize upd Gq tr (.tup (List.replicate (3001 : Int).toNat (V.str y))) = G6
      intro sG6 etr
      intro dd ndd
      have sG7 : Same G6 (upd G6 dd (.dK [])) := same_upd ndd
      have edd : (upd G6 dd (.dK [])) dd = some (.dK []) := upd_same
      revert sG7 edd
      generalize upd G6 dd (.dK []) = G7
      intro sG7 edd
      refine ⟨s1le, fun te nte => ?_⟩
      have sG8 : Same G7 (upd G7 te (.tup [.str ""])) := same_upd nte
      have ete : (upd G7 te (.tup [.str ""])) te = some (.tup [.str ""]) := upd_same
      revert sG8 ete
      generalize upd G7 te (.tup [.str ""]) = G8
      intro sG8 ete
      refine ⟨by rw [sizeLine_eq]; show 11 ≤ _; decide, fun O1 nO1 => ?_⟩
      have sG9 : Same G8 (upd G8 O1 (.lst [.non, .int 5, .ref L1, .str "a", .ref ta, .ref tb, .ref tc, .ref td, .ref tr, .ref dd, .ref te])) := same_upd nO1
      have eO1 : (upd G8 O1 (.lst [.non, .int 5, .ref L1, .str "a", .ref ta, .ref tb, .ref tc, .ref td, .ref tr, .ref dd, .ref te])) O1 = some (.lst [.non, .int 5, .ref L1, .str "a", .ref ta, .ref tb, .ref tc, .ref td, .ref tr, .ref dd, .ref te]) := upd_same
      revert sG9 eO1
      generalize upd G8 O1 (.lst [.non, .int 5, .ref L1, .str "a", .ref ta, .ref tb, .ref tc, .ref td, .ref tr, .ref dd, .ref te]) = G9
      intro sG9 eO1
      have s4O := (((((((((sG1.trans sG2).trans sG3).trans sG4).trans sG5).trans sGq).trans sG6).trans sG7).trans sG8).trans sG9)
      have zzn : ∀ x : Str, x ∈ N.labels → x ≠ "zz" ∧ x ≠ "any" ∧ x ≠ "all" ∧ x ≠ "" := fun x hx => by
        obtain ⟨_, _, _, h1, h2, h3, h4⟩ := L5_of (f3 x hx)
        exact ⟨h4, h1, h2, h3⟩
      have ask1 : ∀ x ∈ [V.non, .int 5, .ref L1, .str "a", .ref ta, .ref tb, .ref tc, .ref td, .ref tr, .ref dd, .ref te], ∀ H', Same G9 H' → StAsk K H' N.labels ["all"] x false := by
        have one : ∀ (t : Addr) (x : Str), x ∉ N.labels → ∀ H', SqT K H' t [.str x] → StAsk K H' N.labels ["all"] (.ref t) false := fun t x nx H' hs => .inl ⟨t, [x], rfl, hs, by show 1 ≤ 10000; decide, by
          rw [List.all_cons, decide_eq_false nx, Bool.false_and, Bool.and_false, Bool.false_and]⟩
        intro x hx H' sm
        simp only [List.mem_cons, List.not_mem_nil, or_false] at hx
        rcases hx with rfl | rfl | rfl | rfl | rfl | rfl | rfl | rfl | rfl | rfl | rfl
        · exact .inr (.inr ⟨⟨"NoneType", by decide, .base .non⟩, rfl⟩)
        · exact .inr (.inr ⟨⟨"int", by decide, .base (.int 5)⟩, rfl⟩)
        · exact .inr (.inr ⟨⟨"list", by decide, .base (.lst ((((((((((sG2.trans sG3).trans sG4).trans sG5).trans sGq).trans sG6).trans sG7).trans sG8).trans sG9).trans sm) _ _ eL1))⟩, rfl⟩)
        · exact .inr (.inr ⟨⟨"str", by decide, .base (.str _)⟩, rfl⟩)
        · exact .inr (.inl ⟨ta, 5, rfl, (Tk.of ((((((((sG3.trans sG4).trans sG5).trans sGq).trans sG6).trans sG7).trans sG8).trans sG9).trans sm)).seq (SqT.of eta), rfl⟩)
        · exact one tb "zz" (fun z => (zzn _ z).1 rfl) H' ((Tk.of (((((((sG4.trans sG5).trans sGq).trans sG6).trans sG7).trans sG8).trans sG9).trans sm)).seq (SqT.of etb))
        · exact one tc "any" (fun z => (zzn _ z).2.1 rfl) H' ((Tk.of ((((((sG5.trans sGq).trans sG6).trans sG7).trans sG8).trans sG9).trans sm)).seq (SqT.of etc))
        · exact one td "all" (fun z => (zzn _ z).2.2.1 rfl) H' ((Tk.of (((((sGq.trans sG6).trans sG7).trans sG8).trans sG9).trans sm)).seq (SqT.of etd))
        · refine .inl ⟨tr, List.replicate 3001 y, rfl, ?_, by rw [List.length_replicate]; decide, ?_⟩
          · rw [List.map_replicate]
            exact (Tk.of (((sG7.trans sG8).trans sG9).trans sm)).seq (SqT.of etr)
          · rw [List.length_replicate]
            rfl
        · exact .inr (.inr ⟨⟨"dict", by decide, .base (.dK (((sG8.trans sG9).trans sm) _ _ edd))⟩, rfl⟩)
        · exact one te "" (fun z => (zzn _ z).2.2.2 rfl) H' ((Tk.of (sG9.trans sm)).seq (SqT.of ete))
      have dNO := dp_tk (Tk.of s4O) _ _ (flat_nt N) dN4
      have allok : shOk N.labels ["all"] = true := by
        unfold shOk
        rw [List.all_cons, decide_eq_true (List.mem_cons_of_mem _ List.mem_cons_self)]
        rfl
      refine ⟨_, rfl, O1, rfl, ⟨_, SqL.of eO1⟩, fun D2 nD2 => ?_⟩
      refine lc_list (K := K) (xs := [V.non, .int 5, .ref L1, .str "a", .ref ta, .ref tb, .ref tc, .ref td, .ref tr, .ref dd, .ref te]) (fun j H' => H' D2 = some (.lst []) ∧ Same G9 H') ⟨upd_same, same_upd nD2⟩ (fun j H' _ ⟨_, sm⟩ => SqL.of (sm _ _ eO1)) ?_ ?_
      · rintro j x H' hx ⟨eD, sm⟩
        refine ⟨rfl, ?_⟩
        refine ⟨_, rfl, s1le, fun tl ntl => ?_⟩
        have stl : Same H' (upd H' tl (.tup [.str "all"])) := same_upd ntl
        refine ⟨_, rfl, .ref pn, tl, x, N, ["all"], false, rfl, dp_tk (Tk.of (sm.trans stl)) _ _ (flat_nt N) dNO, okN, SqT.of upd_same, allok, ask1 x (List.mem_of_getElem? hx) _ (sm.trans stl), fun H7 s7 => ?_⟩
        exact ⟨_, _, rfl, rfl, _, rfl, ifF rfl ⟨s7 _ _ (stl _ _ eD), (sm.trans stl).trans s7⟩⟩
      rintro H5 ⟨eD5, sm5⟩
      refine ⟨Nat.zero_le _, fun Z nZ => ?_⟩
      have sZ : Same H5 (upd H5 Z (.lst [])) := same_upd nZ
      refine ⟨.list [], .list [], .lst (SqL.of (sZ _ _ eD5)) .nil, .lst (SqL.of upd_same) .nil, rfl, rfl, _, rfl, ifF rfl ?_⟩
      have s46 := (s4O.trans sm5).trans sZ
      revert s46
      generalize upd H5 Z (.lst []) = H6
      intro s46
      have en6 := (Tk.of s46).seq en4
      have el6 : LbAt K H6 l N.labels := (Tk.of s46).seq el4
      have er6 := (Tk.of s46).seq er4
      have M6 := M4.same s46
      have tabs6 : Tabs [(PT, qLam)] H6 := tabs4.ext fun b o z => s46 b o z
      have dN6 := dp_tk (Tk.of s46) _ _ (flat_nt N) dN4
      -- what is no shape
      refine ⟨_, rfl, r, _, rfl, .inr er6, fun L2 nL2 => ?_⟩
      have sG10 : Same H6 (upd H6 L2 (.lst (ws.map V.str))) := same_upd nL2
      have eL2 : (upd H6 L2 (.lst (ws.map V.str))) L2 = some (.lst (ws.map V.str)) := upd_same
      revert sG10 eL2
      generalize upd H6 L2 (.lst (ws.map V.str)) = G10
      intro sG10 eL2
      refine ⟨s1le, fun xa nxa => ?_⟩
      have sG11 : Same G10 (upd G10 xa (.tup [.str "All"])) := same_upd nxa
      have exa : (upd G10 xa (.tup [.str "All"])) xa = some (.tup [.str "All"]) := upd_same
      revert sG11 exa
      generalize upd G10 xa (.tup [.str "All"]) = G11
      intro sG11 exa
      refine ⟨s1le, fun xb nxb => ?_⟩
      have sG12 : Same G11 (upd G11 xb (.tup [.str ""])) := same_upd nxb
      have exb : (upd G11 xb (.tup [.str ""])) xb = some (.tup [.str ""]) := upd_same
      revert sG12 exb
      generalize upd G11 xb (.tup [.str ""]) = G12
      intro sG12 exb
      refine ⟨s1le, fun xc nxc => ?_⟩
      have sG13 : Same G12 (upd G12 xc (.tup [.int 1])) := same_upd nxc
      have exc : (upd G12 xc (.tup [.int 1])) xc = some (.tup [.int 1]) := upd_same
      revert sG13 exc
      generalize upd G12 xc (.tup [.int 1]) = G13
      intro sG13 exc
      refine ⟨s1le, fun xd nxd => ?_⟩
      have sG14 : Same G13 (upd G13 xd (.tup [.str "zz"])) := same_upd nxd
      have exd : (upd G13 xd (.tup [.str "zz"])) xd = some (.tup [.str "zz"]) := upd_same
      revert sG14 exd
      generalize upd G13 xd (.tup [.str "zz"]) = G14
      intro sG14 exd
      refine ⟨s1le, fun xe nxe => ?_⟩
      have sG15 : Same G14 (upd G14 xe (.tup [.str "any"])) := same_upd nxe
      have exe : (upd G14 xe (.tup [.str "any"])) xe = some (.tup [.str "any"]) := upd_same
      revert sG15 exe
      generalize upd G14 xe (.tup [.str "any"]) = G15
      intro sG15 exe
      refine ⟨xe, 7, .str "any", rfl, rfl, SqT.of exe, by decide, by decide, fun xr nxr => ?_⟩
      have sG16 : Same G15 (upd G15 xr (.tup (List.replicate (7 : Int).toNat (V.str "any")))) := same_upd nxr
      have exr : (upd G15 xr (.tup (List.replicate (7 : Int).toNat (V.str "any")))) xr = some (.tup (List.replicate (7 : Int).toNat (V.str "any"))) := upd_same
      revert sG16 exr
      generalize upd G15 xr (.tup (List.replicate (7 : Int).toNat (V.str "any"))) = G16
      intro sG16 exr
      intro xk nxk
      have sG17 : Same G16 (upd G16 xk (.dK [])) := same_upd nxk
      have exk : (upd G16 xk (.dK [])) xk = some (.dK []) := upd_same
      revert sG17 exk
      generalize upd G16 xk (.dK []) = G17
      intro sG17 exk
      refine ⟨Nat.zero_le _, fun xn nxn => ?_⟩
      have sG18 : Same G17 (upd G17 xn (.tup [])) := same_upd nxn
      have exn : (upd G17 xn (.tup [])) xn = some (.tup []) := upd_same
      revert sG18 exn
      generalize upd G17 xn (.tup []) = G18
      intro sG18 exn
      refine ⟨s1le, fun xt nxt => ?_⟩
      have sG19 : Same G18 (upd G18 xt (.tup [.ref xn])) := same_upd nxt
      have ext : (upd G18 xt (.tup [.ref xn])) xt = some (.tup [.ref xn]) := upd_same
      revert sG19 ext
      generalize upd G18 xt (.tup [.ref xn]) = G19
      intro sG19 ext
      refine ⟨by rw [sizeLine_eq]; show 12 ≤ _; decide, fun O2 nO2 => ?_⟩
      have sG20 : Same G19 (upd G19 O2 (.lst [.non, .int 5, .ref L2, .str "all", .ref xa, .ref xb, .ref xc, .ref xd, .ref xr, .ref xk, .ref xt, .bl true])) := same_upd nO2
      have eO2 : (upd G19 O2 (.lst [.non, .int 5, .ref L2, .str "all", .ref xa, .ref xb, .ref xc, .ref xd, .ref xr, .ref xk, .ref xt, .bl true])) O2 = some (.lst [.non, .int 5, .ref L2, .str "all", .ref xa, .ref xb, .ref xc, .ref xd, .ref xr, .ref xk, .ref xt, .bl true]) := upd_same
      revert sG20 eO2
      generalize upd G19 O2 (.lst [.non, .int 5, .ref L2, .str "all", .ref xa, .ref xb, .ref xc, .ref xd, .ref xr, .ref xk, .ref xt, .bl true]) = G20
      intro sG20 eO2
      have s6O := ((((((((((sG10.trans sG11).trans sG12).trans sG13).trans sG14).trans sG15).trans sG16).trans sG17).trans sG18).trans sG19).trans sG20)
      have MO := M6.same s6O
      have nL2m : L2 ≠ m := fun z => by
        rw [z, M6.hd] at nL2
        cases nL2
      have nL2g : L2 ≠ g := M6.notg nL2
      have nxkm : xk ≠ m := fun z => by
        rw [z] at exk
        have z2 := (((sG18.trans sG19).trans sG20) _ _ exk).symm.trans MO.hd
        injection z2 with z2
        injection z2 with z2
        cases z2
      have nxkg : xk ≠ g := fun z => by
        obtain ⟨gs, _, e2⟩ := MO.hg
        rw [z] at exk
        exact nomatch (((sG18.trans sG19).trans sG20) _ _ exk).symm.trans e2
      have wm : ∀ x ∈ ws, x ∈ M8 := fun x hx => by
        have z := mem x hx
        simp only [List.mem_cons] at z
        rcases z with rfl | rfl | z
        · decide +kernel
        · decide +kernel
        · exact l5_m8 (f3 x z)
      have odd2 : ∀ x ∈ [V.non, .int 5, .ref L2, .str "all", .ref xa, .ref xb, .ref xc, .ref xd, .ref xr, .ref xk, .ref xt, .bl true], ∃ (d : PyData) (b : Bool), fine (.tuple [.str "shape", d]) = true ∧ ∀ H', Kx G20 H' m g → Da K H' b x d ∧ ShBad K H' N.labels x := by
        have one : ∀ (t : Addr) (z : List Str) (H' : Hp), shOk N.labels z = false → SqT K H' t (z.map V.str) → ∀ b, Da K H' b (.ref t) (.tuple (z.map .str)) ∧ ShBad K H' N.labels (.ref t) := fun t z H' nz hs b => ⟨.tup hs (da_strs z), .inl ⟨t, z, rfl, hs, nz⟩⟩
        have no1 : ∀ x : Str, x ≠ "any" → x ≠ "all" → x ∉ N.labels → shOk N.labels [x] = false := fun x h1 h2 h3 => by
          have nx : x ∉ (("any" :: "all" :: N.labels) : List Str) := fun z => by
            rcases List.mem_cons.mp z with z | z
            · exact h1 z
            · rcases List.mem_cons.mp z with z | z
              · exact h2 z
              · exact h3 z
          unfold shOk
          rw [List.all_cons, decide_eq_false nx, Bool.false_and, Bool.and_false]
        intro x hx
        simp only [List.mem_cons, List.not_mem_nil, or_false] at hx
        rcases hx with rfl | rfl | rfl | rfl | rfl | rfl | rfl | rfl | rfl | rfl | rfl | rfl
        · exact ⟨.none, false, by decide +kernel, fun H' k => ⟨.non, .inr (.inr ⟨"NoneType", by decide, .base .non⟩)⟩⟩
        · exact ⟨.int 5, false, by decide +kernel, fun H' k => ⟨.int 5, .inr (.inr ⟨"int", by decide, .base (.int 5)⟩)⟩⟩
        · exact ⟨.list (ws.map .str), false, fine_words wm lw, fun H' k => ⟨.lst (SqL.of (k _ _ ((((((((((sG11.trans sG12).trans sG13).trans sG14).trans sG15).trans sG16).trans sG17).trans sG18).trans sG19).trans sG20) _ _ eL2) nL2m nL2g (fun _ z => nomatch z))) (da_strs ws) (fun z => nomatch z), .inr (.inr ⟨"list", by decide, .base (.lst (k _ _ ((((((((((sG11.trans sG12).trans sG13).trans sG14).trans sG15).trans sG16).trans sG17).trans sG18).trans sG19).trans sG20) _ _ eL2) nL2m nL2g (fun _ z => nomatch z)))⟩)⟩⟩
        · exact ⟨.str "all", false, by decide +kernel, fun H' k => ⟨.str _, .inr (.inr ⟨"str", by decide, .base (.str _)⟩)⟩⟩
        · exact ⟨.tuple ((["All"] : List Str).map .str), false, by decide +kernel, fun H' k => one xa ["All"] H' (no1 _ (by decide) (by decide) fun z => all_up (f3 _ z)) (((Tk.of ((((((((sG12.trans sG13).trans sG14).trans sG15).trans sG16).trans sG17).trans sG18).trans sG19).trans sG20)).trans (k.tk MO)).seq (SqT.of exa)) false⟩
        · exact ⟨.tuple (([""] : List Str).map .str), false, by decide +kernel, fun H' k => one xb [""] H' (no1 _ (by decide) (by decide) fun z => (zzn _ z).2.2.2 rfl) (((Tk.of (((((((sG13.trans sG14).trans sG15).trans sG16).trans sG17).trans sG18).trans sG19).trans sG20)).trans (k.tk MO)).seq (SqT.of exb)) false⟩
        · exact ⟨.tuple [.int 1], false, by decide +kernel, fun H' k => ⟨.tup (((Tk.of ((((((sG14.trans sG15).trans sG16).trans sG17).trans sG18).trans sG19).trans sG20)).trans (k.tk MO)).seq (SqT.of exc)) (.cons (.int 1) .nil), .inr (.inl ⟨xc, .int 1, rfl, ((Tk.of ((((((sG14.trans sG15).trans sG16).trans sG17).trans sG18).trans sG19).trans sG20)).trans (k.tk MO)).seq (SqT.of exc), .inl ⟨1, rfl⟩⟩)⟩⟩
        · exact ⟨.tuple ((["zz"] : List Str).map .str), false, by decide +kernel, fun H' k => one xd ["zz"] H' (no1 _ (by decide) (by decide) fun z => (zzn _ z).1 rfl) (((Tk.of (((((sG15.trans sG16).trans sG17).trans sG18).trans sG19).trans sG20)).trans (k.tk MO)).seq (SqT.of exd)) false⟩
        · exact ⟨.tuple ((List.replicate 7 ("any" : Str)).map .str), false, by decide +kernel, fun H' k => one xr (List.replicate 7 "any") H' (by unfold shOk; rw [List.length_replicate]; rfl) (((Tk.of (((sG17.trans sG18).trans sG19).trans sG20)).trans (k.tk MO)).seq (SqT.of exr)) false⟩
        · exact ⟨.dict [], true, by decide +kernel, fun H' k => ⟨.dic (k _ _ (((sG18.trans sG19).trans sG20) _ _ exk) nxkm nxkg (fun _ z => nomatch z)) rfl, .inr (.inr ⟨"dict", by decide, .base (.dK (k _ _ (((sG18.trans sG19).trans sG20) _ _ exk) nxkm nxkg (fun _ z => nomatch z)))⟩)⟩⟩
        · exact ⟨.tuple [.tuple []], false, by decide +kernel, fun H' k => ⟨.tup (((Tk.of sG20).trans (k.tk MO)).seq (SqT.of ext)) (.cons (.tup (((Tk.of (sG19.trans sG20)).trans (k.tk MO)).seq (SqT.of exn)) .nil) .nil), .inr (.inl ⟨xt, .ref xn, rfl, ((Tk.of sG20).trans (k.tk MO)).seq (SqT.of ext), .inr ⟨xn, _, rfl, ((Tk.of (sG19.trans sG20)).trans (k.tk MO)).seq (SqT.of exn)⟩⟩)⟩⟩
        · exact ⟨.bool true, false, by decide +kernel, fun H' k => ⟨.bl true, .inr (.inr ⟨"bool", by decide, .base (.bl true)⟩)⟩⟩
      have tabsO : Tabs [(PT, qLam)] G20 := tabs6.ext fun b o z => s6O b o z
      have dNO2 := dp_tk (Tk.of s6O) _ _ (flat_nt N) dN6
      have enO := (Tk.of s6O).seq en6
      have elO : LbAt K G20 l N.labels := (Tk.of s6O).seq el6
      refine ⟨_, rfl, _, rfl, m, cc, g, n2, 12, rfl, by decide, by decide, by omega, MO, fun z H8 z0 z1 M8_ k8 => ?_⟩
      have nO2m := MO.at_m eO2
      have nO2g : O2 ≠ g := (M6.same (((((((((sG10.trans sG11).trans sG12).trans sG13).trans sG14).trans sG15).trans sG16).trans sG17).trans sG18).trans sG19)).notg nO2
      obtain ⟨x, hx, at_z⟩ := at_list (xs := [V.non, .int 5, .ref L2, .str "all", .ref xa, .ref xb, .ref xc, .ref xd, .ref xr, .ref xk, .ref xt, .bl true]) z0 z1
      obtain ⟨d, b, fd_, clo⟩ := odd2 x hx
      refine ⟨O2, _, z, x, rfl, rfl, SqL.of (k8 _ _ eO2 nO2m nO2g), at_z, ?_⟩
      have kx8 : Kx G20 H8 m g := Kx.kp k8
      have tabs8 := tabs_kp tabsO MO k8
      refine ⟨tabs8, fun H9 x9 tabs9 H10 s10 R => ?_⟩
      have kx10 := (kx8.trans (Kx.ext x9)).trans (Kx.of s10)
      refine ⟨_, rfl, _, rfl, .ref pn, x, .non, N, rfl, dp_tk (kx10.tk MO) _ _ (flat_nt N) dNO2, okN, (clo _ kx10).2, fun H11 dx s11 nd ed => ⟨rfl, dx, x, rfl, ed, fun H12 p s12 ep => ?_⟩⟩
      refine ⟨_, rfl, s2le, fun t nt => ?_⟩
      have st : Same H12 (upd H12 t (.tup [.str "shape", x])) := same_upd nt
      have s9t := ((s10.trans s11).trans s12).trans st
      have kxt : Kx G20 (upd H12 t (.tup [.str "shape", x])) m g := (kx8.trans (Kx.ext x9)).trans (Kx.of s9t)
      have Mt := (M8_.ext x9).same s9t
      have tabst : Tabs [(PT, qLam)] (upd H12 t (.tup [.str "shape", x])) := tabs9.ext fun b o z => s9t b o z
      obtain ⟨g1, g2, g3⟩ := fine_of fd_
      refine ⟨_, _, .tuple [.str "shape", d], b, rfl, .tup ((Tk.of st).seq (SqT.of ep)) (.cons (.str _) (.cons (clo _ kxt).1 .nil)), .tup (SqT.of upd_same) (.cons (.str _) (.cons (clo _ kxt).1 .nil)), g1, g2, g3, _, rfl, ifF rfl ?_⟩
      have tt := kxt.tk MO
      revert Mt tabst tt
      generalize upd H12 t (.tup [.str "shape", x]) = HA
      intro Mt tabst tt
      have enA := tt.seq enO
      have elA : LbAt K HA l N.labels := tt.seq elO
      have dNA := dp_tk tt _ _ (flat_nt N) dNO2
      refine ⟨_, rfl, s1le, fun ya nya => ?_⟩
      have sya : Same HA (upd HA ya (.tup [.str "all"])) := same_upd nya
      refine ⟨_, rfl, pn, _, _, _, rfl, rfl, (Tk.of sya).seq enA, rfl, _, rfl, ?_⟩
      refine slice1_read els ((Tk.of sya).seq elA) fun q2 Gr sGr sq2 => ?_
      refine ⟨q2, 3000, .str y, rfl, rfl, sq2, by decide, by decide, fun yr nyr => ?_⟩
      have syr : Same Gr (upd Gr yr (.tup (List.replicate (3000 : Int).toNat (V.str y)))) := same_upd nyr
      refine ⟨.ref pn, ya, .ref yr, N, ["all"], true, rfl, dp_tk (Tk.of ((sya.trans sGr).trans syr)) _ _ (flat_nt N) dNA, okN, (Tk.of (sGr.trans syr)).seq (SqT.of upd_same), allok, .inl ⟨yr, List.replicate 3000 y, rfl, ?_, by rw [List.length_replicate]; decide, ?_⟩, fun HB sB => ?_⟩
      · rw [List.map_replicate]
        exact SqT.of upd_same
      · have c1 : canFit ["all"] (List.replicate 3000 y) ((0 : Nat) : Int) = true := by
          rw [canFit_mt]
          exact mt_all.mpr ⟨(List.replicate 3000 y).length, Nat.le_refl _, by rw [List.drop_length]; rfl⟩
        have c2 : (List.replicate 3000 y).all (fun z => decide (z ∈ N.labels)) = true := List.all_eq_true.mpr fun z hz => decide_eq_true (by rw [(List.mem_replicate.mp hz).2]; exact yin)
        have c3 : decide ((((List.replicate 3000 y).length : Nat) : Int) ≤ 3000) = true := decide_eq_true (by rw [List.length_replicate]; decide)
        rw [c2, c3]
        exact c1.symm
      refine ⟨_, _, rfl, rfl, _, rfl, ifF rfl ?_⟩
      have sAB := ((sya.trans sGr).trans syr).trans sB
      have MB := Mt.same sAB
      have tabsB : Tabs [(PT, qLam)] HB := tabst.ext fun b o z => sAB b o z
      have dNB := dp_tk (Tk.of sAB) _ _ (flat_nt N) dNA
      refine ⟨_, rfl, Nat.zero_le _, fun w1 nw1 => ⟨Nat.zero_le _, fun w2 nw2 => ?_⟩⟩
      have sw1 : Same HB (upd HB w1 (.tup [])) := same_upd nw1
      have sw2 : Same (upd HB w1 (.tup [])) (upd (upd HB w1 (.tup [])) w2 (.tup [])) := same_upd nw2
      refine ⟨.ref pn, w1, .ref w2, N, [], true, rfl, dp_tk (Tk.of (sw1.trans sw2)) _ _ (flat_nt N) dNB, okN, (Tk.of sw2).seq (SqT.of upd_same), rfl, .inl ⟨w2, [], rfl, SqT.of upd_same, by decide, by show true = ((decide ((0 : Int) ≤ 3000) && true) && canFit [] [] 0); decide +kernel⟩, fun HC sC => ?_⟩
      refine ⟨_, _, rfl, rfl, _, rfl, ifF rfl ?_⟩
      have sBC := (sw1.trans sw2).trans sC
      exact ⟨_, _, _, _, _, _, _, n2 + 1, rfl, MB.same sBC, by omega, tabsB.ext fun b o z => sBC b o z⟩
    rintro σ H0 ⟨u2, u3, u4, u5, u6, u7, u8, n0, rfl, M0, nb0, tabs0⟩
    -- the net by hand
    refine ⟨s2le, fun a1 na1 => ⟨s1le, fun a2 na2 => ⟨s2le, fun a3 na3 => ⟨Nat.zero_le _, fun a4 na4 => ⟨s3le, fun pn npn => ?_⟩⟩⟩⟩⟩
    have q1 : Same H0 (upd H0 a1 (.tup [.int 0, .int 0])) := same_upd na1
    have q2 : Same (upd H0 a1 (.tup [.int 0, .int 0])) (upd (upd H0 a1 (.tup [.int 0, .int 0])) a2 (.tup [.ref a1])) := same_upd na2
    have q3 : Same (upd (upd H0 a1 (.tup [.int 0, .int 0])) a2 (.tup [.ref a1])) (upd (upd (upd H0 a1 (.tup [.int 0, .int 0])) a2 (.tup [.ref a1])) a3 (.tup [.str "a", .str "bb"])) := same_upd na3
    have q4 : Same (upd (upd (upd H0 a1 (.tup [.int 0, .int 0])) a2 (.tup [.ref a1])) a3 (.tup [.str "a", .str "bb"])) (upd (upd (upd (upd H0 a1 (.tup [.int 0, .int 0])) a2 (.tup [.ref a1])) a3 (.tup [.str "a", .str "bb"])) a4 (.tup [])) := same_upd na4
    have q5 : Same (upd (upd (upd (upd H0 a1 (.tup [.int 0, .int 0])) a2 (.tup [.ref a1])) a3 (.tup [.str "a", .str "bb"])) a4 (.tup [])) (upd (upd (upd (upd (upd H0 a1 (.tup [.int 0, .int 0])) a2 (.tup [.ref a1])) a3 (.tup [.str "a", .str "bb"])) a4 (.tup [])) pn (.tup [.ref a2, .ref a3, .ref a4])) := same_upd npn
    have dN : Dp K (upd (upd (upd (upd (upd H0 a1 (.tup [.int 0, .int 0])) a2 (.tup [.ref a1])) a3 (.tup [.str "a", .str "bb"])) a4 (.tup [])) pn (.tup [.ref a2, .ref a3, .ref a4])) (.ref pn) (dNt ⟨[(0, 0)], ["a", "bb"], []⟩) := by
      refine .tup (SqT.of upd_same) (.cons (.tup ((Tk.of ((q3.trans q4).trans q5)).seq (SqT.of upd_same)) (.cons (.tup ((Tk.of (((q2.trans q3).trans q4).trans q5)).seq (SqT.of upd_same)) (.cons (.int 0) (.cons (.int 0) .nil))) .nil)) (.cons (.tup ((Tk.of (q4.trans q5)).seq (SqT.of upd_same)) (dp_strs ["a", "bb"])) (.cons (.tup ((Tk.of q5).seq (SqT.of upd_same)) .nil) .nil)))
    revert dN
    generalize upd (upd (upd (upd (upd H0 a1 (.tup [.int 0, .int 0])) a2 (.tup [.ref a1])) a3 (.tup [.str "a", .str "bb"])) a4 (.tup [])) pn (.tup [.ref a2, .ref a3, .ref a4]) = HN
    intro dN
    refine ⟨_, rfl, s4le, fun b1 nb1 => ⟨s2le, fun b2 nb2 => ?_⟩⟩
    have p1 : Same HN (upd HN b1 (.tup [.str "all", .str "a", .str "any", .str "all"])) := same_upd nb1
    have p2 : Same (upd HN b1 (.tup [.str "all", .str "a", .str "any", .str "all"])) (upd (upd HN b1 (.tup [.str "all", .str "a", .str "any", .str "all"])) b2 (.tup [.str "bb", .str "a"])) := same_upd nb2
    refine ⟨.ref pn, b1, .ref b2, ⟨[(0, 0)], ["a", "bb"], []⟩, ["all", "a", "any", "all"], false, rfl, dp_tk (Tk.of (p1.trans p2)) _ _ (flat_nt _) dN, okHand, (Tk.of p2).seq (SqT.of upd_same), by decide +kernel, .inl ⟨b2, ["bb", "a"], rfl, SqT.of upd_same, by decide, by decide +kernel⟩, fun HO sO => ?_⟩
    have sNO := (p1.trans p2).trans sO
    refine ⟨_, rfl, s4le, fun b3 nb3 => ⟨s3le, fun b4 nb4 => ?_⟩⟩
    have p3 : Same HO (upd HO b3 (.tup [.str "all", .str "a", .str "any", .str "all"])) := same_upd nb3
    have p4 : Same (upd HO b3 (.tup [.str "all", .str "a", .str "any", .str "all"])) (upd (upd HO b3 (.tup [.str "all", .str "a", .str "any", .str "all"])) b4 (.tup [.str "a", .str "a", .str "bb"])) := same_upd nb4
    refine ⟨.ref pn, b3, .ref b4, ⟨[(0, 0)], ["a", "bb"], []⟩, ["all", "a", "any", "all"], true, rfl, dp_tk (Tk.of ((sNO.trans p3).trans p4)) _ _ (flat_nt _) dN, okHand, (Tk.of p4).seq (SqT.of upd_same), by decide +kernel, .inl ⟨b4, ["a", "a", "bb"], rfl, SqT.of upd_same, by decide, by decide +kernel⟩, fun HP sP => ?_⟩
    refine ⟨s2le, fun so nso => ?_⟩
    refine ⟨_, rfl, s2le, fun du ndu => ?_⟩
    exact ⟨.list [.bool false, .bool true], .list [.bool false, .bool true], .lst (SqL.of ((same_upd ndu) _ _ upd_same)) (.cons (.bl false) (.cons (.bl true) .nil)), .lst (SqL.of upd_same) (.cons (.bl false) (.cons (.bl true) .nil)), rfl, rfl, k _⟩

end
end Lr

namespace Lr
open PySem PySem.Spec PyProof.Rows L2 LamX

theorem all_mk {l : PySem.W.OpenLaw} {w : World} {K : PySem.W.Frag} {h : Heap} {mg : Str → Option Value} {fa cc PT cNE cT c1 c2 c3 c4 c5 c6 c7 c8 c9 c10 fM fF fDr fBeg fNu fTu fPa fWo fHo fHp fLa fRd fLb fLs fSg fHd fCh fGr fGs fRw fSh fNN fNR fNL fNW fNS fLe fMe fHs fFi fLk fLW fLG fLN fLS fSt fHe fCu fW fI : Addr} (X : K.In h) (G : h.Ns mainGlobals mg) (hfa : mg "law" = some (.ref fa))
    {odM anM odF anF odDr anDr odBeg anBeg odNu anNu odTu anTu odPa anPa odWo anWo odHo anHo odHp anHp odLa anLa odRd anRd odLb anLb odLs anLs odSg anSg odHd anHd odCh anCh odGr anGr odGs anGs odRw anRw odSh anSh odNN anNN odNR anNR odNL anNL odNW anNW odNS anNS odLe anLe odMe anMe odHs anHs odFi anFi odLk anLk odLW anLW odLG anLG odLN anLN odLS anLS odSt anSt odHe anHe odCu anCu odW anW odI anI odc : Option Addr} {slM slF slDr slBeg slNu slTu slPa slWo slHo slHp slLa slRd slLb slLs slSg slHd slCh slGr slGs slRw slSh slNN slNR slNL slNW slNS slLe slMe slHs slFi slLk slLW slLG slLN slLS slSt slHe slCu slW slI slc : Array (Option Value)} {ocM kVM dcM pmM cdM ctM ocF kVF dcF pmF cdF ctF ocDr kVDr dcDr pmDr cdDr ctDr ocBeg kVBeg dcBeg pmBeg cdBeg ctBeg ocNu kVNu dcNu pmNu cdNu ctNu ocTu kVTu dcTu pmTu cdTu ctTu ocPa kVPa dcPa pmPa cdPa ctPa ocWo kVWo dcWo pmWo cdWo ctWo ocHo kVHo dcHo pmHo cdHo ctHo ocHp kVHp dcHp pmHp cdHp ctHp ocLa kVLa dcLa pmLa cdLa ctLa ocRd kVRd dcRd pmRd cdRd ctRd ocLb kVLb dcLb pmLb cdLb ctLb ocLs kVLs dcLs pmLs cdLs ctLs ocSg kVSg dcSg pmSg cdSg ctSg ocHd kVHd dcHd pmHd cdHd ctHd ocCh kVCh dcCh pmCh cdCh ctCh ocGr kVGr dcGr pmGr cdGr ctGr ocGs kVGs dcGs pmGs cdGs ctGs ocRw kVRw dcRw pmRw cdRw ctRw ocSh kVSh dcSh pmSh cdSh ctSh ocNN kVNN dcNN pmNN cdNN ctNN ocNR kVNR dcNR pmNR cdNR ctNR ocNL kVNL dcNL pmNL cdNL ctNL ocNW kVNW dcNW pmNW cdNW ctNW ocNS kVNS dcNS pmNS cdNS ctNS ocLe kVLe dcLe pmLe cdLe ctLe ocMe kVMe dcMe pmMe cdMe ctMe ocHs kVHs dcHs pmHs cdHs ctHs ocFi kVFi dcFi pmFi cdFi ctFi ocLk kVLk dcLk pmLk cdLk ctLk ocLW kVLW dcLW pmLW cdLW ctLW ocLG kVLG dcLG pmLG cdLG ctLG ocLN kVLN dcLN pmLN cdLN ctLN ocLS kVLS dcLS pmLS cdLS ctLS ocSt kVSt dcSt pmSt cdSt ctSt ocHe kVHe dcHe pmHe cdHe ctHe ocCu kVCu dcCu pmCu cdCu ctCu ocW kVW dcW pmW ctW ocI kVI dcI pmI cdI ctI occ : Value} {vsc : Array Value} {t_MOST_HOUSE t_MOST_LETTERS t_MOST_WORD t_MOST_CHOICES t_MOST_GROUPS t_MOST_ITEMS t_MOST_ROADS t_MOST_LABELS t_MOST_STACK : Tok}
    {nm8 q8 : Str} {N8 : Addr} {bs8 : List Value} {sn8 : List Str} {sub8 : List Value} {ab8 : Bool} {col8 : Option Bool} {dd8 : Option Addr} {m08 m18 m28 m38 m58 : Option Value}
    (aM : PySem.W.nsIn K mainGlobals "_law_mixed" = some (some (.ref fM)))
    (lM : K.lookup fM = some ⟨ocM, odM, .func (PySem.W.fnOf "_law_mixed" "_law_mixed" (defArgs sMix) (defBody sMix) (defScope sMix) .none kVM dcM pmM anM cdM ctM), slM⟩)
    (dM : PySem.W.codeIn K cdM "_law_mixed" = true)
    (kM : PySem.W.keepIn K (.ref fM) = true)
    (aF : PySem.W.nsIn K mainGlobals "_law_folded" = some (some (.ref fF)))
    (lF : K.lookup fF = some ⟨ocF, odF, .func (PySem.W.fnOf "_law_folded" "_law_folded" (defArgs sFol) (defBody sFol) (defScope sFol) .none kVF dcF pmF anF cdF ctF), slF⟩)
    (dF : PySem.W.codeIn K cdF "_law_folded" = true)
    (kF : PySem.W.keepIn K (.ref fF) = true)
    (aDr : PySem.W.nsIn K mainGlobals "_law_draw" = some (some (.ref fDr)))
    (lDr : K.lookup fDr = some ⟨ocDr, odDr, .func (PySem.W.fnOf "_law_draw" "_law_draw" (defArgs sDra) (defBody sDra) (defScope sDra) .none kVDr dcDr pmDr anDr cdDr ctDr), slDr⟩)
    (dDr : PySem.W.codeIn K cdDr "_law_draw" = true)
    (kDr : PySem.W.keepIn K (.ref fDr) = true)
    (aBeg : PySem.W.nsIn K mainGlobals "_law_begun" = some (some (.ref fBeg)))
    (lBeg : K.lookup fBeg = some ⟨ocBeg, odBeg, .func (PySem.W.fnOf "_law_begun" "_law_begun" (defArgs sBeg) (defBody sBeg) (defScope sBeg) .none kVBeg dcBeg pmBeg anBeg cdBeg ctBeg), slBeg⟩)
    (dBeg : PySem.W.codeIn K cdBeg "_law_begun" = true)
    (kBeg : PySem.W.keepIn K (.ref fBeg) = true)
    (aNu : PySem.W.nsIn K mainGlobals "is_number" = some (some (.ref fNu)))
    (lNu : K.lookup fNu = some ⟨ocNu, odNu, .func (PySem.W.fnOf "is_number" "is_number" (defArgs sNu) (defBody sNu) (defScope sNu) .none kVNu dcNu pmNu anNu cdNu ctNu), slNu⟩)
    (dNu : PySem.W.codeIn K cdNu "is_number" = true)
    (kNu : PySem.W.keepIn K (.ref fNu) = true)
    (aTu : PySem.W.nsIn K mainGlobals "is_tuple" = some (some (.ref fTu)))
    (lTu : K.lookup fTu = some ⟨ocTu, odTu, .func (PySem.W.fnOf "is_tuple" "is_tuple" (defArgs sTu) (defBody sTu) (defScope sTu) .none kVTu dcTu pmTu anTu cdTu ctTu), slTu⟩)
    (dTu : PySem.W.codeIn K cdTu "is_tuple" = true)
    (kTu : PySem.W.keepIn K (.ref fTu) = true)
    (aPa : PySem.W.nsIn K mainGlobals "is_pair" = some (some (.ref fPa)))
    (lPa : K.lookup fPa = some ⟨ocPa, odPa, .func (PySem.W.fnOf "is_pair" "is_pair" (defArgs sPa) (defBody sPa) (defScope sPa) .none kVPa dcPa pmPa anPa cdPa ctPa), slPa⟩)
    (dPa : PySem.W.codeIn K cdPa "is_pair" = true)
    (kPa : PySem.W.keepIn K (.ref fPa) = true)
    (aWo : PySem.W.nsIn K mainGlobals "is_word" = some (some (.ref fWo)))
    (lWo : K.lookup fWo = some ⟨ocWo, odWo, .func (PySem.W.fnOf "is_word" "is_word" (defArgs sWo) (defBody sWo) (defScope sWo) .none kVWo dcWo pmWo anWo cdWo ctWo), slWo⟩)
    (dWo : PySem.W.codeIn K cdWo "is_word" = true)
    (kWo : PySem.W.keepIn K (.ref fWo) = true)
    (aHo : PySem.W.nsIn K mainGlobals "is_house" = some (some (.ref fHo)))
    (lHo : K.lookup fHo = some ⟨ocHo, odHo, .func (PySem.W.fnOf "is_house" "is_house" (defArgs sHo) (defBody sHo) (defScope sHo) .none kVHo dcHo pmHo anHo cdHo ctHo), slHo⟩)
    (dHo : PySem.W.codeIn K cdHo "is_house" = true)
    (kHo : PySem.W.keepIn K (.ref fHo) = true)
    (aHp : PySem.W.nsIn K mainGlobals "is_house_pair" = some (some (.ref fHp)))
    (lHp : K.lookup fHp = some ⟨ocHp, odHp, .func (PySem.W.fnOf "is_house_pair" "is_house_pair" (defArgs sHp) (defBody sHp) (defScope sHp) .none kVHp dcHp pmHp anHp cdHp ctHp), slHp⟩)
    (dHp : PySem.W.codeIn K cdHp "is_house_pair" = true)
    (kHp : PySem.W.keepIn K (.ref fHp) = true)
    (aLa : PySem.W.nsIn K mainGlobals "can_be_label" = some (some (.ref fLa)))
    (lLa : K.lookup fLa = some ⟨ocLa, odLa, .func (PySem.W.fnOf "can_be_label" "can_be_label" (defArgs sLa) (defBody sLa) (defScope sLa) .none kVLa dcLa pmLa anLa cdLa ctLa), slLa⟩)
    (dLa : PySem.W.codeIn K cdLa "can_be_label" = true)
    (kLa : PySem.W.keepIn K (.ref fLa) = true)
    (aRd : PySem.W.nsIn K mainGlobals "is_road" = some (some (.ref fRd)))
    (lRd : K.lookup fRd = some ⟨ocRd, odRd, .func (PySem.W.fnOf "is_road" "is_road" (defArgs sRd) (defBody sRd) (defScope sRd) .none kVRd dcRd pmRd anRd cdRd ctRd), slRd⟩)
    (dRd : PySem.W.codeIn K cdRd "is_road" = true)
    (kRd : PySem.W.keepIn K (.ref fRd) = true)
    (aLb : PySem.W.nsIn K mainGlobals "is_label" = some (some (.ref fLb)))
    (lLb : K.lookup fLb = some ⟨ocLb, odLb, .func (PySem.W.fnOf "is_label" "is_label" (defArgs sLb) (defBody sLb) (defScope sLb) .none kVLb dcLb pmLb anLb cdLb ctLb), slLb⟩)
    (dLb : PySem.W.codeIn K cdLb "is_label" = true)
    (kLb : PySem.W.keepIn K (.ref fLb) = true)
    (aLs : PySem.W.nsIn K mainGlobals "is_labels" = some (some (.ref fLs)))
    (lLs : K.lookup fLs = some ⟨ocLs, odLs, .func (PySem.W.fnOf "is_labels" "is_labels" (defArgs sLs) (defBody sLs) (defScope sLs) .none kVLs dcLs pmLs anLs cdLs ctLs), slLs⟩)
    (dLs : PySem.W.codeIn K cdLs "is_labels" = true)
    (kLs : PySem.W.keepIn K (.ref fLs) = true)
    (aSg : PySem.W.nsIn K mainGlobals "is_sign" = some (some (.ref fSg)))
    (lSg : K.lookup fSg = some ⟨ocSg, odSg, .func (PySem.W.fnOf "is_sign" "is_sign" (defArgs sSg) (defBody sSg) (defScope sSg) .none kVSg dcSg pmSg anSg cdSg ctSg), slSg⟩)
    (dSg : PySem.W.codeIn K cdSg "is_sign" = true)
    (kSg : PySem.W.keepIn K (.ref fSg) = true)
    (aHd : PySem.W.nsIn K mainGlobals "is_head" = some (some (.ref fHd)))
    (lHd : K.lookup fHd = some ⟨ocHd, odHd, .func (PySem.W.fnOf "is_head" "is_head" (defArgs sHd) (defBody sHd) (defScope sHd) .none kVHd dcHd pmHd anHd cdHd ctHd), slHd⟩)
    (dHd : PySem.W.codeIn K cdHd "is_head" = true)
    (kHd : PySem.W.keepIn K (.ref fHd) = true)
    (aCh : PySem.W.nsIn K mainGlobals "is_choice" = some (some (.ref fCh)))
    (lCh : K.lookup fCh = some ⟨ocCh, odCh, .func (PySem.W.fnOf "is_choice" "is_choice" (defArgs sCh) (defBody sCh) (defScope sCh) .none kVCh dcCh pmCh anCh cdCh ctCh), slCh⟩)
    (dCh : PySem.W.codeIn K cdCh "is_choice" = true)
    (kCh : PySem.W.keepIn K (.ref fCh) = true)
    (aGr : PySem.W.nsIn K mainGlobals "is_group" = some (some (.ref fGr)))
    (lGr : K.lookup fGr = some ⟨ocGr, odGr, .func (PySem.W.fnOf "is_group" "is_group" (defArgs sGr) (defBody sGr) (defScope sGr) .none kVGr dcGr pmGr anGr cdGr ctGr), slGr⟩)
    (dGr : PySem.W.codeIn K cdGr "is_group" = true)
    (kGr : PySem.W.keepIn K (.ref fGr) = true)
    (aGs : PySem.W.nsIn K mainGlobals "is_groups" = some (some (.ref fGs)))
    (lGs : K.lookup fGs = some ⟨ocGs, odGs, .func (PySem.W.fnOf "is_groups" "is_groups" (defArgs sGs) (defBody sGs) (defScope sGs) .none kVGs dcGs pmGs anGs cdGs ctGs), slGs⟩)
    (dGs : PySem.W.codeIn K cdGs "is_groups" = true)
    (kGs : PySem.W.keepIn K (.ref fGs) = true)
    (aRw : PySem.W.nsIn K mainGlobals "is_row" = some (some (.ref fRw)))
    (lRw : K.lookup fRw = some ⟨ocRw, odRw, .func (PySem.W.fnOf "is_row" "is_row" (defArgs sRw) (defBody sRw) (defScope sRw) .none kVRw dcRw pmRw anRw cdRw ctRw), slRw⟩)
    (dRw : PySem.W.codeIn K cdRw "is_row" = true)
    (kRw : PySem.W.keepIn K (.ref fRw) = true)
    (aSh : PySem.W.nsIn K mainGlobals "is_shape" = some (some (.ref fSh)))
    (lSh : K.lookup fSh = some ⟨ocSh, odSh, .func (PySem.W.fnOf "is_shape" "is_shape" (defArgs sSh) (defBody sSh) (defScope sSh) .none kVSh dcSh pmSh anSh cdSh ctSh), slSh⟩)
    (dSh : PySem.W.codeIn K cdSh "is_shape" = true)
    (kSh : PySem.W.keepIn K (.ref fSh) = true)
    (aNN : PySem.W.nsIn K mainGlobals "need_net" = some (some (.ref fNN)))
    (lNN : K.lookup fNN = some ⟨ocNN, odNN, .func (PySem.W.fnOf "need_net" "need_net" (defArgs sNN) (defBody sNN) (defScope sNN) .none kVNN dcNN pmNN anNN cdNN ctNN), slNN⟩)
    (dNN : PySem.W.codeIn K cdNN "need_net" = true)
    (kNN : PySem.W.keepIn K (.ref fNN) = true)
    (aNR : PySem.W.nsIn K mainGlobals "need_roads" = some (some (.ref fNR)))
    (lNR : K.lookup fNR = some ⟨ocNR, odNR, .func (PySem.W.fnOf "need_roads" "need_roads" (defArgs sNR) (defBody sNR) (defScope sNR) .none kVNR dcNR pmNR anNR cdNR ctNR), slNR⟩)
    (dNR : PySem.W.codeIn K cdNR "need_roads" = true)
    (kNR : PySem.W.keepIn K (.ref fNR) = true)
    (aNL : PySem.W.nsIn K mainGlobals "need_labels" = some (some (.ref fNL)))
    (lNL : K.lookup fNL = some ⟨ocNL, odNL, .func (PySem.W.fnOf "need_labels" "need_labels" (defArgs sNL) (defBody sNL) (defScope sNL) .none kVNL dcNL pmNL anNL cdNL ctNL), slNL⟩)
    (dNL : PySem.W.codeIn K cdNL "need_labels" = true)
    (kNL : PySem.W.keepIn K (.ref fNL) = true)
    (aNW : PySem.W.nsIn K mainGlobals "need_rows" = some (some (.ref fNW)))
    (lNW : K.lookup fNW = some ⟨ocNW, odNW, .func (PySem.W.fnOf "need_rows" "need_rows" (defArgs sNW) (defBody sNW) (defScope sNW) .none kVNW dcNW pmNW anNW cdNW ctNW), slNW⟩)
    (dNW : PySem.W.codeIn K cdNW "need_rows" = true)
    (kNW : PySem.W.keepIn K (.ref fNW) = true)
    (aNS : PySem.W.nsIn K mainGlobals "need_shape" = some (some (.ref fNS)))
    (lNS : K.lookup fNS = some ⟨ocNS, odNS, .func (PySem.W.fnOf "need_shape" "need_shape" (defArgs sNS) (defBody sNS) (defScope sNS) .none kVNS dcNS pmNS anNS cdNS ctNS), slNS⟩)
    (dNS : PySem.W.codeIn K cdNS "need_shape" = true)
    (kNS : PySem.W.keepIn K (.ref fNS) = true)
    (aLe : PySem.W.nsIn K mainGlobals "leads" = some (some (.ref fLe)))
    (lLe : K.lookup fLe = some ⟨ocLe, odLe, .func (PySem.W.fnOf "leads" "leads" (defArgs sLe) (defBody sLe) (defScope sLe) .none kVLe dcLe pmLe anLe cdLe ctLe), slLe⟩)
    (dLe : PySem.W.codeIn K cdLe "leads" = true)
    (kLe : PySem.W.keepIn K (.ref fLe) = true)
    (aMe : PySem.W.nsIn K mainGlobals "may_end" = some (some (.ref fMe)))
    (lMe : K.lookup fMe = some ⟨ocMe, odMe, .func (PySem.W.fnOf "may_end" "may_end" (defArgs sMe) (defBody sMe) (defScope sMe) .none kVMe dcMe pmMe anMe cdMe ctMe), slMe⟩)
    (dMe : PySem.W.codeIn K cdMe "may_end" = true)
    (kMe : PySem.W.keepIn K (.ref fMe) = true)
    (aHs : PySem.W.nsIn K mainGlobals "has_shape" = some (some (.ref fHs)))
    (lHs : K.lookup fHs = some ⟨ocHs, odHs, .func (PySem.W.fnOf "has_shape" "has_shape" (defArgs sHs) (defBody sHs) (defScope sHs) .none kVHs dcHs pmHs anHs cdHs ctHs), slHs⟩)
    (dHs : PySem.W.codeIn K cdHs "has_shape" = true)
    (kHs : PySem.W.keepIn K (.ref fHs) = true)
    (aFi : PySem.W.nsIn K mainGlobals "fits" = some (some (.ref fFi)))
    (lFi : K.lookup fFi = some ⟨ocFi, odFi, .func (PySem.W.fnOf "fits" "fits" (defArgs sFi) (defBody sFi) (defScope sFi) .none kVFi dcFi pmFi anFi cdFi ctFi), slFi⟩)
    (dFi : PySem.W.codeIn K cdFi "fits" = true)
    (kFi : PySem.W.keepIn K (.ref fFi) = true)
    (aLk : PySem.W.nsIn K mainGlobals "_law_like" = some (some (.ref fLk)))
    (lLk : K.lookup fLk = some ⟨ocLk, odLk, .func (PySem.W.fnOf "_law_like" "_law_like" (defArgs sLk) (defBody sLk) (defScope sLk) .none kVLk dcLk pmLk anLk cdLk ctLk), slLk⟩)
    (dLk : PySem.W.codeIn K cdLk "_law_like" = true)
    (kLk : PySem.W.keepIn K (.ref fLk) = true)
    (aLW : PySem.W.nsIn K mainGlobals "_law_word" = some (some (.ref fLW)))
    (lLW : K.lookup fLW = some ⟨ocLW, odLW, .func (PySem.W.fnOf "_law_word" "_law_word" (defArgs sLW) (defBody sLW) (defScope sLW) .none kVLW dcLW pmLW anLW cdLW ctLW), slLW⟩)
    (dLW : PySem.W.codeIn K cdLW "_law_word" = true)
    (kLW : PySem.W.keepIn K (.ref fLW) = true)
    (aLG : PySem.W.nsIn K mainGlobals "_law_groups" = some (some (.ref fLG)))
    (lLG : K.lookup fLG = some ⟨ocLG, odLG, .func (PySem.W.fnOf "_law_groups" "_law_groups" (defArgs sLG) (defBody sLG) (defScope sLG) .none kVLG dcLG pmLG anLG cdLG ctLG), slLG⟩)
    (dLG : PySem.W.codeIn K cdLG "_law_groups" = true)
    (kLG : PySem.W.keepIn K (.ref fLG) = true)
    (aLN : PySem.W.nsIn K mainGlobals "_law_net" = some (some (.ref fLN)))
    (lLN : K.lookup fLN = some ⟨ocLN, odLN, .func (PySem.W.fnOf "_law_net" "_law_net" (defArgs sLN) (defBody sLN) (defScope sLN) .none kVLN dcLN pmLN anLN cdLN ctLN), slLN⟩)
    (dLN : PySem.W.codeIn K cdLN "_law_net" = true)
    (kLN : PySem.W.keepIn K (.ref fLN) = true)
    (aLS : PySem.W.nsIn K mainGlobals "_law_shape" = some (some (.ref fLS)))
    (lLS : K.lookup fLS = some ⟨ocLS, odLS, .func (PySem.W.fnOf "_law_shape" "_law_shape" (defArgs sLS) (defBody sLS) (defScope sLS) .none kVLS dcLS pmLS anLS cdLS ctLS), slLS⟩)
    (dLS : PySem.W.codeIn K cdLS "_law_shape" = true)
    (kLS : PySem.W.keepIn K (.ref fLS) = true)
    (aSt : PySem.W.nsIn K mainGlobals "_law_stacks" = some (some (.ref fSt)))
    (lSt : K.lookup fSt = some ⟨ocSt, odSt, .func (PySem.W.fnOf "_law_stacks" "_law_stacks" (defArgs sSt) (defBody sSt) (defScope sSt) .none kVSt dcSt pmSt anSt cdSt ctSt), slSt⟩)
    (dSt : PySem.W.codeIn K cdSt "_law_stacks" = true)
    (kSt : PySem.W.keepIn K (.ref fSt) = true)
    (aHe : PySem.W.nsIn K mainGlobals "_law_heard" = some (some (.ref fHe)))
    (lHe : K.lookup fHe = some ⟨ocHe, odHe, .func (PySem.W.fnOf "_law_heard" "_law_heard" (defArgs sHe) (defBody sHe) (defScope sHe) .none kVHe dcHe pmHe anHe cdHe ctHe), slHe⟩)
    (dHe : PySem.W.codeIn K cdHe "_law_heard" = true)
    (kHe : PySem.W.keepIn K (.ref fHe) = true)
    (aCu : PySem.W.nsIn K mainGlobals "_law_cut" = some (some (.ref fCu)))
    (lCu : K.lookup fCu = some ⟨ocCu, odCu, .func (PySem.W.fnOf "_law_cut" "_law_cut" (defArgs sCu) (defBody sCu) (defScope sCu) .none kVCu dcCu pmCu anCu cdCu ctCu), slCu⟩)
    (dCu : PySem.W.codeIn K cdCu "_law_cut" = true)
    (kCu : PySem.W.keepIn K (.ref fCu) = true)
    (aW : PySem.W.nsIn K mainGlobals "law" = some (some (.ref fW)))
    (lW : K.lookup fW = some ⟨ocW, odW, .func (PySem.W.fnOf "law" "law" (defArgs sLaw) (defBody sLaw) (defScope sLaw) .none kVW dcW pmW anW (.ref cc) ctW), slW⟩)
    (dW : PySem.W.codeIn K (.ref cc) "law" = true)
    (kW : PySem.W.keepIn K (.ref fW) = true)
    (lcc : K.lookup cc = some ⟨occ, odc, .fields vsc, slc⟩)
    (v11 : (vsc[11]? : Option Value) = some (.ref PT))
    (noK : K.lookup PT = none)
    (aNE : PySem.W.nsIn K mainGlobals "NetError" = some (some (.ref cNE)))
    (aTG : PySem.W.nsIn K mainGlobals "TooGreat" = some (some (.ref cT)))
    (aC1 : PySem.W.nsIn K mainGlobals "BadNet" = some (some (.ref c1)))
    (aC2 : PySem.W.nsIn K mainGlobals "BadNumber" = some (some (.ref c2)))
    (aC3 : PySem.W.nsIn K mainGlobals "BadRoad" = some (some (.ref c3)))
    (aC4 : PySem.W.nsIn K mainGlobals "BadHead" = some (some (.ref c4)))
    (aC5 : PySem.W.nsIn K mainGlobals "BadFailed" = some (some (.ref c5)))
    (aC6 : PySem.W.nsIn K mainGlobals "BadParcel" = some (some (.ref c6)))
    (aC7 : PySem.W.nsIn K mainGlobals "BadChoices" = some (some (.ref c7)))
    (aC8 : PySem.W.nsIn K mainGlobals "BadShape" = some (some (.ref c8)))
    (aC9 : PySem.W.nsIn K mainGlobals "BadGoal" = some (some (.ref c9)))
    (aC10 : PySem.W.nsIn K mainGlobals "BadPaper" = some (some (.ref c10)))
    (xL : K.lookup c8 = some (excClassObj nm8 q8 c8 N8 bs8 [.ref cNE, .type "ValueError", .type "Exception", .type "BaseException", .type "object"] true sn8 sub8 ab8 col8 dd8 m08 m18 m28 m38 m58 "ValueError.__new__"))
    (sa8 : PySem.W.findIn K (.ref c8) "__setattr__" = some (some (.builtin "object.__setattr__")))
    (ga8 : PySem.W.findIn K (.ref c8) "__getattribute__" = some (some (.builtin "BaseException.__getattribute__")))
    (gg8 : PySem.W.findIn K (.ref c8) "__getattr__" = some none)
    (ex8 : PySem.W.subIn K (.ref c8) (.type "BaseException") = some true)
    (kp8 : PySem.W.keepIn K (.ref c8) = true)
    (hd8 : PySem.W.hasDictIn K c8 = true)
    (ha8 : PySem.W.findIn K (.ref c8) "__class__" = some (some (.builtin "object.__class__")))
    (hm8 : PySem.W.mroIn K c8 (.type "object") = some true)
    (ai8 : PySem.W.findIn K (.ref c8) "__init__" = some (some (.ref fI)))
    (ti8 : PySem.W.typeIn K (.ref fI) = some (.type "function"))
    (tc8 : PySem.W.typeIn K (.ref c8) = some (.type "type"))
    (lI : K.lookup fI = some ⟨ocI, odI, .func (PySem.W.fnOf "__init__" "BadShape.__init__" (defArgs sIS) (defBody sIS) (defScope sIS) .none kVI dcI pmI anI cdI ctI), slI⟩)
    (dI : PySem.W.codeIn K cdI "BadShape.__init__" = true)
    (kI : PySem.W.keepIn K (.ref fI) = true)
    (fr8 : PySem.W.findIn K (.ref c8) "value" = some none)
    (hn : PySem.W.specialIn K (.builtin "object.__class__") "__get__" = some (some (.builtin "getset_descriptor.__get__")))
    (ht : PySem.W.takesIn K (.builtin "object.__class__") = some true)
    (z_isinstance : PySem.W.nsIn K mainGlobals "isinstance" = some none)
    (z_len : PySem.W.nsIn K mainGlobals "len" = some none)
    (z_set : PySem.W.nsIn K mainGlobals "set" = some none)
    (z_all : PySem.W.nsIn K mainGlobals "all" = some none)
    (z_any : PySem.W.nsIn K mainGlobals "any" = some none)
    (z_int : PySem.W.nsIn K mainGlobals "int" = some none)
    (z_bool : PySem.W.nsIn K mainGlobals "bool" = some none)
    (z_str : PySem.W.nsIn K mainGlobals "str" = some none)
    (z_tuple : PySem.W.nsIn K mainGlobals "tuple" = some none)
    (z_list : PySem.W.nsIn K mainGlobals "list" = some none)
    (z_enumerate : PySem.W.nsIn K mainGlobals "enumerate" = some none)
    (z_range : PySem.W.nsIn K mainGlobals "range" = some none)
    (z_sorted : PySem.W.nsIn K mainGlobals "sorted" = some none)
    (z_zip : PySem.W.nsIn K mainGlobals "zip" = some none)
    (z_repr : PySem.W.nsIn K mainGlobals "repr" = some none)
    (z_ValueError : PySem.W.nsIn K mainGlobals "ValueError" = some none)
    (m_MOST_HOUSE : PySem.W.nsIn K mainGlobals "MOST_HOUSE" = some (some (.int 7 t_MOST_HOUSE)))
    (m_MOST_LETTERS : PySem.W.nsIn K mainGlobals "MOST_LETTERS" = some (some (.int 8 t_MOST_LETTERS)))
    (m_MOST_WORD : PySem.W.nsIn K mainGlobals "MOST_WORD" = some (some (.int 3 t_MOST_WORD)))
    (m_MOST_CHOICES : PySem.W.nsIn K mainGlobals "MOST_CHOICES" = some (some (.int 3 t_MOST_CHOICES)))
    (m_MOST_GROUPS : PySem.W.nsIn K mainGlobals "MOST_GROUPS" = some (some (.int 3 t_MOST_GROUPS)))
    (m_MOST_ITEMS : PySem.W.nsIn K mainGlobals "MOST_ITEMS" = some (some (.int 6 t_MOST_ITEMS)))
    (m_MOST_ROADS : PySem.W.nsIn K mainGlobals "MOST_ROADS" = some (some (.int 10 t_MOST_ROADS)))
    (m_MOST_LABELS : PySem.W.nsIn K mainGlobals "MOST_LABELS" = some (some (.int 4 t_MOST_LABELS)))
    (m_MOST_STACK : PySem.W.nsIn K mainGlobals "MOST_STACK" = some (some (.int 3000 t_MOST_STACK)))
    (kany : PySem.W.exmAny K (.ref c8) [.ref cNE, .ref cT] = some true)
    (kT : PySem.W.kitOne K (.ref c8) (.ref cT) = some false)
    (kk1 : PySem.W.kitOne K (.ref c8) (.ref c1) = some false)
    (kk2 : PySem.W.kitOne K (.ref c8) (.ref c2) = some false)
    (kk3 : PySem.W.kitOne K (.ref c8) (.ref c3) = some false)
    (kk4 : PySem.W.kitOne K (.ref c8) (.ref c4) = some false)
    (kk5 : PySem.W.kitOne K (.ref c8) (.ref c5) = some false)
    (kk6 : PySem.W.kitOne K (.ref c8) (.ref c6) = some false)
    (kk7 : PySem.W.kitOne K (.ref c8) (.ref c7) = some false)
    (kk8 : PySem.W.kitOne K (.ref c8) (.ref c8) = some true)
    (kk9 : PySem.W.kitOne K (.ref c8) (.ref c9) = some false)
    (kk10 : PySem.W.kitOne K (.ref c8) (.ref c10) = some false)
    (kVE : PySem.W.kitOne K (.ref c8) (.type "ValueError") = some true) :
    ∃ (fd : FuncData) (c T : Addr), PySem.W.tabIn K "law" = some (c, T) ∧ K.lookup T = none ∧ (∀ (s : Shared) (v : Value), BindsTo s fd ⟨[v], []⟩ [("script", v)]) ∧ ∀ base : Heap, K.In base → base.Ns mainGlobals mg → TabB base mg c T → FnG l.prog w K mg base CX0 12 fa fd ["script"] (spLaw K T) := by
  have e := hfa.symm.trans (PySem.W.mg_of X G aW)
  cases e
  have tab : PySem.W.tabIn K "law" = some (cc, PT) := by
    unfold PySem.W.tabIn
    rw [aW]
    dsimp only
    rw [lW]
    dsimp only [PySem.W.fnOf]
    rw [lcc]
    dsimp only
    rw [v11]
  have FM := fun_mk (st := sMix) lM dM kM
  have bM := FM.binds (ps := ["cell", "n"]) fun _ _ _ _ _ _ us hl => match us, hl with | [_, _], _ => rfl
  have CM : Cal K mg "_law_mixed" fM _ ["cell", "n"] := ⟨PySem.W.mg_of X G aM, kM, bM⟩
  have FF := fun_mk (st := sFol) lF dF kF
  have bF := FF.binds (ps := ["script"]) fun _ _ _ _ _ _ us hl => match us, hl with | [_], _ => rfl
  have CF : Cal K mg "_law_folded" fF _ ["script"] := ⟨PySem.W.mg_of X G aF, kF, bF⟩
  have FDr := fun_mk (st := sDra) lDr dDr kDr
  have bDr := FDr.binds (ps := ["m", "limit"]) fun _ _ _ _ _ _ us hl => match us, hl with | [_, _], _ => rfl
  have CDr : Cal K mg "_law_draw" fDr _ ["m", "limit"] := ⟨PySem.W.mg_of X G aDr, kDr, bDr⟩
  have FBeg := fun_mk (st := sBeg) lBeg dBeg kBeg
  have bBeg := FBeg.binds (ps := ["script"]) fun _ _ _ _ _ _ us hl => match us, hl with | [_], _ => rfl
  have CBeg : Cal K mg "_law_begun" fBeg _ ["script"] := ⟨PySem.W.mg_of X G aBeg, kBeg, bBeg⟩
  have FNu := fun_mk (st := sNu) lNu dNu kNu
  have bNu := FNu.binds (ps := ["value", "least", "greatest"]) fun _ _ _ _ _ _ us hl => match us, hl with | [_, _, _], _ => rfl
  have CNu : Cal K mg "is_number" fNu _ ["value", "least", "greatest"] := ⟨PySem.W.mg_of X G aNu, kNu, bNu⟩
  have FTu := fun_mk (st := sTu) lTu dTu kTu
  have bTu := FTu.binds (ps := ["value", "least", "greatest"]) fun _ _ _ _ _ _ us hl => match us, hl with | [_, _, _], _ => rfl
  have CTu : Cal K mg "is_tuple" fTu _ ["value", "least", "greatest"] := ⟨PySem.W.mg_of X G aTu, kTu, bTu⟩
  have FPa := fun_mk (st := sPa) lPa dPa kPa
  have bPa := FPa.binds (ps := ["value"]) fun _ _ _ _ _ _ us hl => match us, hl with | [_], _ => rfl
  have CPa : Cal K mg "is_pair" fPa _ ["value"] := ⟨PySem.W.mg_of X G aPa, kPa, bPa⟩
  have FWo := fun_mk (st := sWo) lWo dWo kWo
  have bWo := FWo.binds (ps := ["value"]) fun _ _ _ _ _ _ us hl => match us, hl with | [_], _ => rfl
  have CWo : Cal K mg "is_word" fWo _ ["value"] := ⟨PySem.W.mg_of X G aWo, kWo, bWo⟩
  have FHo := fun_mk (st := sHo) lHo dHo kHo
  have bHo := FHo.binds (ps := ["value"]) fun _ _ _ _ _ _ us hl => match us, hl with | [_], _ => rfl
  have CHo : Cal K mg "is_house" fHo _ ["value"] := ⟨PySem.W.mg_of X G aHo, kHo, bHo⟩
  have FHp := fun_mk (st := sHp) lHp dHp kHp
  have bHp := FHp.binds (ps := ["value"]) fun _ _ _ _ _ _ us hl => match us, hl with | [_], _ => rfl
  have CHp : Cal K mg "is_house_pair" fHp _ ["value"] := ⟨PySem.W.mg_of X G aHp, kHp, bHp⟩
  have FLa := fun_mk (st := sLa) lLa dLa kLa
  have bLa := FLa.binds (ps := ["value"]) fun _ _ _ _ _ _ us hl => match us, hl with | [_], _ => rfl
  have CLa : Cal K mg "can_be_label" fLa _ ["value"] := ⟨PySem.W.mg_of X G aLa, kLa, bLa⟩
  have FRd := fun_mk (st := sRd) lRd dRd kRd
  have bRd := FRd.binds (ps := ["roads", "value"]) fun _ _ _ _ _ _ us hl => match us, hl with | [_, _], _ => rfl
  have CRd : Cal K mg "is_road" fRd _ ["roads", "value"] := ⟨PySem.W.mg_of X G aRd, kRd, bRd⟩
  have FLb := fun_mk (st := sLb) lLb dLb kLb
  have bLb := FLb.binds (ps := ["labels", "value"]) fun _ _ _ _ _ _ us hl => match us, hl with | [_, _], _ => rfl
  have CLb : Cal K mg "is_label" fLb _ ["labels", "value"] := ⟨PySem.W.mg_of X G aLb, kLb, bLb⟩
  have FLs := fun_mk (st := sLs) lLs dLs kLs
  have bLs := FLs.binds (ps := ["labels", "value", "most"]) fun _ _ _ _ _ _ us hl => match us, hl with | [_, _, _], _ => rfl
  have CLs : Cal K mg "is_labels" fLs _ ["labels", "value", "most"] := ⟨PySem.W.mg_of X G aLs, kLs, bLs⟩
  have FSg := fun_mk (st := sSg) lSg dSg kSg
  have bSg := FSg.binds (ps := ["labels", "value"]) fun _ _ _ _ _ _ us hl => match us, hl with | [_, _], _ => rfl
  have CSg : Cal K mg "is_sign" fSg _ ["labels", "value"] := ⟨PySem.W.mg_of X G aSg, kSg, bSg⟩
  have FHd := fun_mk (st := sHd) lHd dHd kHd
  have bHd := FHd.binds (ps := ["roads", "labels", "value"]) fun _ _ _ _ _ _ us hl => match us, hl with | [_, _, _], _ => rfl
  have CHd : Cal K mg "is_head" fHd _ ["roads", "labels", "value"] := ⟨PySem.W.mg_of X G aHd, kHd, bHd⟩
  have FCh := fun_mk (st := sCh) lCh dCh kCh
  have bCh := FCh.binds (ps := ["roads", "labels", "road", "value"]) fun _ _ _ _ _ _ us hl => match us, hl with | [_, _, _, _], _ => rfl
  have CCh : Cal K mg "is_choice" fCh _ ["roads", "labels", "road", "value"] := ⟨PySem.W.mg_of X G aCh, kCh, bCh⟩
  have FGr := fun_mk (st := sGr) lGr dGr kGr
  have bGr := FGr.binds (ps := ["roads", "labels", "road", "value"]) fun _ _ _ _ _ _ us hl => match us, hl with | [_, _, _, _], _ => rfl
  have CGr : Cal K mg "is_group" fGr _ ["roads", "labels", "road", "value"] := ⟨PySem.W.mg_of X G aGr, kGr, bGr⟩
  have FGs := fun_mk (st := sGs) lGs dGs kGs
  have bGs := FGs.binds (ps := ["roads", "labels", "road", "value"]) fun _ _ _ _ _ _ us hl => match us, hl with | [_, _, _, _], _ => rfl
  have CGs : Cal K mg "is_groups" fGs _ ["roads", "labels", "road", "value"] := ⟨PySem.W.mg_of X G aGs, kGs, bGs⟩
  have FRw := fun_mk (st := sRw) lRw dRw kRw
  have bRw := FRw.binds (ps := ["roads", "labels", "value"]) fun _ _ _ _ _ _ us hl => match us, hl with | [_, _, _], _ => rfl
  have CRw : Cal K mg "is_row" fRw _ ["roads", "labels", "value"] := ⟨PySem.W.mg_of X G aRw, kRw, bRw⟩
  have FSh := fun_mk (st := sSh) lSh dSh kSh
  have bSh := FSh.binds (ps := ["labels", "value"]) fun _ _ _ _ _ _ us hl => match us, hl with | [_, _], _ => rfl
  have CSh : Cal K mg "is_shape" fSh _ ["labels", "value"] := ⟨PySem.W.mg_of X G aSh, kSh, bSh⟩
  have FNN := fun_mk (st := sNN) lNN dNN kNN
  have bNN := FNN.binds (ps := ["net"]) fun _ _ _ _ _ _ us hl => match us, hl with | [_], _ => rfl
  have CNN : Cal K mg "need_net" fNN _ ["net"] := ⟨PySem.W.mg_of X G aNN, kNN, bNN⟩
  have FNR := fun_mk (st := sNR) lNR dNR kNR
  have bNR := FNR.binds (ps := ["roads"]) fun _ _ _ _ _ _ us hl => match us, hl with | [_], _ => rfl
  have CNR : Cal K mg "need_roads" fNR _ ["roads"] := ⟨PySem.W.mg_of X G aNR, kNR, bNR⟩
  have FNL := fun_mk (st := sNL) lNL dNL kNL
  have bNL := FNL.binds (ps := ["labels"]) fun _ _ _ _ _ _ us hl => match us, hl with | [_], _ => rfl
  have CNL : Cal K mg "need_labels" fNL _ ["labels"] := ⟨PySem.W.mg_of X G aNL, kNL, bNL⟩
  have FNW := fun_mk (st := sNW) lNW dNW kNW
  have bNW := FNW.binds (ps := ["roads", "labels", "rows"]) fun _ _ _ _ _ _ us hl => match us, hl with | [_, _, _], _ => rfl
  have CNW : Cal K mg "need_rows" fNW _ ["roads", "labels", "rows"] := ⟨PySem.W.mg_of X G aNW, kNW, bNW⟩
  have FNS := fun_mk (st := sNS) lNS dNS kNS
  have bNS := FNS.binds (ps := ["net", "shape"]) fun _ _ _ _ _ _ us hl => match us, hl with | [_, _], _ => rfl
  have CNS : Cal K mg "need_shape" fNS _ ["net", "shape"] := ⟨PySem.W.mg_of X G aNS, kNS, bNS⟩
  have FLe := fun_mk (st := sLe) lLe dLe kLe
  have bLe := FLe.binds (ps := ["shape", "done", "label"]) fun _ _ _ _ _ _ us hl => match us, hl with | [_, _, _], _ => rfl
  have CLe : Cal K mg "leads" fLe _ ["shape", "done", "label"] := ⟨PySem.W.mg_of X G aLe, kLe, bLe⟩
  have FMe := fun_mk (st := sMe) lMe dMe kMe
  have bMe := FMe.binds (ps := ["shape", "done"]) fun _ _ _ _ _ _ us hl => match us, hl with | [_, _], _ => rfl
  have CMe : Cal K mg "may_end" fMe _ ["shape", "done"] := ⟨PySem.W.mg_of X G aMe, kMe, bMe⟩
  have FHs := fun_mk (st := sHs) lHs dHs kHs
  have bHs := FHs.binds (ps := ["shape", "stack"]) fun _ _ _ _ _ _ us hl => match us, hl with | [_, _], _ => rfl
  have CHs : Cal K mg "has_shape" fHs _ ["shape", "stack"] := ⟨PySem.W.mg_of X G aHs, kHs, bHs⟩
  have FFi := fun_mk (st := sFi) lFi dFi kFi
  have bFi := FFi.binds (ps := ["net", "shape", "stack"]) fun _ _ _ _ _ _ us hl => match us, hl with | [_, _, _], _ => rfl
  have CFi : Cal K mg "fits" fFi _ ["net", "shape", "stack"] := ⟨PySem.W.mg_of X G aFi, kFi, bFi⟩
  have FLk := fun_mk (st := sLk) lLk dLk kLk
  have bLk := FLk.binds (ps := ["heard", "due"]) fun _ _ _ _ _ _ us hl => match us, hl with | [_, _], _ => rfl
  have CLk : Cal K mg "_law_like" fLk _ ["heard", "due"] := ⟨PySem.W.mg_of X G aLk, kLk, bLk⟩
  have FLW := fun_mk (st := sLW) lLW dLW kLW
  have bLW := FLW.binds (ps := ["m", "labels", "most"]) fun _ _ _ _ _ _ us hl => match us, hl with | [_, _, _], _ => rfl
  have CLW : Cal K mg "_law_word" fLW _ ["m", "labels", "most"] := ⟨PySem.W.mg_of X G aLW, kLW, bLW⟩
  have FLG := fun_mk (st := sLG) lLG dLG kLG
  have bLG := FLG.binds (ps := ["m", "pairs", "labels", "road"]) fun _ _ _ _ _ _ us hl => match us, hl with | [_, _, _, _], _ => rfl
  have CLG : Cal K mg "_law_groups" fLG _ ["m", "pairs", "labels", "road"] := ⟨PySem.W.mg_of X G aLG, kLG, bLG⟩
  have FLN := fun_mk (st := sLN) lLN dLN kLN
  have bLN := FLN.binds (ps := ["m", "roads_so", "houses_so", "labels_so"]) fun _ _ _ _ _ _ us hl => match us, hl with | [_, _, _, _], _ => rfl
  have CLN : Cal K mg "_law_net" fLN _ ["m", "roads_so", "houses_so", "labels_so"] := ⟨PySem.W.mg_of X G aLN, kLN, bLN⟩
  have FLS := fun_mk (st := sLS) lLS dLS kLS
  have bLS := FLS.binds (ps := ["m", "labels", "most"]) fun _ _ _ _ _ _ us hl => match us, hl with | [_, _, _], _ => rfl
  have CLS : Cal K mg "_law_shape" fLS _ ["m", "labels", "most"] := ⟨PySem.W.mg_of X G aLS, kLS, bLS⟩
  have FSt := fun_mk (st := sSt) lSt dSt kSt
  have bSt := FSt.binds (ps := ["labels", "most"]) fun _ _ _ _ _ _ us hl => match us, hl with | [_, _], _ => rfl
  have CSt : Cal K mg "_law_stacks" fSt _ ["labels", "most"] := ⟨PySem.W.mg_of X G aSt, kSt, bSt⟩
  have FHe := fun_mk (st := sHe) lHe dHe kHe
  have bHe := FHe.binds (ps := ["call"]) fun _ _ _ _ _ _ us hl => match us, hl with | [_], _ => rfl
  have CHe : Cal K mg "_law_heard" fHe _ ["call"] := ⟨PySem.W.mg_of X G aHe, kHe, bHe⟩
  have FCu := fun_mk (st := sCu) lCu dCu kCu
  have bCu := FCu.binds (ps := ["shape", "stack"]) fun _ _ _ _ _ _ us hl => match us, hl with | [_, _], _ => rfl
  have CCu : Cal K mg "_law_cut" fCu _ ["shape", "stack"] := ⟨PySem.W.mg_of X G aCu, kCu, bCu⟩
  have FW := fun_mk (st := sLaw) lW dW kW
  have FI := fun_mk (st := sIS) lI dI kI
  have X8 : XT K "ValueError" "ValueError.__new__" "ValueError.__init__" [.type "ValueError", .type "Exception", .type "BaseException", .type "object"] c8 :=
    { F := PySem.F.excBase_ValueError, SF := PySem.F.store_ValueError, te := rfl, cls := ⟨nm8, q8, N8, bs8, [cNE], sn8, sub8, ab8, col8, dd8, m08, m18, m28, m38, m58, xL⟩, sa := sa8, ga := ga8, gg := gg8, ex := ex8, kp := kp8, hd := hd8, ha := ha8, hn := hn, ht := ht, hm := hm8 }
  have bI := FI.binds (ps := ["self", "value"]) fun _ _ _ _ _ _ us hl => match us, hl with | [_, _], _ => rfl
  have O8 : Own K mg "BadShape" "ValueError" "ValueError.__new__" "ValueError.__init__" PySem.HandSPX.veTail c8 fI _ ["self", "value"] := ⟨X8, PySem.W.mg_of X G aC8, ai8, ti8, bI⟩
  have T : Tx mg := ⟨PySem.W.mg_none_of X G z_int, PySem.W.mg_none_of X G z_range, PySem.W.mg_none_of X G z_enumerate, PySem.W.mg_none_of X G z_len⟩
  have TD : TxD K mg fM := { toTx := T, gM := PySem.W.mg_of X G aM, kM := kM }
  have TBt : Bt mg := { isi := PySem.W.mg_none_of X G z_isinstance, len := PySem.W.mg_none_of X G z_len, set := PySem.W.mg_none_of X G z_set, all := PySem.W.mg_none_of X G z_all, any := PySem.W.mg_none_of X G z_any, int := PySem.W.mg_none_of X G z_int, bool := PySem.W.mg_none_of X G z_bool, str := PySem.W.mg_none_of X G z_str, tuple := PySem.W.mg_none_of X G z_tuple, list := PySem.W.mg_none_of X G z_list, enum := PySem.W.mg_none_of X G z_enumerate, range := PySem.W.mg_none_of X G z_range, sorted := PySem.W.mg_none_of X G z_sorted, zip := PySem.W.mg_none_of X G z_zip, h7 := ⟨_, PySem.W.mg_of X G m_MOST_HOUSE⟩, l8 := ⟨_, PySem.W.mg_of X G m_MOST_LETTERS⟩, w3 := ⟨_, PySem.W.mg_of X G m_MOST_WORD⟩, c3 := ⟨_, PySem.W.mg_of X G m_MOST_CHOICES⟩, g3 := ⟨_, PySem.W.mg_of X G m_MOST_GROUPS⟩, i6 := ⟨_, PySem.W.mg_of X G m_MOST_ITEMS⟩, r10 := ⟨_, PySem.W.mg_of X G m_MOST_ROADS⟩, l4 := ⟨_, PySem.W.mg_of X G m_MOST_LABELS⟩, s3 := ⟨_, PySem.W.mg_of X G m_MOST_STACK⟩ }
  have TH : Th K mg "ValueError" "ValueError.__new__" "ValueError.__init__" [.type "ValueError", .type "Exception", .type "BaseException", .type "object"] cNE cT c1 c2 c3 c4 c5 c6 c7 c8 c9 c10 := { gN := PySem.W.mg_of X G aNE, gT := PySem.W.mg_of X G aTG, g1 := PySem.W.mg_of X G aC1, g2 := PySem.W.mg_of X G aC2, g3 := PySem.W.mg_of X G aC3, g4 := PySem.W.mg_of X G aC4, g5 := PySem.W.mg_of X G aC5, g6 := PySem.W.mg_of X G aC6, g7 := PySem.W.mg_of X G aC7, g8 := PySem.W.mg_of X G aC8, g9 := PySem.W.mg_of X G aC9, g10 := PySem.W.mg_of X G aC10, ve := PySem.W.mg_none_of X G z_ValueError, any := kany, kT := kT, k1 := kk1, k2 := kk2, k3 := kk3, k4 := kk4, k5 := kk5, k6 := kk6, k7 := kk7, k8 := kk8, k9 := kk9, k10 := kk10, kV := kVE, x := X8, fr := fr8 }
  refine ⟨PySem.W.fnOf "law" "law" (defArgs sLaw) (defBody sLaw) (defScope sLaw) .none kVW dcW pmW anW (.ref cc) ctW, cc, PT, tab, noK, ?_, fun base _ _ TB => ?_⟩
  · exact fun s v => .of_eq rfl
  have GDr : FnOk l.prog w K mg base CX0 2 fDr _ ["m", "limit"] spDra := ok_dra FDr TD FM bM
  have GBeg : FnOk l.prog w K mg base CX0 2 fBeg _ ["script"] (spBeg K) := ok_beg FBeg T (PySem.W.mg_of X G aF) kF FF bF
  have GNu : FnOk l.prog w K mg base CX0 1 fNu _ ["value", "least", "greatest"] spNu := ok_Nu FNu TBt 
  have GTu : FnOk l.prog w K mg base CX0 1 fTu _ ["value", "least", "greatest"] (spTu K) := ok_Tu FTu TBt 
  have GPa : FnOk l.prog w K mg base CX0 2 fPa _ ["value"] (spPa K) := ok_Pa FPa TBt CTu GTu
  have GWo : FnOk l.prog w K mg base CX0 1 fWo _ ["value"] spWo := ok_Wo FWo TBt 
  have GHo : FnOk l.prog w K mg base CX0 2 fHo _ ["value"] spHo := ok_Ho FHo TBt CNu GNu
  have GHp : FnOk l.prog w K mg base CX0 3 fHp _ ["value"] (spHp K) := ok_Hp FHp TBt CPa GPa CHo GHo
  have GLa : FnOk l.prog w K mg base CX0 2 fLa _ ["value"] spWo := ok_La FLa TBt CWo GWo
  have GRd : FnOk l.prog w K mg base CX0 2 fRd _ ["roads", "value"] (spRd K) := ok_Rd FRd TBt CNu GNu
  have GLb : FnOk l.prog w K mg base CX0 1 fLb _ ["labels", "value"] (spLb K) := ok_Lb FLb TBt 
  have GLs : FnOk l.prog w K mg base CX0 2 fLs _ ["labels", "value", "most"] (spLs K) := ok_Ls FLs TBt CTu GTu CLb GLb
  have GSg : FnOk l.prog w K mg base CX0 1 fSg _ ["labels", "value"] (spSg K) := ok_Sg FSg TBt 
  have GHd : FnOk l.prog w K mg base CX0 3 fHd _ ["roads", "labels", "value"] (spHd K) := ok_Hd FHd TBt CPa GPa CRd GRd CSg GSg
  have GCh : FnOk l.prog w K mg base CX0 3 fCh _ ["roads", "labels", "road", "value"] (spCh K) := ok_Ch FCh TBt CPa GPa CRd GRd CLs GLs
  have GGr : FnOk l.prog w K mg base CX0 4 fGr _ ["roads", "labels", "road", "value"] (spGr K) := ok_Gr FGr TBt CTu GTu CCh GCh
  have GGs : FnOk l.prog w K mg base CX0 5 fGs _ ["roads", "labels", "road", "value"] (spGs K) := ok_Gs FGs TBt CTu GTu CGr GGr
  have GRw : FnOk l.prog w K mg base CX0 6 fRw _ ["roads", "labels", "value"] (spRw K) := ok_Rw FRw TBt CPa GPa CHd GHd CGs GGs
  have GSh : FnOk l.prog w K mg base CX0 2 fSh _ ["labels", "value"] (spSh K) := ok_Sh FSh TBt CTu GTu CLb GLb
  have GNR : FnOk l.prog w K mg base CX0 4 fNR _ ["roads"] (spNR K) := ok_NR FNR TBt CTu GTu CHp GHp
  have GNL : FnOk l.prog w K mg base CX0 3 fNL _ ["labels"] (spNL K) := ok_NL FNL TBt CTu GTu CLa GLa
  have GNW : FnOk l.prog w K mg base CX0 7 fNW _ ["roads", "labels", "rows"] (spNW K) := ok_NW FNW TBt CTu GTu CRw GRw
  have GNN : FnOk l.prog w K mg base CX0 8 fNN _ ["net"] (spNN K) := ok_NN FNN TBt CTu GTu CNR GNR CNL GNL CNW GNW
  have GLe : FnOk l.prog w K mg base CX0 1 fLe _ ["shape", "done", "label"] (spLe K) := ok_Le FLe TBt 
  have GMe : FnOk l.prog w K mg base CX0 1 fMe _ ["shape", "done"] (spMe K) := ok_Me FMe TBt 
  have GHs : FnOk l.prog w K mg base CX0 2 fHs _ ["shape", "stack"] (spHs K) := ok_Hs FHs TBt CLe GLe CMe GMe
  have GNS : FnOk l.prog w K mg base CX0 3 fNS _ ["net", "shape"] (spNS K) := ok_NS FNS TBt CSh GSh
  have GFi : FnOk l.prog w K mg base CX0 9 fFi _ ["net", "shape", "stack"] (spFi K) := ok_Fi FFi TBt CNN GNN CNS GNS CLs GLs CHs GHs
  have GNSx : FnOk l.prog w K mg base (CX l.prog w) 3 fNS _ ["net", "shape"] (spNSx K c8) := ok_NSx FNS TBt O8 (ok_I FI X8 fr8) tc8 CSh GSh
  have GFix : FnOk l.prog w K mg base (CX l.prog w) 9 fFi _ ["net", "shape", "stack"] (spFix K c8) := ok_Fix FFi CNS GNSx CNN GNN
  have GLk : FnG l.prog w K mg base CX0 1 fLk _ ["heard", "due"] (spLk K) := ok_Lk FLk (PySem.W.mg_none_of X G z_repr)
  have GLW : FnOk l.prog w K mg base CX0 3 fLW _ ["m", "labels", "most"] (spLW K) := ok_LW FLW TBt CDr GDr
  have GLG : FnOk l.prog w K mg base CX0 4 fLG _ ["m", "pairs", "labels", "road"] (spLG K) := ok_LG FLG TBt CDr GDr CLW GLW
  have GLN : FnOk l.prog w K mg base CX0 5 fLN _ ["m", "roads_so", "houses_so", "labels_so"] (spLN K) := ok_LN FLN TBt CDr GDr CLG GLG
  have GLS : FnOk l.prog w K mg base CX0 3 fLS _ ["m", "labels", "most"] (spLS K) := ok_LS FLS TBt CDr GDr
  have GSt : FnOk l.prog w K mg base CX0 1 fSt _ ["labels", "most"] (spSt K) := ok_St FSt TBt 
  have GCu : FnOk l.prog w K mg base CX0 1 fCu _ ["shape", "stack"] (spCu K) := ok_Cu FCu TBt 
  exact ok_law FW rfl TB TBt CLN GLN CLS GLS CSt GSt CFi GFi CCu GCu CDr GDr CBeg GBeg CLk GLk GFix FHe CHe TH
end Lr
open PySem PySem.W PyProof.Rows
set_option maxRecDepth 100000 in
set_option maxHeartbeats 0 in
theorem PySem.Challenge.cw_labelroads_k06_whole_shapes_holds : PySem.Challenge.rw_labelroads_k06_whole_shapes.Holds := by
  w_on; o_law; k_head; (case hw => w_witness2)
  k_fill
  refine Lr.walk_ofGT (l := PySem.Challenge.rw_labelroads_k06_whole_shapes) (n := 63) (k := 12) (x := "script") (sp := fun K T => Lr.spLaw K T) rfl (by decide) rfl ⟨rfl, by decide, by decide⟩ (fun w h Y => PySem.W.km_in_of Y) ?rec ?F (fun _ _ a T ns hl hT hS => ⟨a, ns, rfl, hS, hl, hT, fun _ => rfl⟩)
  case rec => exact ⟨_, rfl⟩
  case F =>
    intro w mg fa h KX G hmg
    refine' Lr.all_mk KX G hmg ?aM ?lM ?dM ?kM ?aF ?lF ?dF ?kF ?aDr ?lDr ?dDr ?kDr ?aBeg ?lBeg ?dBeg ?kBeg ?aNu ?lNu ?dNu ?kNu ?aTu ?lTu ?dTu ?kTu ?aPa ?lPa ?dPa ?kPa ?aWo ?lWo ?dWo ?kWo ?aHo ?lHo ?dHo ?kHo ?aHp ?lHp ?dHp ?kHp ?aLa ?lLa ?dLa ?kLa ?aRd ?lRd ?dRd ?kRd ?aLb ?lLb ?dLb ?kLb ?aLs ?lLs ?dLs ?kLs ?aSg ?lSg ?dSg ?kSg ?aHd ?lHd ?dHd ?kHd ?aCh ?lCh ?dCh ?kCh ?aGr ?lGr ?dGr ?kGr ?aGs ?lGs ?dGs ?kGs ?aRw ?lRw ?dRw ?kRw ?aSh ?lSh ?dSh ?kSh ?aNN ?lNN ?dNN ?kNN ?aNR ?lNR ?dNR ?kNR ?aNL ?lNL ?dNL ?kNL ?aNW ?lNW ?dNW ?kNW ?aNS ?lNS ?dNS ?kNS ?aLe ?lLe ?dLe ?kLe ?aMe ?lMe ?dMe ?kMe ?aHs ?lHs ?dHs ?kHs ?aFi ?lFi ?dFi ?kFi ?aLk ?lLk ?dLk ?kLk ?aLW ?lLW ?dLW ?kLW ?aLG ?lLG ?dLG ?kLG ?aLN ?lLN ?dLN ?kLN ?aLS ?lLS ?dLS ?kLS ?aSt ?lSt ?dSt ?kSt ?aHe ?lHe ?dHe ?kHe ?aCu ?lCu ?dCu ?kCu ?aW ?lW ?dW ?kW ?lcc ?v11 ?noK ?aNE ?aTG ?aC1 ?aC2 ?aC3 ?aC4 ?aC5 ?aC6 ?aC7 ?aC8 ?aC9 ?aC10 ?xL ?sa8 ?ga8 ?gg8 ?ex8 ?kp8 ?hd8 ?ha8 ?hm8 ?ai8 ?ti8 ?tc8 ?lI ?dI ?kI ?fr8 ?hn ?ht ?z_isinstance ?z_len ?z_set ?z_all ?z_any ?z_int ?z_bool ?z_str ?z_tuple ?z_list ?z_enumerate ?z_range ?z_sorted ?z_zip ?z_repr ?z_ValueError ?m_MOST_HOUSE ?m_MOST_LETTERS ?m_MOST_WORD ?m_MOST_CHOICES ?m_MOST_GROUPS ?m_MOST_ITEMS ?m_MOST_ROADS ?m_MOST_LABELS ?m_MOST_STACK ?kany ?kT ?kk1 ?kk2 ?kk3 ?kk4 ?kk5 ?kk6 ?kk7 ?kk8 ?kk9 ?kk10 ?kVE
    (case aM => k_is)
    (case lM => k_is)
    (case dM => k_is)
    (case kM => k_is)
    (case aF => k_is)
    (case lF => k_is)
    (case dF => k_is)
    (case kF => k_is)
    (case aDr => k_is)
    (case lDr => k_is)
    (case dDr => k_is)
    (case kDr => k_is)
    (case aBeg => k_is)
    (case lBeg => k_is)
    (case dBeg => k_is)
    (case kBeg => k_is)
    (case aNu => k_is)
    (case lNu => k_is)
    (case dNu => k_is)
    (case kNu => k_is)
    (case aTu => k_is)
    (case lTu => k_is)
    (case dTu => k_is)
    (case kTu => k_is)
    (case aPa => k_is)
    (case lPa => k_is)
    (case dPa => k_is)
    (case kPa => k_is)
    (case aWo => k_is)
    (case lWo => k_is)
    (case dWo => k_is)
    (case kWo => k_is)
    (case aHo => k_is)
    (case lHo => k_is)
    (case dHo => k_is)
    (case kHo => k_is)
    (case aHp => k_is)
    (case lHp => k_is)
    (case dHp => k_is)
    (case kHp => k_is)
    (case aLa => k_is)
    (case lLa => k_is)
    (case dLa => k_is)
    (case kLa => k_is)
    (case aRd => k_is)
    (case lRd => k_is)
    (case dRd => k_is)
    (case kRd => k_is)
    (case aLb => k_is)
    (case lLb => k_is)
    (case dLb => k_is)
    (case kLb => k_is)
    (case aLs => k_is)
    (case lLs => k_is)
    (case dLs => k_is)
    (case kLs => k_is)
    (case aSg => k_is)
    (case lSg => k_is)
    (case dSg => k_is)
    (case kSg => k_is)
    (case aHd => k_is)
    (case lHd => k_is)
    (case dHd => k_is)
    (case kHd => k_is)
    (case aCh => k_is)
    (case lCh => k_is)
    (case dCh => k_is)
    (case kCh => k_is)
    (case aGr => k_is)
    (case lGr => k_is)
    (case dGr => k_is)
    (case kGr => k_is)
    (case aGs => k_is)
    (case lGs => k_is)
    (case dGs => k_is)
    (case kGs => k_is)
    (case aRw => k_is)
    (case lRw => k_is)
    (case dRw => k_is)
    (case kRw => k_is)
    (case aSh => k_is)
    (case lSh => k_is)
    (case dSh => k_is)
    (case kSh => k_is)
    (case aNN => k_is)
    (case lNN => k_is)
    (case dNN => k_is)
    (case kNN => k_is)
    (case aNR => k_is)
    (case lNR => k_is)
    (case dNR => k_is)
    (case kNR => k_is)
    (case aNL => k_is)
    (case lNL => k_is)
    (case dNL => k_is)
    (case kNL => k_is)
    (case aNW => k_is)
    (case lNW => k_is)
    (case dNW => k_is)
    (case kNW => k_is)
    (case aNS => k_is)
    (case lNS => k_is)
    (case dNS => k_is)
    (case kNS => k_is)
    (case aLe => k_is)
    (case lLe => k_is)
    (case dLe => k_is)
    (case kLe => k_is)
    (case aMe => k_is)
    (case lMe => k_is)
    (case dMe => k_is)
    (case kMe => k_is)
    (case aHs => k_is)
    (case lHs => k_is)
    (case dHs => k_is)
    (case kHs => k_is)
    (case aFi => k_is)
    (case lFi => k_is)
    (case dFi => k_is)
    (case kFi => k_is)
    (case aLk => k_is)
    (case lLk => k_is)
    (case dLk => k_is)
    (case kLk => k_is)
    (case aLW => k_is)
    (case lLW => k_is)
    (case dLW => k_is)
    (case kLW => k_is)
    (case aLG => k_is)
    (case lLG => k_is)
    (case dLG => k_is)
    (case kLG => k_is)
    (case aLN => k_is)
    (case lLN => k_is)
    (case dLN => k_is)
    (case kLN => k_is)
    (case aLS => k_is)
    (case lLS => k_is)
    (case dLS => k_is)
    (case kLS => k_is)
    (case aSt => k_is)
    (case lSt => k_is)
    (case dSt => k_is)
    (case kSt => k_is)
    (case aHe => k_is)
    (case lHe => k_is)
    (case dHe => k_is)
    (case kHe => k_is)
    (case aCu => k_is)
    (case lCu => k_is)
    (case dCu => k_is)
    (case kCu => k_is)
    (case aW => k_is)
    (case lW => k_is)
    (case dW => k_is)
    (case kW => k_is)
    (case lcc => k_is)
    (case v11 => rfl)
    (case noK => kernel_rfl)
    (case aNE => k_is)
    (case aTG => k_is)
    (case aC1 => k_is)
    (case aC2 => k_is)
    (case aC3 => k_is)
    (case aC4 => k_is)
    (case aC5 => k_is)
    (case aC6 => k_is)
    (case aC7 => k_is)
    (case aC8 => k_is)
    (case aC9 => k_is)
    (case aC10 => k_is)
    (case xL => k_is)
    (case sa8 => k_is)
    (case ga8 => k_is)
    (case gg8 => k_is)
    (case ex8 => k_is)
    (case kp8 => k_is)
    (case hd8 => k_is)
    (case ha8 => k_is)
    (case hm8 => k_is)
    (case ai8 => k_is)
    (case ti8 => k_is)
    (case tc8 => k_is)
    (case lI => k_is)
    (case dI => k_is)
    (case kI => k_is)
    (case fr8 => k_is)
    (case hn => k_is)
    (case ht => k_is)
    (case z_isinstance => k_is)
    (case z_len => k_is)
    (case z_set => k_is)
    (case z_all => k_is)
    (case z_any => k_is)
    (case z_int => k_is)
    (case z_bool => k_is)
    (case z_str => k_is)
    (case z_tuple => k_is)
    (case z_list => k_is)
    (case z_enumerate => k_is)
    (case z_range => k_is)
    (case z_sorted => k_is)
    (case z_zip => k_is)
    (case z_repr => k_is)
    (case z_ValueError => k_is)
    (case m_MOST_HOUSE => k_is)
    (case m_MOST_LETTERS => k_is)
    (case m_MOST_WORD => k_is)
    (case m_MOST_CHOICES => k_is)
    (case m_MOST_GROUPS => k_is)
    (case m_MOST_ITEMS => k_is)
    (case m_MOST_ROADS => k_is)
    (case m_MOST_LABELS => k_is)
    (case m_MOST_STACK => k_is)
    (case kany => kernel_rfl)
    (case kT => kernel_rfl)
    (case kk1 => kernel_rfl)
    (case kk2 => kernel_rfl)
    (case kk3 => kernel_rfl)
    (case kk4 => kernel_rfl)
    (case kk5 => kernel_rfl)
    (case kk6 => kernel_rfl)
    (case kk7 => kernel_rfl)
    (case kk8 => kernel_rfl)
    (case kk9 => kernel_rfl)
    (case kk10 => kernel_rfl)
    (case kVE => kernel_rfl)
#print axioms PySem.Challenge.cw_labelroads_k06_whole_shapes_holds
