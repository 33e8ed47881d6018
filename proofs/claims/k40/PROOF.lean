import PyProof.Rows.All
import Wide.All
import OpenK.AllK
import Wide.FinOn
import HandS.ForMost
import HandS.ForExc
import HandS.Iter
import HandS.Walk
import HandS.SetKeys
import HandS.DictTup
import PyProof.DictMoreH
import HandS.ExcInit
import HandS.IsInst
import HandS.ExcIs
import HandS.ExcValue
import KE.KExcInit
import PyProof.ReprReads
import PyProof.ExcBaseAll.OverflowError
import KE.KExcIs
import KE.GoesMore
import KE.GoesEnum
import HandS.TupSets
import KE.KeyNested
import HandS.SetFor
import HandS.TupLe
import HandS.TupMul
import HandS.Text
import PyProof.TupleOfSeq
import PyProof.Rows.SortStr
import KE.KRevSl
import HandS.SetBool
import HandS.Strs
import KE.KTryMore
import HandS.Deep
import HandS.Star
import KE.KDictWalk
import HandS.DictComp
import HandS.List
import KE.SortData
import HandS.TupAny
import PyProof.Walks
import PyProof.AttrMissHeap
import PyProof.TupleIter
import HandS.Zip
import HandS.Style
import KE.KDictPairs
import KE.KDictCopyH
import HandS.Conv
import PyProof.Rows.TupDisplay
import HandS.TupLen
import PyProof.TupleOfGen
import HandS.Ends
import PySem.Challenge.RW_labelroads_k40_whole_pops
set_option Elab.async false
set_option linter.all false
set_option maxRecDepth 100000
set_option maxHeartbeats 8000000
open PySem PySem.W PyProof.Rows
namespace Lr
set_option maxRecDepth 100000 in
set_option maxHeartbeats 0 in
open_top hd for PySem.Challenge.rw_labelroads_k40_whole_pops
end Lr

namespace Lr
open PySem PySem.Spec PyProof.Rows L2
section
variable {X : Cx}
/-- one of two readings -/
def tAlt (t u : TS) : TS := fun D σ H => t D σ H ∨ u D σ H
def tAltE (t u : TE) : TE := fun σ H Q => t σ H Q ∨ u σ H Q
theorem ps_or {st : Stmt} {t u : TS} (h1 : PS X st t) (h2 : PS X st u) : PS X st (tAlt t u) := ⟨fun pins s σ H D I h => h.elim (h1.run pins s σ H D I) (h2.run pins s σ H D I)⟩
theorem pe_or2 {e : Expr} {t u : TE} (h1 : PE X e t) (h2 : PE X e u) : PE X e (tAltE t u) := ⟨fun pins s σ H Q I h => h.elim (h1.run pins s σ H Q I) (h2.run pins s σ H Q I)⟩
/-- what e is is locked from now on -/
def tFz (t : TE) : TE := fun σ H Q => t σ H fun v H1 => ∃ d u, H1 d = some u ∧ Mut (some u) ∧ ∀ od, Q v (upd H1 d (.frz od u))
theorem pe_fz {e : Expr} {t : TE} (h : PE X e t) : PE X e (tFz t) := by
  refine ⟨fun pins s σ H Q I hh => thn (h.run pins s σ H _ I hh) fun u s1 q => ?_⟩
  obtain ⟨v, H1, I1, r, d, o, e, mu, k⟩ := q
  obtain ⟨od, I2⟩ := I1.lock e mu
  exact ⟨v, _, I2, r, k od⟩
end
section
variable {X : Cx} {pins : List (Addr × Obj)} {σ : L2.St} {H : Hp} {s : Shared} {a b : Addr} {r : Value} {d : V} {k : List Key} {A : Around} {E : Value → Shared → Prop}
theorem d_setdT {kvs : List (List Key × V)} {Q : Value → Shared → Prop} (hu : A.units + 1 < cLine) (I : Inv X pins σ H s) (e : H a = some (.dT kvs)) (eb : H b = some (.tup (k.map kV))) (rd : RelV d r) (hl : kvs.length < sizeLine)
    (h1 : ∀ v, valV kvs k = some v → ∀ (w' : Value) (s' : Shared), Inv X pins σ H s' → RelV v w' → Q w' s') (h2 : valV kvs k = none → ∀ (w' : Value) (s' : Shared), Inv X pins σ (upd H a (.dT (putK kvs k d))) s' → RelV d w' → Q w' s') :
    wpAny (model X.prog X.w) A (call (.builtin "dict.setdefault") [.ref a, .ref b, r]) Q E s := by
  obtain ⟨z, hd, xs, rel, dd⟩ := dt_of I.hok e
  have hz : xs.length ≤ sizeLine := by rw [← Paired.length rel]; exact z
  have hl2 : (putK kvs k d).length ≤ sizeLine := by have := length_putK kvs k d; omega
  have q := rel.val k
  refine call_setdefault_heap (hsz := hz) (tupleKind_room_in1 hu) (key_of I.hok eb) hd dd (fun p hp => ?_) (fun hn h' dd' hs => ?_)
  · rw [hp] at q
    cases q0 : valV kvs k with
    | none =>
      rw [q0] at q
      exact (show False from q).elim
    | some v0 =>
      rw [q0] at q
      exact h1 v0 q0 _ _ (I.tok _) q
  · rw [hn] at q
    cases q0 : valV kvs k with
    | some v0 =>
      rw [q0] at q
      exact (show False from q).elim
    | none =>
      refine h2 q0 _ _ ?_ rd
      obtain ⟨q, es, ep, hq, h2, h3, h4, _, h5⟩ := dd'
      refine d_write I (by rw [e]; exact True.intro) hs ⟨q, hq⟩ ⟨hl2, hd, _, (rel.put k eb rd).keeps fun c ys ec => ?_, q, es, ep, hq, h2, h3, h4, h5⟩
      rw [upd_ne (ne_of ec e (fun z => nomatch z))]
      exact ec
end
/-- d.setdefault((..), z), the keys tuples -/
def tDSetdT (td ty tx : TE) : TE := fun σ H Q => td σ H fun x H1 => ∃ a, x = .ref a ∧ IsD H1 a ∧ ty σ H1 fun y H2 => tx σ H2 fun z H3 => ∃ (kvs : List (List Key × V)) (k : List Key) (b : Addr), H3 a = some (.dT kvs) ∧ y = .ref b ∧ H3 b = some (.tup (k.map kV)) ∧ kvs.length < sizeLine ∧
  (∀ v, valV kvs k = some v → Q v H3) ∧ (valV kvs k = none → Q z (upd H3 a (.dT (putK kvs k z))))
section
variable {X : Cx} {o e f : Expr} {td ty tx : TE} {apos cpos : Pos}
theorem pe_dsetdT (hu : X.A.units + 1 < cLine) (ho : PE X o td) (he : PE X e ty) (hf : PE X f tx) (m : M2 X o "setdefault" apos e f cpos) : PE X (.Call (.Attribute o "setdefault" apos) [e, f] [] cpos) (tDSetdT td ty tx) := by
  refine ⟨fun pins s σ H Q I h => ?_⟩
  refine wpAny_Call_method m.base m.few m.line PySem.F.plainAttrs_dict PySem.F.slot_dict_setdefault PySem.F.type_dict_setdefault (thn (ho.run pins s σ H _ I h) fun u s1 ⟨x, H1, I1, rx, a, ex, d, q1⟩ => ?_)
  subst ex
  obtain rfl : u = Value.ref a := rx
  obtain ⟨t1, t2, _⟩ := isD_at I1 d
  refine ⟨t1, t2, ?_⟩
  rw [m.trees]
  refine Calls.callWith_builtin rfl (Calls.evalArgs_plain (Calls.spliced_cons (thn (he.run pins s1 σ H1 _ I1 q1) fun iv s2 ⟨y, H2, I2, ry, q2⟩ =>
    Calls.spliced_cons (thn (hf.run pins s2 σ H2 _ I2 q2) fun fv s3 ⟨z, H3, I3, rz, kvs, k, b, ea, ey, eb, hl, q3, q4⟩ => Calls.spliced_nil ?_))))
  subst ey
  cases (show iv = Value.ref b from ry)
  exact d_setdT hu I3 ea eb rz hl (fun v hv w' s4 I4 rw' => ⟨v, _, I4, rw', q3 v hv⟩) fun hn w' s4 I4 rw' => ⟨z, _, I4, rw', q4 hn⟩
end
theorem ps_join {X : Cx} {st : Stmt} {t : TS} (h : PS X st t) : PS X st (fun D σ H => ∃ S : L2.St → Hp → Prop, t { nx := S, rt := D.rt } σ H ∧ ∀ σ' H', S σ' H' → D.nx σ' H') := ⟨fun pins s σ H D I hh => by
  obtain ⟨S, h1, h2⟩ := hh
  refine thn (h.run pins s σ H _ I h1) fun f s' q => ?_
  match f, q with
  | .next, ⟨σ', H', I', z⟩ => exact ⟨σ', H', I', h2 σ' H' z⟩
  | .brk, ⟨_, _, _, z⟩ => exact z.elim
  | .cont, ⟨_, _, _, z⟩ => exact z.elim
  | .ret u, z => exact z⟩
end Lr


namespace Lr
open PySem PySem.Spec PyProof.Rows L2

def top (i : Nat) : Stmt := PySem.Challenge.pw_labelroads_k40_whole_pops.main.body.getD i (.Pass ⟨0, 0, 0, 0⟩)
abbrev sMix : Stmt := top 55
abbrev sFol : Stmt := top 56
abbrev sDra : Stmt := top 57
abbrev sBeg : Stmt := top 58

/-- an int that a cell may hold -/
def Cell (i : Int) : Prop := 0 ≤ i ∧ i < 2147483647
/-- a list of ints at an address -/
def IntsAt (H : Hp) (a : Addr) (ns : List Int) : Prop := H a = some (.lst (ns.map V.int))

/-! the promises -/
def spMix : Sp := fun vs H Q _ => ∃ c n : Int, vs = [.int c, .int n] ∧ 0 ≤ n ∧ n < 1000000 ∧ ∀ r : Int, Q (.int r) H
def spFol (K : PySem.W.Frag) : Sp := fun vs H Q _ => ∃ (a : Addr) (ns : List Int), vs = [.ref a] ∧ SqL K H a (ns.map V.int) ∧ ns.length ≤ 63 ∧
  ∀ (H' : Hp) (p : Addr) (cs : List Int), Same H H' → H p = none → IntsAt H' p cs → cs.length = 64 → Q (.ref p) H'

structure Tx (mg : Str → Option Value) : Prop where
  int : mg "int" = none
  range : mg "range" = none
  enum : mg "enumerate" = none
  len : mg "len" = none

section
variable {P : Program} {w : World} {K : PySem.W.Frag} {mg : Str → Option Value} {base : Heap}

theorem scMix : FnScope ["cell", "n", "blend"] ["cell", "n"] (defScope sMix) := ⟨rfl, rfl, rfl, by decide +kernel, rfl, by decide +kernel, by decide +kernel⟩
theorem ok_mix {f : Addr} {fd : FuncData} (F : Fun K "_law_mixed" "_law_mixed" sMix f fd) (T : Tx mg) : FnOk P w K mg base CX0 1 f fd ["cell", "n"] spMix := by
  refine F.ok scMix (fun vs H Q E h => ?_) (fun cdv A outer s H vs Q E hr h => ?_)
  · obtain ⟨c, n, rfl, _⟩ := h
    rfl
  · obtain ⟨c, n, rfl, h0, h1, k⟩ := h
    refine ⟨_, pss_cons (ps_set (i := 2) scMix.nd rfl (.inl rfl) (pe_op op_add (pe_op op_add (pe_op op_mod (pe_callTy call_int1 (by rfl) T.int (by decide +kernel) (pa_cons
        (pe_op op_mul (pe_op op_mul (pv 0) (pe_op op_add pe_int (pe_op op_mul pe_int (pv 1)))) pe_int) pa_nil)) pe_int)
          (pe_op op_mul (pe_op op_mul pe_int (pv 1)) (pv 1))) (pe_op op_mul pe_int (pv 1))))
      (pss_one (ps_ret (pe_op op_fdiv (pe_op op_mod (pe_callTy call_int1 (by rfl) T.int (by decide +kernel) (pa_cons (pe_op op_mul (pv 2) pe_int) pa_nil)) pe_int) pe_int))), ?_⟩
    refine ⟨_, rfl, _, rfl, _, _, rfl, rfl, .inl ⟨by decide, by decide⟩, _, _, rfl, rfl, _, _, rfl, rfl, .inr ⟨by omega, by omega⟩, _, _, rfl, rfl, .inr ⟨by decide, by decide⟩, .inl ⟨_, rfl, ?_⟩⟩
    refine ⟨_, _, rfl, rfl, (by show (0 : Int) < 2147483647; decide), _, rfl, _, _, rfl, rfl, .inl ⟨by decide, by decide⟩, _, rfl, _, _, rfl, rfl, .inr ⟨by omega, by omega⟩, _, _, rfl, rfl, _, rfl, _, _, rfl, rfl, .inl ⟨by decide, by decide⟩, _, _, rfl, rfl, ?_⟩
    refine ⟨_, rfl, _, _, rfl, rfl, .inr ⟨by decide, by decide⟩, .inl ⟨_, rfl, _, _, rfl, rfl, (by show (0 : Int) < 2147483629; decide), _, _, rfl, rfl, ⟨by decide, by decide⟩, ?_⟩⟩
    exact k _
end
end Lr


namespace Lr
open PySem PySem.Spec PyProof.Rows L2

theorem ints_at {cs : List Int} {k : Int} (h0 : 0 ≤ k) (h1 : k < cs.length) : ∃ z : Int, atI (cs.map V.int) k = some (.int z) := by
  obtain ⟨n, rfl⟩ : ∃ n : Nat, k = (n : Int) := ⟨k.toNat, by omega⟩
  have hn : n < cs.length := by omega
  exact ⟨cs[n], atI_nat (by simp [List.getElem?_map, hn])⟩
theorem ints_ix {cs : List Int} {k : Int} (h0 : 0 ≤ k) (h1 : k < cs.length) : ixN (cs.map V.int).length k = some k.toNat := by
  unfold ixN
  rw [List.length_map, if_pos h0, if_pos h1]
theorem ints_set (cs : List Int) (j : Nat) (z : Int) : (cs.map V.int).set j (.int z) = (cs.set j z).map V.int := by
  rw [List.map_set]

theorem yes_of {σ : L2.St} {H : Hp} {A B : Hp → Prop} (h : A H) : tYes σ H fun b H3 => if b = true then A H3 else B H3 := by
  show if true = true then A H else B H
  exact iteT h
section
variable {P : Program} {w : World} {K : PySem.W.Frag} {mg : Str → Option Value} {base : Heap}
theorem scFol : FnScope ["script", "n", "found", "cell"] ["script"] (defScope sFol) := ⟨rfl, rfl, rfl, by decide +kernel, rfl, by decide +kernel, by decide +kernel⟩
theorem ok_fol {f : Addr} {fd : FuncData} (F : Fun K "_law_folded" "_law_folded" sFol f fd) (T : Tx mg) : FnOk P w K mg base CX0 1 f fd ["script"] (spFol K) := by
  refine F.ok scFol (fun vs H Q E h => ?_) (fun cdv A outer s H vs Q E hr h => ?_)
  · obtain ⟨a, ns, rfl, _⟩ := h
    rfl
  · obtain ⟨a, ns, rfl, hS, hlen, k⟩ := h
    refine ⟨_, pss_cons (ps_setLc (i := 2) (own := [("n", 1)]) (g := gName 1) (tt := tYes) rfl scFol.nd rfl rfl (sw_true rfl rfl rfl (by decide +kernel)) (pi_range1 (by rfl) T.range (pa_cons pe_int pa_nil))
        (blkOk_by (N := ["script", "n", "found", "cell"]) (sc := defScope sFol) (by decide +kernel)) (fun _ _ _ _ _ => pg_name (i := 1) scFol.nd rfl (.inl rfl)) (fun _ _ _ _ _ => pts_nil) (fun _ _ _ _ _ => pe_op op_add pe_int (pv 1)))
      (pss_cons (ps_for PassesOwn.never rfl (pi_enum (by rfl) T.enum (pa_cons (pv 0) pa_nil)) (pg_tup (by rfl) (pgs_cons (pg_name (i := 1) scFol.nd rfl (.inl rfl)) (pgs_cons (pg_name (i := 3) scFol.nd rfl (.inl rfl)) pgs_nil)))
        (pss_one (ps_asg (pe_op op_mod (pe_callTy call_int1 (by rfl) T.int (by decide +kernel) (pa_cons (pe_op op_add (pe_op op_mul (pe_ix ix_list (pv 2) (pe_op op_mod (pe_callTy call_int1 (by rfl) T.int (by decide +kernel) (pa_cons (pv 1) pa_nil)) pe_int) (fun _ _ => rfl)) pe_int) (pv 3)) pa_nil)) pe_int)
          (pg_sub (pv 2) (pe_op op_mod (pe_callTy call_int1 (by rfl) T.int (by decide +kernel) (pa_cons (pv 1) pa_nil)) pe_int) set_list))))
      (pss_cons (ps_for PassesOwn.never rfl (pi_range2 (by rfl) T.range (pa_cons pe_int (pa_cons pe_int pa_nil))) (pg_name (i := 1) scFol.nd rfl (.inl rfl))
        (pss_one (ps_asg (pe_op op_mod (pe_callTy call_int1 (by rfl) T.int (by decide +kernel) (pa_cons (pe_op op_add (pe_ix ix_list (pv 2) (pv 1) (fun _ _ => rfl)) (pe_op op_mul (pe_ix ix_list (pv 2) (pe_op op_sub (pv 1) pe_int) (fun _ _ => rfl)) pe_int)) pa_nil)) pe_int)
          (pg_sub (pv 2) (pv 1) set_list))))
      (pss_one (ps_ret (pv 2))))), ?_⟩
    -- found = [17 + n for n in range(64)]
    refine ⟨64, rfl, by decide, by decide, fun D hD => lc_range (lo := 0) (n := 64) (fun i H' => ∃ cs : List Int, cs.length = i ∧ IntsAt H' D cs ∧ Same H H') ⟨[], rfl, upd_same, fun b o e => by rw [upd_ne (ne_of_none e hD)]; exact e⟩ ?_ ?_⟩
    · rintro i H' hi ⟨cs, hl, hc, sm⟩
      refine ⟨rfl, yes_of ?_⟩
      refine ⟨_, rfl, _, _, rfl, rfl, _, hc, (by rw [List.length_map, hl, sizeLine_eq]; omega), cs ++ [17 + (0 + (i : Int))], by simp [hl], ?_, fun b o e => by rw [upd_ne (ne_of_none e hD)]; exact sm b o e⟩
      unfold IntsAt
      rw [upd_same, List.map_append]
      rfl
    rintro H1 ⟨cs1, hl1, hc1, sm1⟩
    -- for n, cell in enumerate(script)
    refine ⟨_, rfl, a, _, rfl, sm1.seq hS, for_it walk_enum (fun i σ H' => ∃ (cs : List Int) (u v : Option V), σ = [some (.ref a), u, some (.ref D), v] ∧ cs.length = 64 ∧ IntsAt H' D cs ∧ Same H H')
      ⟨cs1, _, _, rfl, hl1, hc1, sm1⟩ (fun i σ H' _ ⟨_, _, _, _, _, _, s2⟩ => s2.seq hS) ?_ ?_⟩
    · rintro i x σ H' H2 hi ⟨cs, u, v, rfl, hl, hc, sm⟩ ⟨t, x1, x2, rfl, nt, rfl, e1, e2⟩
      obtain ⟨z, rfl⟩ : ∃ z, x2 = V.int z := by
        have e3 : (ns.map V.int)[i]? = some x2 := e2
        rw [List.getElem?_map] at e3
        cases e : ns[i]? with
        | none =>
          rw [e] at e3
          cases e3
        | some z =>
          rw [e] at e3
          exact ⟨z, (Option.some.inj e3).symm⟩
      cases e1
      have nDt : D ≠ t := ne_of_none hc nt
      have hc' : (upd H' t (.tup [.int (i : Nat), .int z])) D = some (.lst (cs.map V.int)) := by rw [upd_ne nDt]; exact hc
      have b0 : 0 ≤ ((i : Nat) : Int) % 64 := by omega
      have b1 : ((i : Nat) : Int) % 64 < (cs.length : Int) := by rw [hl]; omega
      obtain ⟨y, hy⟩ := ints_at b0 b1
      refine ⟨t, _, rfl, SqT.of upd_same, rfl, _, _, rfl, _, _, rfl, rfl, ?_⟩
      refine ⟨_, rfl, _, rfl, .inl ⟨_, rfl, _, _, rfl, rfl, (by show (0 : Int) < 64; decide), D, _, _, _, rfl, rfl, SqL.of hc', hy, ?_⟩⟩
      refine ⟨_, _, rfl, rfl, .inr ⟨by decide, by decide⟩, _, rfl, _, _, rfl, rfl, .inl ⟨_, rfl, _, _, rfl, rfl, (by show (0 : Int) < 2147483647; decide), ?_⟩⟩
      refine ⟨_, rfl, _, rfl, .inl ⟨_, rfl, _, _, rfl, rfl, (by show (0 : Int) < 64; decide), D, _, _, _, rfl, rfl, hc', ints_ix b0 b1, ?_⟩⟩
      refine ⟨cs.set (((i : Nat) : Int) % 64).toNat ((y * 48271 + z) % 2147483647), _, _, rfl, by rw [List.length_set]; exact hl, ?_, fun b o e => ?_⟩
      · unfold IntsAt
        rw [upd_same, ints_set]
      · have n1 : b ≠ D := ne_of_none e hD
        have n2 : b ≠ t := ne_of_none (sm b o e) nt
        rw [upd_ne n1, upd_ne n2]
        exact sm b o e
    rintro σ H2 ⟨cs2, u2, v2, rfl, hl2, hc2, sm2⟩
    -- for n in range(1, 64)
    refine ⟨_, _, rfl, ⟨by decide, by decide, by decide, by decide⟩, for_range (lo := 1) (n := 63) (fun i σ H' => ∃ (cs : List Int) (u v : Option V), σ = [some (.ref a), u, some (.ref D), v] ∧ cs.length = 64 ∧ IntsAt H' D cs ∧ Same H H')
      ⟨cs2, _, _, rfl, hl2, hc2, sm2⟩ ?_ ?_⟩
    · rintro i σ H' hi ⟨cs, u, v, rfl, hl, hc, sm⟩
      have b0 : 0 ≤ 1 + ((i : Nat) : Int) := by omega
      have b1 : 1 + ((i : Nat) : Int) < (cs.length : Int) := by rw [hl]; omega
      have b2 : 0 ≤ 1 + ((i : Nat) : Int) - 1 := by omega
      have b3 : 1 + ((i : Nat) : Int) - 1 < (cs.length : Int) := by rw [hl]; omega
      obtain ⟨y, hy⟩ := ints_at b0 b1
      obtain ⟨z, hz⟩ := ints_at b2 b3
      refine ⟨_, rfl, _, rfl, D, _, _, _, rfl, rfl, SqL.of hc, hy, _, rfl, _, rfl, _, _, rfl, rfl, D, _, _, _, rfl, rfl, SqL.of hc, hz, ?_⟩
      refine ⟨_, _, rfl, rfl, .inr ⟨by decide, by decide⟩, _, _, rfl, rfl, .inl ⟨_, rfl, _, _, rfl, rfl, (by show (0 : Int) < 2147483647; decide), ?_⟩⟩
      refine ⟨_, rfl, _, rfl, D, _, _, _, rfl, rfl, hc, ints_ix b0 b1, ?_⟩
      refine ⟨cs.set (1 + ((i : Nat) : Int)).toNat ((y + z * 16807) % 2147483647), _, _, rfl, by rw [List.length_set]; exact hl, ?_, fun b o e => ?_⟩
      · unfold IntsAt
        rw [upd_same, ints_set]
      · rw [upd_ne (ne_of_none e hD)]
        exact sm b o e
    rintro σ H3 ⟨cs3, u3, v3, rfl, hl3, hc3, sm3⟩
    exact ⟨_, rfl, k H3 D cs3 sm3 hD hc3 hl3⟩
end
end Lr


namespace Lr
open PySem PySem.Spec PyProof.Rows L2

/-- the pairs of the state m -/
def kvM (c g : Addr) (n : Int) : List (Key × V) := [(.inr "cells", .ref c), (.inr "great", .ref g), (.inr "spot", .int n)]
theorem kv_spot (c g : Addr) (n : Int) : valV (kvM c g n) (.inr "spot") = some (.int n) := by rfl
theorem kv_great (c g : Addr) (n : Int) : valV (kvM c g n) (.inr "great") = some (.ref g) := by rfl
theorem kv_cells (c g : Addr) (n : Int) : valV (kvM c g n) (.inr "cells") = some (.ref c) := by rfl
theorem kv_put (c g : Addr) (n z : Int) : putK (kvM c g n) (.inr "spot") (.int z) = kvM c g z := by rfl
theorem kv_putG (c g u : Addr) (n : Int) : putK (kvM c g n) (.inr "great") (.ref u) = kvM c u n := by rfl

/-- the state from which all numbers are drawn: the dict at m, its cells at c, its great ones at g; n were drawn -/
structure Ms (H : Hp) (m c g : Addr) (n : Nat) : Prop where
  hd : H m = some (.dK (kvM c g n))
  hc : ∃ cs : List Int, cs.length = 64 ∧ IntsAt H c cs
  hg : ∃ gs : List Int, gs.length ≤ 63 ∧ IntsAt H g gs
  cg : c ≠ g

def spDra : Sp := fun vs H Q _ => ∃ (m c g : Addr) (n : Nat) (lim : Int), vs = [.ref m, .int lim] ∧ 0 < lim ∧ lim < 1000000 ∧ n < 100000 ∧ Ms H m c g n ∧
  ∀ (r : Int) (H' : Hp), 0 ≤ r → r < lim → Ms H' m c g (n + 1) → (∀ b o, H b = some o → b ≠ m → b ≠ g → H' b = some o) → Q (.int r) H'

theorem dp_ints {K : PySem.W.Frag} {H : Hp} : ∀ ns : List Int, DpAll K H (ns.map V.int) (ns.map PyData.int)
  | [] => .nil
  | n :: r => .cons (.int n) (dp_ints r)
theorem lay_ints : ∀ ns : List Int, PyData.canLayAll0 (ns.map PyData.int) = true
  | [] => rfl
  | n :: r => by
    show (PyData.canLay0 (.int n) && PyData.canLayAll0 (r.map PyData.int)) = true
    rw [lay_ints r]
    rfl
theorem depth_ints : ∀ ns : List Int, PyData.depthAll (ns.map PyData.int) ≤ 1
  | [] => by decide
  | n :: r => by
    show max (PyData.depth (.int n)) (PyData.depthAll (r.map PyData.int)) ≤ 1
    have := depth_ints r
    have e : PyData.depth (.int n) = 0 ∨ PyData.depth (.int n) = 1 := by first | exact .inl rfl | exact .inr rfl
    omega
theorem shaped_ints (ns : List Int) : SeqAt.shaped (.list (ns.map PyData.int)) = true := by
  unfold SeqAt.shaped
  rw [Bool.and_eq_true, decide_eq_true_eq]
  refine ⟨lay_ints ns, ?_⟩
  show PyData.depthAll (ns.map PyData.int) + 1 ≤ 64
  have := depth_ints ns
  omega

structure TxD (K : PySem.W.Frag) (mg : Str → Option Value) (fM : Addr) : Prop extends Tx mg where
  gM : mg "_law_mixed" = some (.ref fM)
  kM : PySem.W.keepIn K (.ref fM) = true

section
variable {P : Program} {w : World} {K : PySem.W.Frag} {mg : Str → Option Value} {base : Heap}
theorem scDra : FnScope ["m", "limit", "n", "lot", "here", "cell"] ["m", "limit"] (defScope sDra) := ⟨rfl, rfl, rfl, by decide +kernel, rfl, by decide +kernel, by decide +kernel⟩
theorem ok_dra {f fM : Addr} {fd fdM : FuncData} (F : Fun K "_law_draw" "_law_draw" sDra f fd) (T : TxD K mg fM) (FM : Fun K "_law_mixed" "_law_mixed" sMix fM fdM) (bM : Binds K fdM ["cell", "n"] []) :
    FnOk P w K mg base CX0 2 f fd ["m", "limit"] spDra := by
  have GM : FnOk P w K mg base CX0 1 fM fdM ["cell", "n"] spMix := ok_mix FM T.toTx
  refine F.ok scDra (fun vs H Q E h => ?_) (fun cdv A outer s H vs Q E hr h => ?_)
  · obtain ⟨m, c, g, n, lim, rfl, _⟩ := h
    rfl
  · obtain ⟨m, c, g, n, lim, rfl, l0, l1, hn, M, k⟩ := h
    obtain ⟨hd, ⟨cs, hcl, hc⟩, ⟨gs, hgl, hg⟩, ncg⟩ := id M
    have hu := hu_of hr
    have hu64 := hr.units
    have hr1 : Room 1 _ := hr
    refine ⟨_, pss_cons (ps_set (i := 2) scDra.nd rfl (.inl rfl) (pe_dget hu (pv 0) pe_str (fun _ _ => rfl)))
      (pss_cons (ps_dput hu (pv 0) pe_str (pe_op op_add (pv 2) pe_int) rfl)
      (pss_cons (ps_if (pt_cmpR (op_neD hu64) (pe_dget hu (pv 0) pe_str (fun _ _ => rfl)) (pe_lst pa_nil) (nomark _))
        (pss_cons (ps_set (i := 3) scDra.nd rfl (.inl rfl) (pe_dget hu (pv 0) pe_str (fun _ _ => rfl)))
        (pss_cons (ps_set (i := 4) scDra.nd rfl (.inl rfl) (pe_op op_mod (pe_callTy call_int1 (by rfl) T.int (by decide +kernel) (pa_cons (pv 2) pa_nil)) (pe_callB call_len_seq (by rfl) T.len PySem.boot_len (pa_cons (pv 3) pa_nil))))
        (pss_cons (ps_set (i := 5) scDra.nd rfl (.inl rfl) (pe_ix ix_list (pv 3) (pv 4) (fun _ _ => rfl)))
        (pss_one (ps_if (pt_cmpR op_gt (pv 5) pe_int (nomark _))
          (pss_cons (ps_asg (pe_op op_fdiv (pv 5) (pv 1)) (pg_sub (pv 3) (pv 4) set_list))
          (pss_one (ps_ret (pe_op op_mod (pe_callTy call_int1 (by rfl) T.int (by decide +kernel) (pa_cons (pv 5) pa_nil)) (pv 1))))) pss_nil)))))
        pss_nil)
      (pss_cons (ps_set (i := 3) scDra.nd rfl (.inl rfl) (pe_dget hu (pv 0) pe_str (fun _ _ => rfl)))
      (pss_one (ps_ret (pe_op op_mod (pe_callTy call_int1 (by rfl) T.int (by decide +kernel) (pa_cons
        (pe_call GM hr1 (by rfl) T.gM T.kM bM .nil pass0 (pa_cons
          (pe_call GM hr1 (by rfl) T.gM T.kM bM .nil pass0 (pa_cons (pe_op op_add (pe_ix ix_list (pv 3) (pe_op op_mod (pe_callTy call_int1 (by rfl) T.int (by decide +kernel) (pa_cons (pv 2) pa_nil)) pe_int) (fun _ _ => rfl)) (pe_op op_mul pe_int (pe_op op_fdiv (pv 2) pe_int))) (pa_cons (pv 2) pa_nil)))
          (pa_cons (pe_op op_add (pv 2) pe_int) pa_nil))) pa_nil)) (pv 1))))))), ?_⟩
    have nmc : m ≠ c := ne_of hd hc (by intro z; cases z)
    have nmg : m ≠ g := ne_of hd hg (by intro z; cases z)
    have gS : ∀ {H' : Hp} {n : Int}, H' m = some (.dK (kvM c g n)) → DGet H' m (.str "spot") (some (.int n)) := fun {H' n} e => by
      rw [← kv_spot c g n]
      exact DGet.k (k := .inr "spot") e
    have gG : ∀ {H' : Hp} {n : Int}, H' m = some (.dK (kvM c g n)) → DGet H' m (.str "great") (some (.ref g)) := fun {H' n} e => by
      rw [← kv_great c g n]
      exact DGet.k (k := .inr "great") e
    have gC : ∀ {H' : Hp} {n : Int}, H' m = some (.dK (kvM c g n)) → DGet H' m (.str "cells") (some (.ref c)) := fun {H' n} e => by
      rw [← kv_cells c g n]
      exact DGet.k (k := .inr "cells") e
    -- n = m['spot']; m['spot'] = n + 1
    refine ⟨_, rfl, m, _, rfl, gS hd, ?_⟩
    refine ⟨_, rfl, _, _, rfl, rfl, _, rfl, m, _, rfl, DPut.k (k := .inr "spot") hd (by show 3 < sizeLine; rw [sizeLine_eq]; decide), ?_⟩
    rw [kv_put]
    have e1 : (upd H m (.dK (kvM c g ((n : Int) + 1)))) m = some (.dK (kvM c g ((n : Int) + 1))) := upd_same
    have c1 : (upd H m (.dK (kvM c g ((n : Int) + 1)))) c = some (.lst (cs.map V.int)) := by rw [upd_ne nmc.symm]; exact hc
    have g1 : (upd H m (.dK (kvM c g ((n : Int) + 1)))) g = some (.lst (gs.map V.int)) := by rw [upd_ne nmg.symm]; exact hg
    have s1 : ∀ b o, H b = some o → b ≠ m → b ≠ g → (upd H m (.dK (kvM c g ((n : Int) + 1)))) b = some o := fun b o e q _ => by rw [upd_ne q]; exact e
    revert e1 c1 g1 s1
    generalize upd H m (.dK (kvM c g ((n : Int) + 1))) = H1
    intro e1 c1 g1 s1
    -- if m['great'] != []
    refine ⟨_, rfl, m, _, rfl, gG e1, (by show 0 ≤ sizeLine; exact Nat.zero_le _), fun p hp => ?_⟩
    have e2 : (upd H1 p (.lst [])) m = some (.dK (kvM c g ((n : Int) + 1))) := by rw [upd_ne (ne_of_none e1 hp)]; exact e1
    have c2 : (upd H1 p (.lst [])) c = some (.lst (cs.map V.int)) := by rw [upd_ne (ne_of_none c1 hp)]; exact c1
    have g2 : (upd H1 p (.lst [])) g = some (.lst (gs.map V.int)) := by rw [upd_ne (ne_of_none g1 hp)]; exact g1
    have p2 : (upd H1 p (.lst [])) p = some (.lst []) := upd_same
    have s2 : ∀ b o, H b = some o → b ≠ m → b ≠ g → (upd H1 p (.lst [])) b = some o := fun b o e q1 q2 => by
      rw [upd_ne (ne_of_none (s1 b o e q1 q2) hp)]
      exact s1 b o e q1 q2
    revert e2 c2 g2 p2 s2
    generalize upd H1 p (.lst []) = H2
    intro e2 c2 g2 p2 s2
    have M2 : Ms H2 m c g (n + 1) := ⟨e2, ⟨cs, hcl, c2⟩, ⟨gs, hgl, g2⟩, ncg⟩
    refine ⟨.list (gs.map PyData.int), .list [], .lst (SqL.of g2) (dp_ints gs), .lst (SqL.of p2) .nil, shaped_ints gs, by decide +kernel, _, rfl, ?_⟩
    cases gs with
    | nil =>
      refine iteF ?_
      have b0 : 0 ≤ ((n : Nat) : Int) % 64 := by omega
      have b1 : ((n : Nat) : Int) % 64 < (cs.length : Int) := by rw [hcl]; omega
      obtain ⟨y, hy⟩ := ints_at b0 b1
      refine ⟨_, rfl, m, _, rfl, gC e2, ?_⟩
      refine ⟨_, rfl, _, rfl, .inl ⟨_, rfl, _, _, rfl, rfl, (by show (0 : Int) < 64; decide), c, _, _, _, rfl, rfl, SqL.of c2, hy, ?_⟩⟩
      refine ⟨_, rfl, _, _, rfl, rfl, ⟨by decide, by decide⟩, _, _, rfl, rfl, .inl ⟨by decide, by decide⟩, _, _, rfl, rfl, _, rfl, ?_⟩
      refine ⟨_, _, rfl, by omega, by omega, fun r1 => ?_⟩
      refine ⟨_, rfl, _, _, rfl, rfl, _, _, rfl, by omega, by omega, fun r2 => .inl ⟨_, rfl, _, rfl, _, _, rfl, rfl, l0, ?_⟩⟩
      exact k _ H2 (Int.emod_nonneg _ (by omega)) (Int.emod_lt_of_pos _ l0) M2 s2
    | cons z0 gs' =>
      refine iteT ?_
      -- lot = m['great']; here = int(n) % len(lot); cell = lot[here]
      have d0 : (0 : Int) < (((z0 :: gs').map V.int).length : Int) := by rw [List.length_map, List.length_cons]; omega
      have d1 : 0 ≤ ((n : Nat) : Int) % (((z0 :: gs').map V.int).length : Int) := Int.emod_nonneg _ (by omega)
      have d2 : ((n : Nat) : Int) % (((z0 :: gs').map V.int).length : Int) < (((z0 :: gs').length : Nat) : Int) := by
        have q := Int.emod_lt_of_pos ((n : Nat) : Int) d0
        rw [List.length_map] at q ⊢
        exact q
      obtain ⟨x, hx⟩ := ints_at d1 d2
      refine ⟨_, rfl, m, _, rfl, gG e2, ?_⟩
      refine ⟨_, rfl, .inl ⟨_, rfl, _, rfl, g, _, rfl, .inl (SqL.of g2), _, _, rfl, rfl, d0, ?_⟩⟩
      refine ⟨_, rfl, _, rfl, g, _, _, _, rfl, rfl, SqL.of g2, hx, ?_⟩
      refine ⟨_, rfl, _, _, rfl, rfl, _, rfl, ?_⟩
      refine ite2 (fun _ => ?_) (fun _ => ?_)
      · refine ⟨_, rfl, _, rfl, _, _, rfl, rfl, ⟨l0, by omega⟩, ?_⟩
        refine ⟨_, rfl, _, rfl, g, _, _, _, rfl, rfl, g2, ints_ix d1 d2, ?_⟩
        refine ⟨_, rfl, .inl ⟨_, rfl, _, rfl, _, _, rfl, rfl, l0, ?_⟩⟩
        refine k _ _ (Int.emod_nonneg _ (by omega)) (Int.emod_lt_of_pos _ l0) ⟨?_, ⟨cs, hcl, ?_⟩, ⟨(z0 :: gs').set (((n : Nat) : Int) % (((z0 :: gs').map V.int).length : Int)).toNat (x / lim), by rw [List.length_set]; exact hgl, ?_⟩, ncg⟩ fun b o e q1 q2 => ?_
        · rw [upd_ne nmg]
          exact e2
        · unfold IntsAt
          rw [upd_ne ncg]
          exact c2
        · unfold IntsAt
          rw [upd_same, ints_set]
        · rw [upd_ne q2]
          exact s2 b o e q1 q2
      · skip
        have b0 : 0 ≤ ((n : Nat) : Int) % 64 := by omega
        have b1 : ((n : Nat) : Int) % 64 < (cs.length : Int) := by rw [hcl]; omega
        obtain ⟨y, hy⟩ := ints_at b0 b1
        refine ⟨_, rfl, m, _, rfl, gC e2, ?_⟩
        refine ⟨_, rfl, _, rfl, .inl ⟨_, rfl, _, _, rfl, rfl, (by show (0 : Int) < 64; decide), c, _, _, _, rfl, rfl, SqL.of c2, hy, ?_⟩⟩
        refine ⟨_, rfl, _, _, rfl, rfl, ⟨by decide, by decide⟩, _, _, rfl, rfl, .inl ⟨by decide, by decide⟩, _, _, rfl, rfl, _, rfl, ?_⟩
        refine ⟨_, _, rfl, by omega, by omega, fun r1 => ?_⟩
        refine ⟨_, rfl, _, _, rfl, rfl, _, _, rfl, by omega, by omega, fun r2 => .inl ⟨_, rfl, _, rfl, _, _, rfl, rfl, l0, ?_⟩⟩
        exact k _ H2 (Int.emod_nonneg _ (by omega)) (Int.emod_lt_of_pos _ l0) M2 s2
end
end Lr


namespace Lr
open PySem PySem.Spec PyProof.Rows L2

def spBeg (K : PySem.W.Frag) : Sp := fun vs H Q _ => ∃ (a : Addr) (ns : List Int), vs = [.ref a] ∧ SqL K H a (ns.map V.int) ∧ ns.length ≤ 63 ∧
  ∀ (H' : Hp) (m c g : Addr), Same H H' → H m = none → H c = none → H g = none → Ms H' m c g 0 → Q (.ref m) H'

section
variable {P : Program} {w : World} {K : PySem.W.Frag} {mg : Str → Option Value} {base : Heap}
theorem scBeg : FnScope ["script", "m", "cell"] ["script"] (defScope sBeg) := ⟨rfl, rfl, rfl, by decide +kernel, rfl, by decide +kernel, by decide +kernel⟩
theorem ok_beg {f fL : Addr} {fd fdL : FuncData} (F : Fun K "_law_begun" "_law_begun" sBeg f fd) (T : Tx mg) (gL : mg "_law_folded" = some (.ref fL)) (kL : PySem.W.keepIn K (.ref fL) = true)
    (FL : Fun K "_law_folded" "_law_folded" sFol fL fdL) (bL : Binds K fdL ["script"] []) : FnOk P w K mg base CX0 2 f fd ["script"] (spBeg K) := by
  have GL : FnOk P w K mg base CX0 1 fL fdL ["script"] (spFol K) := ok_fol FL T
  refine F.ok scBeg (fun vs H Q E h => ?_) (fun cdv A outer s H vs Q E hr h => ?_)
  · obtain ⟨a, ns, rfl, _⟩ := h
    rfl
  · obtain ⟨a, ns, rfl, hS, hlen, k⟩ := h
    have hu := hu_of hr
    have hr1 : Room 1 _ := hr
    refine ⟨_, pss_cons (ps_set (i := 1) scBeg.nd rfl (.inl rfl) (pe_disp (pps_cons pe_str (pe_call GL hr1 (by rfl) gL kL bL .nil pass0 (pa_cons (pv 0) pa_nil)) (pps_cons pe_str (pe_lst pa_nil) (pps_cons pe_str pe_int pps_nil))) rfl rfl (by simp) (by decide)))
      (pss_cons (ps_dput hu (pv 1) pe_str (pe_lc (own := [("cell", 2)]) (g := gName 2) (tt := tYes) rfl scBeg.nd (pi_list (pv 0)) (blkOk_by (N := ["script", "m", "cell"]) (sc := defScope sBeg) (by decide +kernel))
        (fun _ _ _ _ _ => pg_name (i := 2) scBeg.nd rfl (.inl rfl)) (fun _ _ _ _ _ => pts_nil) (fun _ _ _ _ _ => pe_ifExp (pt_cmpR op_ge (pv 2) (pe_op op_pow pe_int pe_int) (nomark _)) (pv 2) pe_int)) rfl)
      (pss_one (ps_ret (pv 1)))), ?_⟩
    -- m = {'cells': _law_folded(script), 'great': [], 'spot': 0}
    refine fun m nm => ⟨_, rfl, a, ns, rfl, ?_, hlen, fun H1 c cs sm nc hc hcl => ⟨(by show 0 ≤ sizeLine; exact Nat.zero_le _), fun g ng => ?_⟩⟩
    · exact Same.seq (fun b o e => by rw [upd_ne (ne_of_none e nm)]; exact e) hS
    have m1 : H1 m = some (.dK []) := sm m _ upd_same
    have ncm : c ≠ m := fun e => by
      rw [e, upd_same] at nc
      cases nc
    have nc0 : H c = none := by rw [upd_ne ncm] at nc; exact nc
    have s1 : Same H H1 := fun b o e => sm b o (by rw [upd_ne (ne_of_none e nm)]; exact e)
    have ngm : g ≠ m := fun e => by
      rw [e, m1] at ng
      cases ng
    have ncg : c ≠ g := ne_of_none hc ng
    refine ⟨by rw [upd_ne ngm.symm]; exact m1, [(.inr "cells", .ref c), (.inr "great", .ref g), (.inr "spot", .int 0)], rfl, (by show 3 ≤ 15; decide), ?_⟩
    have e0 : mergeK [] [((.inr "cells" : Key), V.ref c), (.inr "great", .ref g), (.inr "spot", .int 0)] = kvM c g 0 := by rfl
    rw [e0]
    -- m['great'] = [cell if cell >= 10 ** 18 else 0 for cell in script]
    have sm2 : ∀ o, Same H (upd (upd H1 g (.lst [])) m o) := fun o b q e => by
      rw [upd_ne (ne_of_none e nm), upd_ne (ne_of_none (s1 b q e) ng)]
      exact s1 b q e
    have c2 : ∀ o, (upd (upd H1 g (.lst [])) m o) c = some (.lst (cs.map V.int)) := fun o => by
      rw [upd_ne ncm, upd_ne ncg]
      exact hc
    have m2 : (upd (upd H1 g (.lst [])) m (.dK (kvM c g 0))) m = some (.dK (kvM c g 0)) := upd_same
    have s2 := sm2 (.dK (kvM c g 0))
    have cc2 := c2 (.dK (kvM c g 0))
    revert m2 s2 cc2
    generalize upd (upd H1 g (.lst [])) m (.dK (kvM c g 0)) = H2
    intro m2 s2 cc2
    refine ⟨_, rfl, a, rfl, ⟨_, s2.seq hS⟩, fun D nD => ?_⟩
    refine lc_list (K := K) (a := a) (xs := ns.map V.int) (fun i H' => ∃ gs : List Int, gs.length = i ∧ IntsAt H' D gs ∧ Same H2 H') ⟨[], rfl, upd_same, fun b o e => by rw [upd_ne (ne_of_none e nD)]; exact e⟩
      (fun i H' _ ⟨_, _, _, s3⟩ => s3.seq (s2.seq hS)) ?_ ?_
    · rintro i x H' hi ⟨gs, hl, hg, s3⟩
      obtain ⟨z, rfl⟩ : ∃ z, x = V.int z := by
        rw [List.getElem?_map] at hi
        cases e : ns[i]? with
        | none =>
          rw [e] at hi
          cases hi
        | some z =>
          rw [e] at hi
          exact ⟨z, (Option.some.inj hi).symm⟩
      have hil : i < ns.length := by
        have q := (List.getElem?_eq_some_iff.mp hi).1
        rw [List.length_map] at q
        exact q
      have fin : ∀ y : Int, ∃ acc, H' D = some (.lst acc) ∧ acc.length < sizeLine ∧ ∃ gs : List Int, gs.length = i + 1 ∧ IntsAt (upd H' D (.lst (acc ++ [V.int y]))) D gs ∧ Same H2 (upd H' D (.lst (acc ++ [V.int y]))) := fun y => by
        refine ⟨_, hg, by rw [List.length_map, hl, sizeLine_eq]; omega, gs ++ [y], by simp [hl], ?_, fun b o e => by rw [upd_ne (ne_of_none e nD)]; exact s3 b o e⟩
        unfold IntsAt
        rw [upd_same, List.map_append]
        rfl
      refine ⟨rfl, yes_of ?_⟩
      refine ⟨_, rfl, _, _, rfl, rfl, ⟨by decide, by decide, by decide⟩, _, _, rfl, rfl, _, rfl, ?_⟩
      refine ite2 (fun _ => ?_) (fun _ => ?_)
      · exact ⟨_, rfl, fin _⟩
      · exact fin _
    rintro H3 ⟨gs, hgl, hg3, s3⟩
    rw [List.length_map] at hgl
    refine ⟨_, rfl, m, _, rfl, DPut.k (k := .inr "great") (s3 _ _ m2) (by show 3 < sizeLine; rw [sizeLine_eq]; decide), ?_⟩
    rw [kv_putG]
    have nDm : m ≠ D := ne_of_none m2 nD
    have nDc : c ≠ D := ne_of_none cc2 nD
    refine ⟨_, rfl, k _ m c D (fun b o e => ?_) nm nc0 (s2.free nD) ⟨upd_same, ⟨cs, hcl, ?_⟩, ⟨gs, by omega, ?_⟩, nDc⟩⟩
    · rw [upd_ne (ne_of_none e nm)]
      exact s3 b o (s2 b o e)
    · unfold IntsAt
      rw [upd_ne ncm]
      exact s3 _ _ cc2
    · unfold IntsAt
      rw [upd_ne nDm.symm]
      exact hg3
end
end Lr

namespace PySem
namespace Ev
open PySem.W PySem.Calls PyProof.Rows PySem.HandSPX
section
open Builtin Builtin.ObjectAttr
variable {prog : Program} {w : World} {A : Around} {R : Result → Shared → Prop}
variable {hp : Heap} {g : Array GenState} {d : Drawn} {t : Nat} {os : OsState}
variable {K : W.Frag} {name : Str} {tk : Tok} {v : Value} {x C : Addr} {fv : Array Value} {cd : ClassData}

/-- what the store into an own exception asks of its class's chain -/
structure Chain (l : List Value) : Prop where
  ne : l.isEmpty = false
  ob : l.contains (.type "object") = true
  pass : ∀ self : Value, refuseLoop self "__setattr__" l = pure ()

theorem first_store (X : K.In hp) (at_x : hp.get? x = some { cls := .ref C, data := .fields fv })
    (of_C : W.clsIn K C = some cd) (ch : Chain cd.mro) (dict_so : cd.hasDict = true)
    (free : W.findIn K (.ref C) name = some none)
    (then_ : ∀ h' tk' dx, (∀ b o, b ≠ x → hp.get? b = some o → h'.get? b = some o) → hp.objs.size ≤ dx → dx ≠ x →
      h'.get? x = some { cls := .ref C, dict := some dx, data := .fields fv } →
      h'.Ns1 dx (fun y => if y = name then some v else none) →
      R (.ok (.ret .none)) ⟨h', g, d, tk', os⟩) :
    codeAny (model prog w) A (.call (.builtin "object.__setattr__") ⟨[.ref x, .str name tk, v], []⟩) R ⟨hp, g, d, t, os⟩ := by
  have inst : W.InstAt hp x { cls := .ref C, data := .fields fv } C none := ⟨at_x, rfl, rfl, trivial⟩
  have S := F.store_object
  have apart : x ≠ hp.objs.size := Nat.ne_of_lt (Heap.lt_size at_x)
  have under : W.Looks (model prog w) hp (isInstance (.ref x) (.type "object")) true :=
    inst.type.andThen (W.looks_mroIn X (by
      unfold W.mroIn
      rw [of_C, Option.bind_some, if_neg (by rw [ch.ne]; decide), ch.ob]))
  refine codeAny_call_builtin S.slot.plain S.entry ?_
  refine @W.check_slot (model prog w) _ _ ⟨hp, g, d, t, os⟩ "object.__setattr__" "object" "__setattr__" (.ref x)
    [.str name tk, v] [] _ S.kind S.split under (S.args (.ref x) (.str name tk) v) ?_
  have look_mro : W.Looks (model prog w) hp (mroOf (.ref C)) cd.mro := (W.looks_clsIn X of_C).andThen .now
  have no_taker : W.Looks (model prog w) hp (storeTaker? none) none := .now
  have look_cls : W.Looks (model prog w) hp (classData C) cd := W.looks_clsIn X of_C
  rw [W.osa_eq, refuse_eq]
  refine wpAny_bind (wpAny_bind (inst.type.at (wpAny_bind (look_mro.at ?_))))
  rw [ch.pass]
  refine wpAny_pure (wpAny_bind (inst.type.at (wpAny_bind ((W.looks_findIn X free).at ?_))))
  refine wpAny_bind (no_taker.at ?_)
  show wpAny _ _ (storeInOwnDict (.ref x) (.ref C) (.str name tk) name v false) _ _ _
  obtain ⟨c1, c2, c3, c4, c5, c6, c7, c8, c9, c10, c11⟩ := cd
  dsimp only at dict_so
  subst dict_so
  unfold storeInOwnDict ownDictForStores
  repeat (first
    | with_reducible refine store_in_new ?_ ?_
    | with_reducible refine wpAny_loadPart_at at_x ?_
    | with_reducible refine look_cls.at ?_
    | wp_step)
  · exact ⟨_, #[], _, (Heap.get?_update_ne _ _ _ _ apart.symm).trans (Heap.get?_push_at rfl rfl), rfl,
      fun e he => absurd he (by simp), fun _ => rfl⟩
  · intro h' tk' ns' same
    have still : (hp.push { cls := .type "dict", data := .dict #[] }).get? x = some { cls := .ref C, data := .fields fv } :=
      Heap.get?_push_of_some _ at_x
    refine then_ h' tk' hp.objs.size (fun b o hb ho => ?_) (Nat.le_refl _) apart.symm ?_ ns'
    · refine (same.2 b (Nat.ne_of_lt (Heap.lt_size ho))).trans ?_
      exact (Heap.get?_update_ne _ _ _ _ hb).trans (Heap.get?_push_of_some _ ho)
    · exact (same.2 x apart).trans (Heap.get?_update_self _ still rfl)

theorem next_store {dx : Addr} {m0 : Str → Option Value} {nl : List Str} (X : K.In hp)
    (at_x : hp.get? x = some { cls := .ref C, dict := some dx, data := .fields fv })
    (ns : hp.Ns1 dx m0) (wi : Within m0 nl) (few : nl.length ≤ 1000)
    (of_C : W.clsIn K C = some cd) (ch : Chain cd.mro) (dict_so : cd.hasDict = true)
    (free : W.findIn K (.ref C) name = some none)
    (then_ : ∀ h' tk', (∀ b o, b ≠ dx → hp.get? b = some o → h'.get? b = some o) →
      h'.Ns1 dx (fun y => if y = name then some v else m0 y) → R (.ok (.ret .none)) ⟨h', g, d, tk', os⟩) :
    codeAny (model prog w) A (.call (.builtin "object.__setattr__") ⟨[.ref x, .str name tk, v], []⟩) R ⟨hp, g, d, t, os⟩ := by
  obtain ⟨oD, esD, epD, hoD, hdD, _⟩ := ns.count wi
  have inst : W.InstAt hp x { cls := .ref C, dict := some dx, data := .fields fv } C (some oD) := ⟨at_x, rfl, rfl, hoD⟩
  have S := F.store_object
  have under : W.Looks (model prog w) hp (isInstance (.ref x) (.type "object")) true :=
    inst.type.andThen (W.looks_mroIn X (by
      unfold W.mroIn
      rw [of_C, Option.bind_some, if_neg (by rw [ch.ne]; decide), ch.ob]))
  refine codeAny_call_builtin S.slot.plain S.entry ?_
  refine @W.check_slot (model prog w) _ _ ⟨hp, g, d, t, os⟩ "object.__setattr__" "object" "__setattr__" (.ref x)
    [.str name tk, v] [] _ S.kind S.split under (S.args (.ref x) (.str name tk) v) ?_
  have look_mro : W.Looks (model prog w) hp (mroOf (.ref C)) cd.mro := (W.looks_clsIn X of_C).andThen .now
  have no_taker : W.Looks (model prog w) hp (storeTaker? none) none := .now
  have look_cls : W.Looks (model prog w) hp (classData C) cd := W.looks_clsIn X of_C
  rw [W.osa_eq, refuse_eq]
  refine wpAny_bind (wpAny_bind (inst.type.at (wpAny_bind (look_mro.at ?_))))
  rw [ch.pass]
  refine wpAny_pure (wpAny_bind (inst.type.at (wpAny_bind ((W.looks_findIn X free).at ?_))))
  refine wpAny_bind (no_taker.at ?_)
  show wpAny _ _ (storeInOwnDict (.ref x) (.ref C) (.str name tk) name v false) _ _ _
  obtain ⟨c1, c2, c3, c4, c5, c6, c7, c8, c9, c10, c11⟩ := cd
  dsimp only at dict_so
  subst dict_so
  unfold storeInOwnDict ownDictForStores
  repeat (first
    | with_reducible refine OEX.store_in_old ns wi few ?_
    | with_reducible refine wpAny_loadPart_at at_x ?_
    | with_reducible refine look_cls.at ?_
    | wp_step)
  intro h' tk' ns' same
  exact then_ h' tk' (fun b o hb ho => (same.2 b hb).trans ho) ns'
end

section
variable {prog : Program} {w : World} {A : Around} {E : Value → Shared → Prop} {R : Result → Shared → Prop} {h : Heap} {g : Array GenState}
variable {d : Drawn} {t : Nat} {os : OsState} {M : Model}
variable {nm q : Str} {C N : Addr} {bs bm bmB : List Value} {sn : List Str} {sub : List Value} {ab : Bool} {col : Option Bool} {dd : Option Addr}
variable {k0 k1 k2 k3 k5 : Option Value} {B newId initId : String} {rest : List Value} {kw : List (Str × Value)}

theorem check_new_kw (F : ExcBaseFacts B newId initId bmB) (hT : ∀ X : String, bm.contains (.type X) = bmB.contains (.type X)) {Q : Unit → Shared → Prop}
    (at_C : h.get? C = some (excClassObj nm q C N bs bm true sn sub ab col dd k0 k1 k2 k3 k5 newId)) (done : Q () ⟨h, g, d, t, os⟩) :
    wpAny M A (checkBuiltinCall newId ⟨.ref C :: rest, kw⟩) Q E ⟨h, g, d, t, os⟩ := by
  have has : (Value.ref C :: bm).contains (.type B) = true := by rw [List.contains_cons, hT, F.hasB, Bool.or_true]
  have st := F.noStar
  simp only [checkBuiltinCall, F.newKind, F.newSplit, F.newRow]
  repeat (first
    | refine wpAny_loadPart_at at_C ?_
    | (refine wpAny_isSubtype_exc at_C ?_; rw [has])
    | refine wpAny_staticBase_exc at_C ?_
    | refine wpAny_madeBy_exc at_C ?_
    | simp only [bne_self_eq_false, Bool.false_eq_true, if_false]
    | wp_step)
  exact done
end
end Ev
end PySem

namespace PySem
namespace Ev
open PySem.W PySem.Calls PyProof.Rows PySem.HandSPX
section
variable {prog : Program} {w : World} {A : Around} {E : Value → Shared → Prop} {R : Result → Shared → Prop} {h : Heap} {g : Array GenState}
variable {d : Drawn} {t : Nat} {os : OsState}
variable {nm q : Str} {C N : Addr} {bs bm bmB : List Value} {sn : List Str} {sub : List Value} {ab : Bool} {col : Option Bool} {dd : Option Addr}
variable {k0 k1 k2 k3 k5 : Option Value} {B newId initId : String} {rest : List Value} {kw : List (Str × Value)}

theorem new_kw (F : ExcBaseFacts B newId initId bmB) (hT : ∀ X : String, bm.contains (.type X) = bmB.contains (.type X))
    (at_C : h.get? C = some (excClassObj nm q C N bs bm true sn sub ab col dd k0 k1 k2 k3 k5 newId))
    (done : R (.ok (.ret (.ref (h.objs.size + 1)))) ⟨(h.push (W.kdv_tup rest)).push (excO C h.objs.size), g, d, t, os⟩)
    (few : rest.length ≤ sizeLine) :
    codeAny (model prog w) A (.builtin newId ⟨.ref C :: rest, kw⟩) R ⟨h, g, d, t, os⟩ := by
  have ends := F.ends
  have inB : (Value.ref C :: bm).contains (.type B) = true := by rw [List.contains_cons, hT, F.hasB, Bool.or_true]
  have notA : (Value.ref C :: bm).contains (.type "AttributeError") = false := by
    rw [List.contains_cons, hT, F.noAttr]
    rfl
  have notN : (Value.ref C :: bm).contains (.type "NameError") = false := by
    rw [List.contains_cons, hT, F.noName]
    rfl
  refine codeAny_builtinAt F.entry ?_
  unfold Builtin.«BaseException.__new__»
  refine wpAt_bind ?_
  show wpAt _ _ _ (stack >>= _) _ _ _
  refine wpAt_bind (wpAt_stack fun p below => wpAt_of_wpAny ?_)
  wp_walk
  refine wpAt_of_wpAny ?_
  rw [F.owner]
  repeat (first
    | with_reducible refine wpAny_madeHere_exc F.canon at_C ?_
    | with_reducible refine wpAny_loadPart_at at_C ?_
    | (with_reducible refine wpAny_isSubtype_exc at_C ?_; first | rw [inB] | rw [notA] | rw [notN])
    | wp_step)
  show R _ _
  rw [Heap.size_push]
  exact done

theorem type_call_kw (F : ExcBaseFacts B newId initId bmB) (hT : ∀ X : String, bm.contains (.type X) = bmB.contains (.type X)) {fI : Addr} {Q : Fin → Shared → Prop}
    (at_C : h.get? C = some (excClassObj nm q C N bs bm true sn sub ab col dd k0 k1 k2 k3 k5 newId))
    (hi : W.Looks (model prog w) h (typeLookup (.ref C) "__init__") (some (.ref fI)))
    (hb : ∀ self, W.Looks (model prog w) h (bindSpecial (.ref fI) self) (.ref fI, [self])) (few : rest.length ≤ sizeLine)
    (go : codeAny (model prog w) A (.call (.ref fI) ⟨.ref (h.objs.size + 1) :: rest, kw⟩)
      (fun r s' => match r with
        | .ok (.ret v) => v = .none ∧ Q (.done (.ret (.ref (h.objs.size + 1)))) s'
        | .ok _ => False
        | .error e => E e s')
      ⟨(h.push (W.kdv_tup rest)).push (excO C h.objs.size), g, d, t, os⟩) :
    wpAny (model prog w) A (Builtin.«type.__call__» ⟨.ref C :: rest, kw⟩) Q E ⟨h, g, d, t, os⟩ := by
  repeat (first
    | with_reducible refine wpAny_loadPart_at at_C ?_
    | with_reducible refine wpAny_madeBy_exc at_C ?_
    | wp_step)
  refine codeAny_call_builtin_code (Code.quiet_builtin _ F.quiet) (check_new_kw F hT at_C ?_)
  refine new_kw F hT at_C ?_ few
  show wpAny _ _ _ _ _ _
  have old : ∀ b o, h.get? b = some o → ((h.push (W.kdv_tup rest)).push (excO C h.objs.size)).get? b = some o :=
    fun b o e => Heap.get?_push_of_some _ (Heap.get?_push_of_some _ e)
  have at_C2 := old _ _ at_C
  have at_e : ((h.push (W.kdv_tup rest)).push (excO C h.objs.size)).get? (h.objs.size + 1) = some (excO C h.objs.size) := by heap_get
  have selfC : (Value.ref C :: bm).contains (.ref C) = true := by simp
  have i1 := hi.keeps old
  have b1 := (hb (.ref (h.objs.size + 1))).keeps old
  unfold isInstance
  repeat (first
    | with_reducible refine wpAny_loadPart_at at_e ?_
    | (with_reducible refine wpAny_isSubtype_exc at_C2 ?_; rw [selfC])
    | wp_step)
  show wpAny _ _ (typeLookup (.ref C) _) _ _ _
  refine i1.at ?_
  refine wpAny_holding (wpAny_bind (b1.at ?_))
  refine wpAny_bind (wpAny_call (codeAny_mono go fun r s' z => ?_))
  rcases r with e | (v | _ | _ | _) <;> first | exact z | exact z.elim | skip
  obtain ⟨rfl, z⟩ := z
  first
    | exact wpAny_pure (wpAny_pure z)
    | (wp_walk; exact z)

theorem check_call_kw {Q : Unit → Shared → Prop} (at_C : h.get? C = some (excClassObj nm q C N bs bm true sn sub ab col dd k0 k1 k2 k3 k5 newId))
    (done : Q () ⟨h, g, d, t, os⟩) : wpAny (model prog w) A (checkBuiltinCall "type.__call__" ⟨.ref C :: rest, kw⟩) Q E ⟨h, g, d, t, os⟩ := by
  have f3 := tc_sub
  have ty : (⟨h, g, d, t, os⟩ : Shared).TypeIs (.ref C) "type" := ⟨_, at_C, rfl⟩
  simp only [checkBuiltinCall, tc_kind, tc_split]
  repeat (any_goals (first
    | assumption
    | with_reducible refine wpAny_loadPart_at at_C ?_
    | with_reducible refine wpAny_onRaise ?_
    | with_reducible refine wpAny_map ?_
    | wp_step))

theorem call_kw (F : ExcBaseFacts B newId initId bmB) (hT : ∀ X : String, bm.contains (.type X) = bmB.contains (.type X)) {fI : Addr}
    (at_C : h.get? C = some (excClassObj nm q C N bs bm true sn sub ab col dd k0 k1 k2 k3 k5 newId))
    (hi : W.Looks (model prog w) h (typeLookup (.ref C) "__init__") (some (.ref fI)))
    (hb : ∀ self, W.Looks (model prog w) h (bindSpecial (.ref fI) self) (.ref fI, [self])) (few : rest.length ≤ sizeLine)
    (go : codeAny (model prog w) (A.under (.builtin "type.__call__" ⟨.ref C :: rest, kw⟩)) (.call (.ref fI) ⟨.ref (h.objs.size + 1) :: rest, kw⟩)
      (W.InitBack (h.objs.size + 1) R) ⟨(h.push (W.kdv_tup rest)).push (excO C h.objs.size), g, d, t, os⟩) :
    codeAny (model prog w) A (.call (.ref C) ⟨rest, kw⟩) R ⟨h, g, d, t, os⟩ := by
  have f1 := tc_lookup
  have f2 := tc_bind (.ref C)
  have ty : (⟨h, g, d, t, os⟩ : Shared).TypeIs (.ref C) "type" := ⟨_, at_C, rfl⟩
  refine codeAny_of_tree ?_
  show wpAny _ _ (callAny (.ref C) _) _ _ _
  repeat (any_goals (first
    | assumption
    | with_reducible refine wpAny_loadPart_at at_C ?_
    | wp_step))
  refine ⟨rfl, ?_⟩
  refine codeAny_call_builtin_at (Code.quiet_builtin _ (by decide +kernel)) entry_typeCall ?_
  refine check_call_kw at_C (type_call_kw F hT at_C hi hb few ?_)
  refine codeAny_mono go fun r s' z => ?_
  rcases r with e | (v | _ | _ | _) <;> exact z
end
end Ev
end PySem

namespace L2
open PySem PySem.Spec PyProof.Rows

/-- what the written part says of an own exception class at C: its chain is own classes, then tail (that of the built-in B) -/
structure XT (K : PySem.W.Frag) (B newId initId : String) (tail : List Value) (C : Addr) : Prop where
  F : ExcBaseFacts B newId initId tail
  SF : StoreFacts B tail "object.__setattr__" "object"
  te : tail.isEmpty = false
  cls : ∃ nm q N bs, ∃ cs : List Addr, ∃ sn sub ab col dd k0 k1 k2 k3 k5,
    K.lookup C = some (excClassObj nm q C N bs (cs.map Value.ref ++ tail) true sn sub ab col dd k0 k1 k2 k3 k5 newId)
  sa : PySem.W.findIn K (.ref C) "__setattr__" = some (some (.builtin "object.__setattr__"))
  ga : PySem.W.findIn K (.ref C) "__getattribute__" = some (some (.builtin "BaseException.__getattribute__"))
  gg : PySem.W.findIn K (.ref C) "__getattr__" = some none
  ex : PySem.W.subIn K (.ref C) (.type "BaseException") = some true
  kp : PySem.W.keepIn K (.ref C) = true
  hd : PySem.W.hasDictIn K C = true
  ha : PySem.W.findIn K (.ref C) "__class__" = some (some (.builtin "object.__class__"))
  hn : PySem.W.specialIn K (.builtin "object.__class__") "__get__" = some (some (.builtin "getset_descriptor.__get__"))
  ht : PySem.W.takesIn K (.builtin "object.__class__") = some true
  hm : PySem.W.mroIn K C (.type "object") = some true

theorem own_contains (X : String) (tail : List Value) : ∀ cs : List Addr, (cs.map Value.ref ++ tail).contains (.type X) = tail.contains (.type X)
  | [] => rfl
  | c :: cs => by
    show (Value.ref c :: (cs.map Value.ref ++ tail)).contains (.type X) = _
    rw [List.contains_cons, own_contains X tail cs]
    rfl
theorem own_pass {B sa ow : String} {tail : List Value} (S : StoreFacts B tail sa ow) (self : Value) : ∀ cs : List Addr, refuseLoop self "__setattr__" (cs.map Value.ref ++ tail) = pure ()
  | [] => S.passes self
  | c :: cs => by
    show refuseLoop self "__setattr__" (Value.ref c :: (cs.map Value.ref ++ tail)) = _
    rw [refuseLoop_ref]
    exact own_pass S self cs

section
variable {X : Cx} {pins : List (Addr × Obj)} {σ : L2.St} {H : Hp} {s : Shared} {a C dx : Addr} {f : Str} {y : V} {u : Value} {fs : List (Str × V)} {Q : Unit → Shared → Prop} {E : Value → Shared → Prop} {A : Around}
variable {B newId initId : String} {tail : List Value}

theorem XT.chain {K : PySem.W.Frag} (T : XT K B newId initId tail C) (cs : List Addr) : Ev.Chain (.ref C :: (cs.map Value.ref ++ tail)) where
  ne := rfl
  ob := by
    rw [List.contains_cons, own_contains, T.SF.hasOwner]
    rfl
  pass := fun self => by
    rw [refuseLoop_ref]
    exact own_pass T.SF self cs

/-- self.f = y, the first field -/
theorem fx_first (T : XT X.K B newId initId tail C) (I : Inv X pins σ H s) (e : H a = some (exo a C none)) (free : PySem.W.findIn X.K (.ref C) f = some none) (ry : RelV y u)
    (h : ∀ dx s', H dx = none → dx ≠ a → Inv X pins σ (upd (upd H dx (exd dx [(f, y)])) a (exo a C (some dx))) s' → Q () s') :
    wpAny (model X.prog X.w) A (setAttr (.ref a) f u) Q E s := by
  obtain ⟨nm, q, N, bs, cs, sn, sub, ab, col, dd, k0, k1, k2, k3, k5, atC⟩ := T.cls
  have look : PySem.W.clsIn X.K C = some { name := nm, bases := bs, mro := .ref C :: (cs.map Value.ref ++ tail), ns := N, qualname := q, hasDict := true, slotNames := sn, subclasses := sub, abstract := ab, collection := col, hasDel := false } := by
    unfold PySem.W.clsIn
    rw [atC] <;> rfl
  obtain ⟨t1, ho⟩ := exo_at I.hok e
  obtain ⟨hp, g, d, t, os⟩ := s
  refine PySem.W.set_plain I.kIn (ox := { cls := .ref C, dict := none, data := .fields #[.ref t1, .none, .none, .none, .bool false, .none] }) (od := none) ⟨ho, rfl, rfl, trivial⟩ T.sa ?_
  refine Ev.first_store I.kIn ho look (T.chain cs) rfl free fun h' tk' dx k dn dne hx hn => ?_
  have none_d : H dx = none := I.hok.fresh dn
  have notD : ∀ {b : Addr} {o : Obj}, hp.get? b = some o → b ≠ dx := fun {b o} z => Nat.ne_of_lt (Nat.lt_of_lt_of_le (Heap.lt_size z) dn)
  have notA : ∀ {b : Addr}, H b = none → b ≠ a := fun {b} n z => by
    rw [z, e] at n
    cases n
  have un : Un X.fs [] H (upd (upd H dx (exd dx [(f, y)])) a (exo a C (some dx))) hp h' :=
    { keep := fun b o z n _ _ => k b o (notA n) z
      slot := fun b o z n _ _ => ⟨o.slots, k b o (notA n) z⟩
      free := fun b o z n _ => by
        rw [upd_ne (notA n), upd_ne (notD z)]
        exact n
      there := fun b o z _ => by
        by_cases hb : b = a
        · subst hb
          exact ⟨_, hx⟩
        · exact ⟨o, k b o hb z⟩
      tups := fun b xs z => by
        rw [upd_ne (at_ne e z exo_tup), upd_ne (ne_of_none z none_d)]
        exact z
      frzs := fun b o v z => by
        rw [upd_ne (at_ne e z exo_frz), upd_ne (ne_of_none z none_d)]
        exact z
      tbls := fun b ps z => ⟨#[], by
        rw [upd_ne (at_ne e z exo_tbl), upd_ne (ne_of_none z none_d), z]
        simp⟩ }
  refine h dx _ none_d dne (I.un (t' := tk') un fun b o z => ?_)
  by_cases hb : b = a
  · subst hb
    rw [upd_same] at z
    cases z
    exact exo_ok hx
  rw [upd_ne hb] at z
  by_cases hd : b = dx
  · subst hd
    rw [upd_same] at z
    cases z
    exact exd_ok hn (relO_put (fs := []) ry fun g => True.intro)
  rw [upd_ne hd] at z
  have own_ne : ∀ {c : Addr}, H c = some (.own b) → c ≠ a := fun hc => at_ne e hc exo_own
  refine (I.hok b o z).stay (fun c v hc y => k c v ?_ y) (fun c hc => ?_) fun c xs hc => ?_
  · rcases hc with hc | hc
    · exact hc ▸ hb
    · exact own_ne hc
  · rw [upd_ne (own_ne hc), upd_ne (ne_of_none hc none_d)]
    exact hc
  · rw [upd_ne (at_ne e hc exo_tup), upd_ne (ne_of_none hc none_d)]
    exact hc

/-- self.f = y, a field more -/
theorem fx_next (T : XT X.K B newId initId tail C) (I : Inv X pins σ H s) (e : H a = some (exo a C (some dx))) (ed : H dx = some (exd dx fs)) (few : fs.length ≤ 900)
    (free : PySem.W.findIn X.K (.ref C) f = some none) (ry : RelV y u) (h : ∀ s', Inv X pins σ (upd H dx (exd dx ((f, y) :: fs))) s' → Q () s') :
    wpAny (model X.prog X.w) A (setAttr (.ref a) f u) Q E s := by
  obtain ⟨nm, q, N, bs, cs, sn, sub, ab, col, dd, k0, k1, k2, k3, k5, atC⟩ := T.cls
  have look : PySem.W.clsIn X.K C = some { name := nm, bases := bs, mro := .ref C :: (cs.map Value.ref ++ tail), ns := N, qualname := q, hasDict := true, slotNames := sn, subclasses := sub, abstract := ab, collection := col, hasDel := false } := by
    unfold PySem.W.clsIn
    rw [atC] <;> rfl
  obtain ⟨t1, ho⟩ := exo_at I.hok e
  obtain ⟨mA, hns, rel⟩ := exd_at I.hok ed
  have wi := within_of rel
  obtain ⟨hp, g, d, t, os⟩ := s
  obtain ⟨oD, _, _, hoD, _, _⟩ := hns.count wi
  refine PySem.W.set_plain I.kIn (ox := { cls := .ref C, dict := some dx, data := .fields #[.ref t1, .none, .none, .none, .bool false, .none] }) (od := some oD) ⟨ho, rfl, rfl, hoD⟩ T.sa ?_
  refine Ev.next_store I.kIn ho hns wi ?_ look (T.chain cs) rfl free fun h' tk' k hn => ?_
  · rw [List.length_map]
    omega
  have there : ∃ o, h'.get? dx = some o := by
    obtain ⟨o, _, _, z, _⟩ := hn
    exact ⟨o, z⟩
  refine h _ (I.write (t' := tk') (x := dx) (e := dx) (o := exd dx ((f, y) :: fs)) ?_ (.inl rfl) k there (exd_ok hn (relO_put ry rel)))
  rw [ed]
  exact True.intro
end

/-- self.f = e in an __init__ -/
def tFx (K : PySem.W.Frag) (f : Str) (to te : TE) : TS := fun D σ H => te σ H fun y H1 => to σ H1 fun x H2 => ∃ (B newId initId : String) (tail : List Value) (a C : Addr), x = .ref a ∧ XT K B newId initId tail C ∧ PySem.W.findIn K (.ref C) f = some none ∧
  ((H2 a = some (exo a C none) ∧ ∀ dx, H2 dx = none → dx ≠ a → D.nx σ (upd (upd H2 dx (exd dx [(f, y)])) a (exo a C (some dx)))) ∨
    ∃ (dx : Addr) (fs : List (Str × V)), H2 a = some (exo a C (some dx)) ∧ H2 dx = some (exd dx fs) ∧ fs.length ≤ 900 ∧ D.nx σ (upd H2 dx (exd dx ((f, y) :: fs))))
theorem ps_fx {X : Cx} {o e : Expr} {to te : TE} {f : Str} {p' pos : Pos} (ho : PE X o to) (he : PE X e te) (hs : swapsWith e (some (.Attribute o f p')) pos.line X.env = pure false := by rfl) :
    PS X (.Assign [.Attribute o f p'] e pos) (tFx X.K f to te) := by
  refine ⟨fun pins s σ H D I h => ?_⟩
  refine plainObj_wpAny_Assign_Attribute (thn (he.run pins s σ H _ I h) fun v s1 hv => ?_) hs
  obtain ⟨y, H1, I1, r1, q1⟩ := hv
  refine thn (ho.run pins s1 σ H1 _ I1 q1) fun u s2 hu => ?_
  obtain ⟨x, H2, I2, r2, B, newId, initId, tail, a, C, ex, T, free, q⟩ := hu
  subst ex
  obtain rfl : u = Value.ref a := r2
  rcases q with ⟨ea, q⟩ | ⟨dx, fs, ea, ed, few, q⟩
  · exact fx_first T I2 ea free r1 fun dx s' n ne J => ⟨σ, _, J, q dx n ne⟩
  · exact fx_next T I2 ea ed few free r1 fun s' J => ⟨σ, _, J, q⟩
end L2

namespace L2
open PySem PySem.Spec PyProof.Rows
section
variable {X : Cx} {pins : List (Addr × Obj)} {σ : L2.St} {H : Hp} {s : Shared} {C fI : Addr} {Q : VK} {E : XK} {CX : CXT} {k : Nat} {fd : FuncData} {ps ks : List Str} {sp : Sp}
variable {B newId initId : String} {tail : List Value} {x : Str} {p pos : Pos} {e : Expr} {es : List Expr} {kws : List Keyword} {t tk te : TA}

/-- a call of the class, whatever way its arguments come -/
theorem run_mkx {us zs : List Value} {kw : List (Str × Value)} {vs : List V} (T : XT X.K B newId initId tail C) (iC : PySem.W.findIn X.K (.ref C) "__init__" = some (some (.ref fI))) (tI : PySem.W.typeIn X.K (.ref fI) = some (.type "function"))
    (G : FnOk X.prog X.w X.K X.mg X.base CX k fI fd ps sp) (hr : Room (k + 1) X.A) (hx : Passes CX X E)
    (bind : ∀ (s : Shared) (a : Value), X.K.In s.heap → (a :: zs).length = ps.length → BindsTo s fd ⟨a :: us, kw⟩ (ps.zip (a :: zs))) (I : Inv X pins σ H s) (r : Vals vs zs) (few : us.length ≤ sizeLine)
    (h : ∀ a, H a = none → sp (.ref a :: vs) (upd H a (exo a C none)) (fun v H2 => v = .non ∧ Q (.ref a) H2) E) :
    wpAny (model X.prog X.w) X.A (call (.ref C) us kw) (EP X pins σ Q) X.xe s := by
  obtain ⟨nm, q, N, bs, cs, sn, sub, ab, col, dd, k0, k1, k2, k3, k5, atC⟩ := T.cls
  obtain ⟨hp, g, dr, tk, os⟩ := s
  have le : hp.objs.size ≤ hp.objs.size + 1 := Nat.le_succ _
  have want := h (hp.objs.size + 1) (I.hok.fresh le)
  have old : ∀ b o, hp.get? b = some o → ((hp.push (PySem.W.kdv_tup us)).push (PySem.HandSPX.excO C hp.objs.size)).get? b = some o :=
    fun b o z => Heap.get?_push_of_some _ (Heap.get?_push_of_some _ z)
  have new : ((hp.push (PySem.W.kdv_tup us)).push (PySem.HandSPX.excO C hp.objs.size)).get? (hp.objs.size + 1) = some (PySem.HandSPX.excO C hp.objs.size) := by heap_get
  have I2 : Inv X pins σ (upd H (hp.objs.size + 1) (exo (hp.objs.size + 1) C none)) ⟨(hp.push (PySem.W.kdv_tup us)).push (PySem.HandSPX.excO C hp.objs.size), g, dr, tk, os⟩ :=
    I.laid (t' := tk) (a := hp.objs.size + 1) (o := exo (hp.objs.size + 1) C none) (h' := (hp.push (PySem.W.kdv_tup us)).push (PySem.HandSPX.excO C hp.objs.size)) old le (exo_ok new)
  have r2 : Vals (V.ref (hp.objs.size + 1) :: vs) (Value.ref (hp.objs.size + 1) :: zs) := .cons rfl r
  have len : (Value.ref (hp.objs.size + 1) :: zs).length = ps.length := by
    have z := r2.length
    rw [G.len _ _ _ _ want] at z
    exact z.symm
  refine wpAny_call (Ev.call_kw T.F (fun Y => own_contains Y tail cs) (I.kIn _ _ atC) (PySem.W.looks_findIn I.kIn iC) (fun self => PySem.W.bind_fn I.kIn self tI) few ?_)
  refine codeAny_mono (G.run _ X.stack _ _ ⟨Value.ref (hp.objs.size + 1) :: us, kw⟩ (Value.ref (hp.objs.size + 1) :: zs) _ _ E (hr.make C us kw) (I2.env0.make C us kw) (bind _ _ I2.kIn len) r2 want) fun r s' back => ?_
  cases r with
  | error er => exact hx pins σ _ _ er s' I2 back
  | ok fl =>
    cases fl with
    | ret u =>
      obtain ⟨v, H', I3, rv, ev, q3⟩ := I2.after back
      subst ev
      exact ⟨rv, ⟨V.ref (hp.objs.size + 1), H', I3, rfl, q3⟩⟩
    | next => exact False.elim back
    | brk => exact False.elim back
    | cont => exact False.elim back

/-- C(e, ..) as a value: a new exception object whose own __init__ keeps sp -/
def tMkx (C : Addr) (sp : Sp) (E : XK) (t : TA) : TE := fun σ H Q => t σ H fun vs H1 => vs.length ≤ 1000 ∧ ∀ a, H1 a = none → sp (.ref a :: vs) (upd H1 a (exo a C none)) (fun v H2 => v = .non ∧ Q (.ref a) H2) E
theorem pe_mkx (T : XT X.K B newId initId tail C) (iC : PySem.W.findIn X.K (.ref C) "__init__" = some (some (.ref fI))) (tI : PySem.W.typeIn X.K (.ref fI) = some (.type "function"))
    (G : FnOk X.prog X.w X.K X.mg X.base CX k fI fd ps sp) (hr : Room (k + 1) X.A) (hb : Binds X.K fd ps []) (hx : Passes CX X E) (hg : Gl X x) (hm : X.mg x = some (.ref C)) (ha : PA X (e :: es) t)
    (hdb : (x == ("__debug__" : Str)) = false := by decide) (he : starEach (e :: es) X.env = (false, eval e X.env) :: starEach es X.env := by rfl) (hpl : (backTo pos (starEach es X.env)).any (·.1) = false := by rfl) :
    PE X (.Call (.Name x p) (e :: es) [] pos) (tMkx C sp E t) := by
  refine ⟨fun pins s σ H Q I h => wpAny_Call_Name_kw (ld_glob I hg hm ?_ hdb)⟩
  refine PySem.W.callWith_K (h₀ := X.base) I.ok.mod.kin T.kp (thn (ha.run pos pins s σ H _ I h) fun us s1 hu => ?_) he hpl
  obtain ⟨vs, H1, I1, r1, few, q1⟩ := hu
  refine ⟨I1.kIn, run_mkx (kw := []) (zs := us) T iC tI G hr hx (fun s a kin hl => ?_) I1 r1 ?_ q1⟩
  · have z := hb s (a :: us) kin (by simpa using hl)
    simpa using z
  · show us.length ≤ sizeLine
    rw [← Paired.length r1, sizeLine_eq]
    omega
/-- C(f=e): one keyword, no other argument -/
theorem pe_mkxK {f : Str} (T : XT X.K B newId initId tail C) (iC : PySem.W.findIn X.K (.ref C) "__init__" = some (some (.ref fI))) (tI : PySem.W.typeIn X.K (.ref fI) = some (.type "function"))
    (G : FnOk X.prog X.w X.K X.mg X.base CX k fI fd ps sp) (hr : Room (k + 1) X.A) (hx : Passes CX X E) (hg : Gl X x) (hm : X.mg x = some (.ref C)) (order : List Value → List Value) (orderV : List V → List V)
    (hb : ∀ (s : Shared) (a : Value) (zs : List Value), X.K.In s.heap → (a :: order zs).length = ps.length → BindsTo s fd ⟨[a], ks.zip zs⟩ (ps.zip (a :: order zs))) (hv : ∀ {vs : List V} {zs : List Value}, Vals vs zs → Vals (orderV vs) (order zs))
    (hkw : PK X kws t) (hall : (backToKw pos (keywordEach kws X.env)).all (·.1.isSome) = true := by rfl) (hks : (backToKw pos (keywordEach kws X.env)).filterMap (·.1) = ks := by rfl) (hdb : (x == ("__debug__" : Str)) = false := by decide)
    (hpl : ((backTo pos (starEach [] X.env)).any (·.1) || (backToKw pos (keywordEach kws X.env)).any (·.1.isNone)) = false := by rfl) :
    PE X (.Call (.Name x p) [] kws pos) (fun σ H Q => t σ H fun vs H1 => ∀ a, H1 a = none → sp (.ref a :: orderV vs) (upd H1 a (exo a C none)) (fun v H2 => v = .non ∧ Q (.ref a) H2) E) := by
  refine ⟨fun pins s σ H Q I h => wpAny_Call_Name_kw (ld_glob I hg hm ?_ hdb)⟩
  refine PySem.W.callWith_KW0 (h₀ := X.base) I.ok.mod.kin T.kp hall (thn (hkw.run pos pins s σ H _ I h) fun ws s1 hw => ?_) hpl
  obtain ⟨vs, H1, I1, r1, q1⟩ := hw
  refine ⟨I1.kIn, ?_⟩
  rw [hks]
  exact run_mkx (us := []) (zs := order ws) T iC tI G hr hx (fun s a kin hl => hb s a ws kin hl) I1 (hv r1) (by rw [sizeLine_eq]; exact Nat.zero_le _) q1
/-- C(), without an own __init__ and without arguments -/
theorem pe_mkx0 {tl : List Value} (F : ExcBaseFacts B newId initId tl) (q : PySem.W.excIn X.K C tl newId = true) (kp : PySem.W.keepIn X.K (.ref C) = true) (hg : Gl X x) (hm : X.mg x = some (.ref C)) (hdb : (x == ("__debug__" : Str)) = false := by decide) :
    PE X (.Call (.Name x p) [] [] pos) (fun σ H Q => ∀ a, H a = none → Q (.ref a) (upd H a (exo a C none))) := by
  refine ⟨fun pins s σ H Q I h => wpAny_Call_Name_kw (ld_glob I hg hm ?_ hdb)⟩
  refine PySem.W.callWith_K0 I.kIn kp ?_
  obtain ⟨bm, N, nm, qn, bs, hdct, sn, sub, ab, col, dd, k0, k1, k2, k3, k5, mN, hC, hN, hni, T⟩ := exc_obj I.kIn q
  show wpAny _ _ (call (.ref C) []) _ _ _
  refine wpAny_call_exc_subT F T hC hN hni (fun h' a made => ?_) (by show 0 ≤ sizeLine; exact Nat.zero_le _)
  have free : H a = none := I.hok.gone made.new
  obtain ⟨tt, ht, _, _⟩ := made.there
  exact ⟨.ref a, upd H a (exo a C none), I.laidN made.keeps made.new free (exo_ok ht), rfl, h a free⟩
end

/-- a made exception: its object, of the class at C, and its fields -/
def ExAt (H : Hp) (a C : Addr) (fs : List (Str × V)) : Prop := (H a = some (exo a C none) ∧ fs = []) ∨ ∃ d, H a = some (exo a C (some d)) ∧ H d = some (exd d fs)
theorem ExAt.inst {X : Cx} {pins : List (Addr × Obj)} {σ : L2.St} {H : Hp} {s : Shared} {a C : Addr} {fs : List (Str × V)} (I : Inv X pins σ H s) (h : ExAt H a C fs) :
    ∃ (oe : Obj) (od : Option Obj), PySem.W.InstAt s.heap a oe C od := by
  rcases h with ⟨e, _⟩ | ⟨d, e, ed⟩
  · obtain ⟨t1, ho⟩ := exo_at I.hok e
    exact ⟨_, none, ho, rfl, rfl, trivial⟩
  · obtain ⟨t1, ho⟩ := exo_at I.hok e
    obtain ⟨mA, hns, rel⟩ := exd_at I.hok ed
    obtain ⟨od, h1, h2⟩ := lookIn_ns hns
    exact ⟨_, some od, ho, rfl, rfl, h1⟩
theorem ExAt.same {H H' : Hp} {a C : Addr} {fs : List (Str × V)} (sm : ∀ b o, H b = some o → H' b = some o) (h : ExAt H a C fs) : ExAt H' a C fs := by
  rcases h with ⟨e, z⟩ | ⟨d, e, ed⟩
  · exact .inl ⟨sm _ _ e, z⟩
  · exact .inr ⟨d, sm _ _ e, sm _ _ ed⟩
/-- isinstance(x, c), x a made exception -/
def rIsX (K : PySem.W.Frag) : List V → Hp → VK → Prop := fun xs H Q => ∃ (B newId initId : String) (tail : List Value) (a D : Addr) (fs : List (Str × V)) (c : V) (cv : Value) (b : Bool), xs = [.ref a, c] ∧
  XT K B newId initId tail D ∧ ExAt H a D fs ∧ ClsV c cv ∧ PySem.W.kitOne K (.ref D) cv = some b ∧ Q (.bl b) H
theorem call_isX {X : Cx} : CallR X (.builtin "isinstance") (rIsX X.K) := by
  intro pins s σ H xs us Q I r h
  obtain ⟨B, newId, initId, tail, a, D, fs, c, cv, b, rfl, T, ea, hc, e, q⟩ := h
  obtain ⟨u1, u2, rfl, r1, r2⟩ := vals2 r
  cases (show u1 = Value.ref a from r1)
  have z := hc.eq r2
  subst z
  obtain ⟨oe, od, J⟩ := ea.inst I
  have some_cls : (PySem.W.clsIn X.K D).isSome = true := by
    obtain ⟨cd, z, _⟩ := PySem.W.any_some T.hd
    rw [z]
    rfl
  exact PySem.W.kia_one (PySem.W.kitx_exc some_cls T.ga T.gg T.ex T.ha T.hn T.ht T.hm) I.kIn J e (fun z => nomatch z) fun tk => ⟨.bl b, H, I.tok tk, rfl, q⟩
/-- x.f, x a made exception that has the field -/
def tXa (K : PySem.W.Frag) (f : Str) (te : TE) : TE := fun σ H Q => te σ H fun x H1 => ∃ (B newId initId : String) (tail : List Value) (a D d : Addr) (fs : List (Str × V)) (v : V), x = .ref a ∧ XT K B newId initId tail D ∧
  PySem.W.findIn K (.ref D) f = some none ∧ H1 a = some (exo a D (some d)) ∧ H1 d = some (exd d fs) ∧ fs.lookup f = some v ∧ Q v H1
theorem pe_xa {X : Cx} {e : Expr} {te : TE} {pos : Pos} {f : Str} (he : PE X e te) (hb : attributeBase e f X.env (eval e X.env) = eval e X.env := by rfl) : PE X (.Attribute e f pos) (tXa X.K f te) := by
  refine ⟨fun pins s σ H Q I h => attr_of hb (thn (he.run pins s σ H _ I h) fun u s1 hh => ?_)⟩
  obtain ⟨x, H1, I1, rx, B, newId, initId, tail, a, D, d, fs, v, ex, T, free, ea, ed, l, q⟩ := hh
  subst ex
  obtain rfl : u = Value.ref a := rx
  obtain ⟨t1, ho⟩ := exo_at I1.hok ea
  obtain ⟨mA, hns, rel⟩ := exd_at I1.hok ed
  obtain ⟨od, h1, h2⟩ := lookIn_ns hns
  obtain ⟨u, hu, ru⟩ := RelO.some_of (v := v) (o := mA f) (by rw [← l]; exact rel f)
  have J : PySem.W.InstAt s1.heap a _ D (some od) := ⟨ho, rfl, rfl, h1⟩
  exact HandSPX.exc_get I1.kIn J T.ga T.gg T.ex (PySem.W.findObj_own T.hd free rfl (by rw [h2, hu])) (handed_of ru) ⟨v, H1, I1.tok _, ru, q⟩
end L2

namespace L2
open PySem PySem.Spec PyProof.Rows

/-! data as repr reads it: None, bools, ints, texts, lists, tuples, empty dicts. b says whether a dict may stand in it: then no list is where the interpreter's own table of modules stands -/
mutual
inductive Da (K : PySem.W.Frag) (H : Hp) (b : Bool) : V → PyData → Prop
  | non : Da K H b .non .none
  | bl (z : Bool) : Da K H b (.bl z) (.bool z)
  | int (i : Int) : Da K H b (.int i) (.int i)
  | str (x : Str) : Da K H b (.str x) (.str x)
  | lst {a : Addr} {xs : List V} {ds : List PyData} (h : SqL K H a xs) (all : DaAll K H b xs ds) (ok : b = true → a ≠ sysModules) : Da K H b (.ref a) (.list ds)
  | tup {a : Addr} {xs : List V} {ds : List PyData} (h : SqT K H a xs) (all : DaAll K H b xs ds) : Da K H b (.ref a) (.tuple ds)
  | dic {a : Addr} (h : H a = some (.dK [])) (ok : b = true) : Da K H b (.ref a) (.dict [])
inductive DaAll (K : PySem.W.Frag) (H : Hp) (b : Bool) : List V → List PyData → Prop
  | nil : DaAll K H b [] []
  | cons {v : V} {vs : List V} {d : PyData} {ds : List PyData} (h : Da K H b v d) (t : DaAll K H b vs ds) : DaAll K H b (v :: vs) (d :: ds)
end

section
variable {X : Cx} {pins : List (Addr × Obj)} {σ : L2.St} {H : Hp} {s : Shared} {b : Bool}
mutual
theorem Da.reads (I : Inv X pins σ H s) : ∀ (d : PyData) (v : V) (u : Value), Da X.K H b v d → RelV v u → ∃ as, Reads s.heap u d as ∧ (b = true → sysModules ∉ as) ∧ (b = false → d.hasDict = false)
  | .none, _, _, h, r => by
    cases h
    cases r
    exact ⟨[], .none, fun _ => by simp, fun _ => by simp [PyData.hasDict]⟩
  | .bool z, _, _, h, r => by
    cases h
    cases r
    exact ⟨[], .bool z, fun _ => by simp, fun _ => by simp [PyData.hasDict]⟩
  | .int i, _, _, h, r => by
    cases h
    obtain ⟨t, rfl⟩ := r
    exact ⟨[], .int i t, fun _ => by simp, fun _ => by simp [PyData.hasDict]⟩
  | .str x, _, _, h, r => by
    cases h
    obtain ⟨t, rfl⟩ := r
    exact ⟨[], .str x t, fun _ => by simp, fun _ => by simp [PyData.hasDict]⟩
  | .list ds, _, _, h, r => by
    cases h with
    | @lst a xs _ hs ha ok =>
      cases r
      obtain ⟨its, rv, ⟨o, n, ho, hc, _, hd⟩, _⟩ := I.list hs
      obtain ⟨as, hr, no, nd⟩ := Da.readsAll I ds _ its ha rv
      refine ⟨_, Reads.list ho hc hd hr, fun hb mem => ?_, fun hb => by simp only [PyData.hasDict]; exact nd hb⟩
      rcases List.mem_cons.mp mem with e | mem
      · exact ok hb e.symm
      · exact no hb mem
  | .tuple ds, _, _, h, r => by
    cases h with
    | tup hs ha =>
      cases r
      obtain ⟨its, rv, ⟨o, ho, hc, n, hd⟩, _⟩ := I.tuple hs
      obtain ⟨as, hr, no, nd⟩ := Da.readsAll I ds _ its ha rv
      exact ⟨_, Reads.tuple ho hc hd hr, no, fun hb => by simp only [PyData.hasDict]; exact nd hb⟩
  | .dict kvs, _, _, h, r => by
    cases h with
    | @dic a ea ok =>
      cases r
      obtain ⟨_, hsys, vs, kv, o, es, ep, h1, h2, h3, h4⟩ : ([] : List (Key × V)).length ≤ sizeLine ∧ (a == sysModules) = false ∧ ∃ vs, KV ([] : List (Key × V)) vs ∧ s.heap.DictOf (mixKind X.prog X.w) a vs := I.hok a _ ea
      cases kv
      obtain ⟨_, pr, _⟩ := h4
      have e0 : es.toList = [] := by
        cases z : es.toList with
        | nil => rfl
        | cons x l =>
          rw [z] at pr
          cases pr
      refine ⟨_, Reads.dict (kvs := []) (as := []) (bs := []) h1 h2.1 h3 ?_ ?_, fun _ mem => ?_, fun hb => ?_⟩
      · rw [e0]
        exact .nil
      · rw [e0]
        exact .nil
      · have z : sysModules = a := by simpa using mem
        rw [z] at hsys
        simp at hsys
      · rw [ok] at hb
        cases hb
theorem Da.readsAll (I : Inv X pins σ H s) : ∀ (ds : List PyData) (vs : List V) (us : List Value), DaAll X.K H b vs ds → Vals vs us → ∃ as, ReadsAll s.heap us ds as ∧ (b = true → sysModules ∉ as) ∧ (b = false → PyData.hasDictAll ds = false)
  | [], _, _, h, r => by
    cases h
    cases r
    exact ⟨[], .nil, fun _ => by simp, fun _ => by simp [PyData.hasDictAll]⟩
  | d :: ds, _, _, h, r => by
    cases h with
    | cons h1 h2 =>
      cases r with
      | cons r1 r2 =>
        obtain ⟨as, q1, n1, m1⟩ := Da.reads I d _ _ h1 r1
        obtain ⟨bs, q2, n2, m2⟩ := Da.readsAll I ds _ _ h2 r2
        exact ⟨_, .cons q1 q2, fun hb z => (List.mem_append.mp z).elim (n1 hb) (n2 hb), fun hb => by simp only [PyData.hasDictAll]; rw [m1 hb, m2 hb]; rfl⟩
end
end

/-- repr(x), x data; it tells the text of the data -/
def rRepr (K : PySem.W.Frag) : List V → Hp → VK → Prop := fun xs H Q => ∃ (x : V) (d : PyData) (b : Bool), xs = [x] ∧ Da K H b x d ∧ d.showable = true ∧ d.shown.length ≤ sizeLine ∧ d.depth ≤ 60 ∧ Q (.str d.shown) H
theorem call_repr {X : Cx} (hg : X.A.guards = some []) (hu : X.A.units + 100 < cLine) : CallR X (.builtin "repr") (rRepr X.K) := by
  intro pins s σ H xs us Q I r h
  obtain ⟨x, d, b, rfl, hd, sh, sz, dep, q⟩ := h
  obtain ⟨u, rfl, rx⟩ := vals1 r
  obtain ⟨as, rd, no, nd⟩ := Da.reads I d x u hd rx
  have hsm : d.hasDict = true → sysModules ∉ as := fun z => by
    cases b with
    | true => exact no rfl
    | false =>
      rw [nd rfl] at z
      cases z
  cases rd with
  | none => exact PySem.P.repr_of_none ⟨.str _, H, I.tok _, ⟨_, rfl⟩, q⟩
  | bool b => exact PySem.P.repr_of_bool ⟨.str _, H, I.tok _, ⟨_, rfl⟩, q⟩
  | int i t => exact PySem.P.repr_of_int (by simpa [PyData.showable] using sh) ⟨.str _, H, I.tok _, ⟨_, rfl⟩, q⟩
  | str z t => exact PySem.P.repr_of_str ⟨.str _, H, I.tok _, ⟨_, rfl⟩, q⟩ (by simpa [PyData.shown] using sz)
  | list h1 h2 h3 h4 => exact repr_of_reads' (.list h1 h2 h3 h4) sh hsm hg (by omega) (fun _ _ z => z) (fun h' u tk k => ⟨.str _, H, I.kept (t' := tk) k, ⟨_, rfl⟩, q⟩) sz
  | tuple h1 h2 h3 h4 => exact repr_of_reads' (.tuple h1 h2 h3 h4) sh hsm hg (by omega) (fun _ _ z => z) (fun h' u tk k => ⟨.str _, H, I.kept (t' := tk) k, ⟨_, rfl⟩, q⟩) sz
  | dict h1 h2 h3 h4 h5 => exact repr_of_reads' (.dict h1 h2 h3 h4 h5) sh hsm hg (by omega) (fun _ _ z => z) (fun h' u tk k => ⟨.str _, H, I.kept (t' := tk) k, ⟨_, rfl⟩, q⟩) sz
/-- [e, ..]: a new list, not where the table of modules stands -/
def tLstN (t : TA) : TE := fun σ H Q => t σ H fun xs H1 => xs.length ≤ sizeLine ∧ ∀ p, H1 p = none → p ≠ sysModules → Q (.ref p) (upd H1 p (.lst xs))
theorem pe_lstN {X : Cx} {es : List Expr} {t : TA} {pos : Pos} (h : PA X es t) : PE X (.List es pos) (tLstN t) := by
  refine ⟨fun pins s σ H Q I want => wpAny_List_spliced (thn (h.run pos pins s σ H _ I want) fun us s1 hu => ?_)⟩
  obtain ⟨xs, H1, I1, r, few, q⟩ := hu
  refine ⟨by rw [← r.length]; exact few, ?_⟩
  have free : H1 s1.heap.objs.size = none := I1.hok.fresh (Nat.le_refl _)
  have big : s1.heap.objs.size ≠ sysModules := Nat.ne_of_gt I1.big
  refine ⟨.ref s1.heap.objs.size, upd H1 s1.heap.objs.size (.lst xs), I1.laid (t' := s1.toks) (fun b u z => Heap.get?_push_of_some _ z) (Nat.le_refl _) ?_, rfl, q _ free big⟩
  exact ⟨few, us, 0, r, Heap.get?_push_size _ rfl⟩
mutual
theorem Da.mono {K : PySem.W.Frag} {H H' : Hp} {b : Bool} (sm : Same H H') : ∀ (d : PyData) (v : V), Da K H b v d → Da K H' b v d
  | .none, _, h => by
    cases h
    exact .non
  | .bool b, _, h => by
    cases h
    exact .bl b
  | .int i, _, h => by
    cases h
    exact .int i
  | .str x, _, h => by
    cases h
    exact .str x
  | .list ds, _, h => by
    cases h with
    | lst hs ha ok => exact .lst (sm.seq hs) (DaAll.mono sm ds _ ha) ok
  | .tuple ds, _, h => by
    cases h with
    | tup hs ha =>
      refine .tup ?_ (DaAll.mono sm ds _ ha)
      rcases hs with (e | ⟨o, e⟩) | z
      · exact .inl (.inl (sm _ _ e))
      · exact .inl (.inr ⟨o, sm _ _ e⟩)
      · exact .inr z
  | .dict ds, _, h => by
    cases h with
    | dic e ok => exact .dic (sm _ _ e) ok
theorem DaAll.mono {K : PySem.W.Frag} {H H' : Hp} {b : Bool} (sm : Same H H') : ∀ (ds : List PyData) (vs : List V), DaAll K H b vs ds → DaAll K H' b vs ds
  | [], _, h => by
    cases h
    exact .nil
  | d :: ds, _, h => by
    cases h with
    | cons h1 h2 => exact .cons (Da.mono sm d _ h1) (DaAll.mono sm ds _ h2)
end

/-! ### promises of defs that are called while no repr runs -/
structure FnG (P : Program) (w : World) (K : PySem.W.Frag) (mg : Str → Option Value) (base : Heap) (CX : CXT) (k : Nat) (f : Addr) (fd : FuncData) (ps : List Str) (sp : Sp) : Prop where
  len : ∀ vs H Q E, sp vs H Q E → vs.length = ps.length
  go : ∀ (A : Around) (outer : List Env) (s : Shared) (H : Hp) (args : Args) (us : List Value) (vs : List V) (Q : VK) (E : XK), A.guards = some [] → Room k A →
    Env0 P w K mg base A outer s H → BindsTo s fd args (ps.zip us) → Vals vs us → sp vs H Q E → codeAny (model P w) A (.call (.ref f) args) (CR CX outer P w H s Q E) s

theorem fnG_of {CX : CXT} {P : Program} {w : World} {K : PySem.W.Frag} {mg : Str → Option Value} {base : Heap} {k : Nat} {f : Addr} {name qual : Str} {params : Arguments} {body : List Stmt} {scope : Scope} {dV kV doc pm cdv ct oc : Value} {an od : Option Addr}
    {osl : Array (Option Value)} {N ps : List Str} {sp : Sp} (at_f : K.lookup f = some ⟨oc, od, .func (PySem.W.fnOf name qual params body scope dV kV doc pm an cdv ct), osl⟩) (code : PySem.W.codeIn K cdv qual = true) (S : FnScope N ps scope)
    (len : ∀ vs H Q E, sp vs H Q E → vs.length = ps.length)
    (walk : ∀ (A : Around) (outer : List Env) (s : Shared) (H : Hp) (vs : List V) (Q : VK) (E : XK), A.guards = some [] → Room k (A.deeper (envOfC qual scope s.heap.objs.size f cdv)) → sp vs H Q E →
      ∃ t, PSs (cxOf CX P w K mg base N qual scope f cdv A outer s H E) body t ∧ t { nx := fun _ H' => Q .non H', rt := Q } (start N vs) H) :
    FnG P w K mg base CX (k + 1) f (PySem.W.fnOf name qual params body scope dV kV doc pm an cdv ct) ps sp := by
  refine ⟨len, fun A outer s H args us vs Q E gd hr env0 bind r want => ?_⟩
  have n_args := len _ _ _ _ want
  have kin : K.In s.heap := env0.mod.kin.keeps fun b o z => (env0.bs b o z).1
  have nolim : s.heap.NoLimit := env0.mod.nolimit.keeps fun b o z => (env0.bs b o z).1
  have kinds : ∀ y ∈ ps.zip us, scope.names.lookup y.1 = some .local ∨ (scope.names.lookup y.1 = some .cell ∧ ((cellsFrom (s.heap.objs.size + 1) scope.names []).lookup y.1).isSome = true) := by
    rintro ⟨n, v⟩ hy
    rcases S.par n (List.of_mem_zip hy).1 with z | z
    · exact .inl z
    · exact .inr ⟨z, PySem.W.cellsFrom_some _ _ _ (.inl z)⟩
  refine codeAny_call_function hr.depth (kin _ _ at_f) rfl S.co S.gen rfl (PySem.W.codeRec_of kin code) (bind _ _ _ _ ?_)
  refine wpAny_newFunctionEnv_cells S.kind kinds fun env env_is s1 made => ?_
  subst env_is
  refine ⟨nolim.keeps made.toInCall.keep, codeAny_func ?_⟩
  obtain ⟨t, ht, hq⟩ := walk A outer s H vs Q E gd (hr.deeper _) want
  have I : Inv (cxOf CX P w K mg base N qual scope f cdv A outer s H E) [] (start N vs) H s1 := inv_start S hr.hd env0 n_args r made
  refine wpAny_mono (ht.run [] s1 (start N vs) H _ I hq) (fun fl s' last => ?_) fun e s' z => z
  have out : ∀ {σ' : L2.St} {H' : Hp} {v : V} {u : Value}, Inv (cxOf CX P w K mg base N qual scope f cdv A outer s H E) [] σ' H' s' → RelV v u → Q v H' → CE outer P w H s Q u s' :=
    fun {σ' H' v u} J rv q => ⟨v, H', J.os, J.bare, J.base, J.hok, rv, q⟩
  match fl, last with
  | .ret u, ⟨v, σ', H', J, rv, q⟩ => exact out J rv q
  | .next, ⟨σ', H', J, q⟩ => exact out (v := V.non) (u := Value.none) J rfl q
  | .brk, ⟨_, _, _, q⟩ => exact False.elim q
  | .cont, ⟨_, _, _, q⟩ => exact False.elim q

section
variable {P : Program} {w : World} {K : PySem.W.Frag} {mg : Str → Option Value} {base : Heap}
/-- a def whose body says that nothing leaves it -/
theorem Fun.okG {x qual : Str} {st : Stmt} {f : Addr} {fd : FuncData} {N ps : List Str} {k : Nat} {sp : Sp} (F : Fun K x qual st f fd) (S : FnScope N ps (defScope st)) (len : ∀ vs H Q E, sp vs H Q E → vs.length = ps.length)
    (walk : ∀ (cdv : Value) (A : Around) (outer : List Env) (s : Shared) (H : Hp) (vs : List V) (Q : VK) (E : XK), A.guards = some [] → Room k (A.deeper (envOfC qual (defScope st) s.heap.objs.size f cdv)) → sp vs H Q E →
      ∃ t, PSs (cxOf CX0 P w K mg base N qual (defScope st) f cdv A outer s H E).nox (defBody st) t ∧ t { nx := fun _ H' => Q .non H', rt := Q } (start N vs) H) : FnG P w K mg base CX0 (k + 1) f fd ps sp := by
  obtain ⟨oc, od, kV, doc, pm, an, cdv, ct, osl, rfl, at_f, code⟩ := F.ex
  refine fnG_of at_f code S len fun A outer s H vs Q E gd hr want => ?_
  obtain ⟨t, h, q⟩ := walk cdv A outer s H vs Q E gd hr want
  exact ⟨t, h.nox, q⟩
end
section
variable {X : Cx} {CX : CXT} {k : Nat} {f : Addr} {fd : FuncData} {ps : List Str} {sp : Sp} {E : XK} {x : Str} {p pos : Pos} {e : Expr} {es : List Expr} {t : TA}
theorem pe_callG (G : FnG X.prog X.w X.K X.mg X.base CX k f fd ps sp) (gd : X.A.guards = some []) (hr : Room k X.A) (hg : Gl X x) (hm : X.mg x = some (.ref f)) (hk : PySem.W.keepIn X.K (.ref f) = true) (hb : Binds X.K fd ps []) (hx : Passes CX X E)
    (ha : PA X (e :: es) t) (hdb : (x == ("__debug__" : Str)) = false := by decide) (he : starEach (e :: es) X.env = (false, eval e X.env) :: starEach es X.env := by rfl) (hpl : (backTo pos (starEach es X.env)).any (·.1) = false := by rfl) :
    PE X (.Call (.Name x p) (e :: es) [] pos) (tCall sp [] E t) := by
  refine ⟨fun pins s σ H Q I h => wpAny_Call_Name_kw (ld_glob I hg hm ?_ hdb)⟩
  refine PySem.W.callWith_K (h₀ := X.base) I.ok.mod.kin hk (thn (ha.run pos pins s σ H _ I h) fun us s1 hu => ?_) he hpl
  obtain ⟨vs, H1, I1, r, want⟩ := hu
  refine ⟨I1.kIn, ?_⟩
  show wpAny _ _ (call (.ref f) us) _ _ _
  have want' : sp vs H1 Q E := by
    have z := want
    simp only [List.append_nil] at z
    exact z
  have n_args : us.length = ps.length := by
    rw [← r.length]
    exact G.len _ _ _ _ want'
  have bind : BindsTo s1 fd ⟨us, []⟩ (ps.zip us) := by
    have z := hb s1 us I1.kIn (by simpa using n_args)
    simpa using z
  refine wpAny_call (codeAny_mono (G.go X.A X.stack s1 H1 ⟨us, []⟩ us vs Q E gd hr I1.env0 bind r want') fun r s' back => ?_)
  match r, back with
  | .error er, back => exact hx pins σ H1 s1 er s' I1 back
  | .ok (.ret u), back => exact I1.after back
  | .ok .next, back => exact False.elim back
  | .ok .brk, back => exact False.elim back
  | .ok .cont, back => exact False.elim back
end
end L2

namespace Lr
open PySem PySem.Spec PyProof.Rows L2
/-- what isinstance says of one of class D to each class -/
def Kits (K : PySem.W.Frag) (D : Addr) (cs : List Addr) (bs : List Bool) : Prop := (cs.map fun c => PySem.W.kitOne K (.ref D) (.ref c)) = bs.map some
/-- a pair of a word and a bool at t -/
def Pw (H : Hp) (t : Addr) (w : Str × Bool) : Prop := H t = some (.tup [.str w.1, .bl w.2])
/-- at p: a list of new pairs of a word and a bool -/
def PairsAt (H : Hp) (p : Addr) (ws : List (Str × Bool)) : Prop := ∃ ts : List Addr, H p = some (.lst (ts.map V.ref)) ∧ Paired (Pw H) ts ws
theorem paired_mono {α β : Type} {R S : α → β → Prop} (h : ∀ a b, R a b → S a b) : ∀ {as : List α} {bs : List β}, Paired R as bs → Paired S as bs
  | _, _, .nil => .nil
  | _, _, .cons x t => .cons (h _ _ x) (paired_mono h t)
theorem paired_app {α β : Type} {R : α → β → Prop} : ∀ {as : List α} {bs : List β} {as' : List α} {bs' : List β}, Paired R as bs → Paired R as' bs' → Paired R (as ++ as') (bs ++ bs')
  | _, _, _, _, .nil, q => q
  | _, _, _, _, .cons x t, q => .cons x (paired_app t q)
theorem paired_len {α β : Type} {R : α → β → Prop} : ∀ {as : List α} {bs : List β}, Paired R as bs → as.length = bs.length
  | _, _, .nil => rfl
  | _, _, .cons x t => by rw [List.length_cons, List.length_cons, paired_len t]
theorem same_upd {H : Hp} {p : Addr} {o : HO} (n : H p = none) : Same H (upd H p o) := fun b u e => by
  rw [upd_ne (ne_of_none e n)]
  exact e
theorem pw_same {H H' : Hp} (sm : Same H H') : ∀ (t : Addr) (w : Str × Bool), Pw H t w → Pw H' t w := fun t w e => sm _ _ e
/-- the heap behind a list of two new pairs -/
abbrev two2 (H : Hp) (t1 t2 l : Addr) (x1 x2 : Str) (y1 y2 : Bool) : Hp := upd (upd (upd H t1 (.tup [.str x1, .bl y1])) t2 (.tup [.str x2, .bl y2])) l (.lst [.ref t1, .ref t2])
theorem new2 {H : Hp} {t1 t2 l : Addr} {x1 x2 : Str} {y1 y2 : Bool} (n1 : H t1 = none) (n2 : (upd H t1 (.tup [.str x1, .bl y1])) t2 = none) (nl : (upd (upd H t1 (.tup [.str x1, .bl y1])) t2 (.tup [.str x2, .bl y2])) l = none) :
    Same H (two2 H t1 t2 l x1 x2 y1 y2) ∧ Paired (Pw (two2 H t1 t2 l x1 x2 y1 y2)) [t1, t2] [(x1, y1), (x2, y2)] ∧ (two2 H t1 t2 l x1 x2 y1 y2) l = some (.lst ([t1, t2].map V.ref)) :=
  ⟨((same_upd n1).trans (same_upd n2)).trans (same_upd nl), .cons ((same_upd nl) _ _ ((same_upd n2) _ _ upd_same)) (.cons ((same_upd nl) _ _ upd_same) .nil), upd_same⟩
theorem pairs_two {H : Hp} {t1 t2 l : Addr} {x1 x2 : Str} {y1 y2 : Bool} (n1 : H t1 = none) (n2 : (upd H t1 (.tup [.str x1, .bl y1])) t2 = none) (nl : (upd (upd H t1 (.tup [.str x1, .bl y1])) t2 (.tup [.str x2, .bl y2])) l = none) :
    PairsAt (two2 H t1 t2 l x1 x2 y1 y2) l [(x1, y1), (x2, y2)] := ⟨_, (new2 n1 n2 nl).2.2, (new2 n1 n2 nl).2.1⟩
/-- some = some + [(..), (..)] -/
theorem pairs_cat {H : Hp} {p t1 t2 l p' : Addr} {x1 x2 : Str} {y1 y2 : Bool} {ts : List Addr} {ws : List (Str × Bool)} (all : Paired (Pw H) ts ws) (n1 : H t1 = none) (n2 : (upd H t1 (.tup [.str x1, .bl y1])) t2 = none)
    (nl : (upd (upd H t1 (.tup [.str x1, .bl y1])) t2 (.tup [.str x2, .bl y2])) l = none) (np : (two2 H t1 t2 l x1 x2 y1 y2) p' = none) :
    Same H (upd (two2 H t1 t2 l x1 x2 y1 y2) p' (.lst (ts.map V.ref ++ [t1, t2].map V.ref))) ∧ PairsAt (upd (two2 H t1 t2 l x1 x2 y1 y2) p' (.lst (ts.map V.ref ++ [t1, t2].map V.ref))) p' (ws ++ [(x1, y1), (x2, y2)]) := by
  obtain ⟨s2, q2, _⟩ := new2 n1 n2 nl
  have s3 : Same (two2 H t1 t2 l x1 x2 y1 y2) (upd (two2 H t1 t2 l x1 x2 y1 y2) p' (.lst (ts.map V.ref ++ [t1, t2].map V.ref))) := same_upd np
  refine ⟨s2.trans s3, ts ++ [t1, t2], ?_, paired_app (paired_mono (pw_same (s2.trans s3)) all) (paired_mono (pw_same s3) q2)⟩
  rw [upd_same, List.map_append]
/-- some.append((..)) -/
theorem pairs_push {H : Hp} {p t1 : Addr} {x1 : Str} {y1 : Bool} {ts : List Addr} {ws : List (Str × Bool)} (at_p : H p = some (.lst (ts.map V.ref))) (all : Paired (Pw H) ts ws) (n1 : H t1 = none) :
    (∀ b o, H b = some o → b ≠ p → (upd (upd H t1 (.tup [.str x1, .bl y1])) p (.lst (ts.map V.ref ++ [V.ref t1]))) b = some o) ∧ PairsAt (upd (upd H t1 (.tup [.str x1, .bl y1])) p (.lst (ts.map V.ref ++ [V.ref t1]))) p (ws ++ [(x1, y1)]) := by
  have keep : ∀ b o, H b = some o → b ≠ p → (upd (upd H t1 (.tup [.str x1, .bl y1])) p (.lst (ts.map V.ref ++ [V.ref t1]))) b = some o := fun b o e n => by
    rw [upd_ne n]
    exact same_upd n1 _ _ e
  have ntp : t1 ≠ p := fun e => by
    rw [e, at_p] at n1
    cases n1
  refine ⟨keep, ts ++ [t1], ?_, paired_app (paired_mono (fun t w e => keep t _ e (ne_of e at_p (by intro z; cases z))) all) (.cons ?_ .nil)⟩
  · rw [upd_same, List.map_append]
    rfl
  · show (upd (upd H t1 (.tup [.str x1, .bl y1])) p (.lst (ts.map V.ref ++ [V.ref t1]))) t1 = _
    rw [upd_ne ntp, upd_same]
theorem ifF {c : Bool} {A B : Prop} (hc : c = false) (h : B) : if c = true then A else B := by
  rw [hc, if_neg Bool.false_ne_true]
  exact h
theorem ifT {c : Bool} {A B : Prop} (hc : c = true) (h : A) : if c = true then A else B := by
  rw [if_pos hc]
  exact h
theorem paired_get {α β : Type} {R : α → β → Prop} : ∀ {as : List α} {bs : List β}, Paired R as bs → ∀ (i : Nat) (a : α), as[i]? = some a → ∃ b, bs[i]? = some b ∧ R a b
  | _, _, .nil, i, a, h => by
    simp at h
  | _, _, .cons x t, 0, a, h => by
    have e := Option.some.inj h
    subst e
    exact ⟨_, rfl, x⟩
  | _, _, .cons x t, i + 1, a, h => paired_get t i a h
theorem kept_more {ws : List (Str × Bool)} {i : Nat} {w : Str × Bool} (h : ws[i]? = some w) :
    ((ws.take (i + 1)).filter (·.2)).map (·.1) = ((ws.take i).filter (·.2)).map (·.1) ++ (if w.2 = true then [w.1] else []) := by
  rw [List.take_succ, h, List.filter_append, List.map_append]
  obtain ⟨x, b⟩ := w
  cases b <;> rfl
end Lr

namespace L2
open PySem PySem.Spec PyProof.Rows

/-- at a: an exception of the class cls whose own dict (if any) is at d, whatever its other parts are -/
def exq (a : Addr) (cls : Value) (d : Option Addr) : HO := .ext fun h => ∃ (oe : Obj) (vs : Array Value), h.get? a = some oe ∧ Zc cls d oe ∧ oe.data = .fields vs
theorem exq_ok {P : Program} {w : World} {H : Hp} {h : Heap} {a : Addr} {cls : Value} {d : Option Addr} {oe : Obj} {vs : Array Value} (e : h.get? a = some oe) (z : Zc cls d oe) (dt : oe.data = .fields vs) : ObjOk P w H h a (exq a cls d) :=
  ⟨⟨oe, vs, e, z, dt⟩, ⟨oe, e⟩, fun _ _ ⟨o, v, q, r⟩ k => ⟨o, v, k o q, r⟩⟩
theorem exq_at {P : Program} {w : World} {H : Hp} {h : Heap} {a : Addr} {cls : Value} {d : Option Addr} (hok : HOk P w H h) (e : H a = some (exq a cls d)) : ∃ (oe : Obj) (vs : Array Value), h.get? a = some oe ∧ Zc cls d oe ∧ oe.data = .fields vs := by
  have x : ObjOk P w H h a (.ext fun h => ∃ (oe : Obj) (vs : Array Value), h.get? a = some oe ∧ Zc cls d oe ∧ oe.data = .fields vs) := hok a _ e
  exact x.1

/-! an exception as a value, new or caught, and its fields -/
def IsEx (H : Hp) (a C : Addr) (dd : Option Addr) : Prop := H a = some (exo a C dd) ∨ H a = some (exq a (.ref C) dd)
def IsDx (H : Hp) (d : Addr) (fs : List (Str × V)) : Prop := H d = some (exd d fs) ∨ H d = some (.xd fs)
def ExIn (H : Hp) (a C : Addr) (fs : List (Str × V)) : Prop := (IsEx H a C none ∧ fs = []) ∨ ∃ d, IsEx H a C (some d) ∧ IsDx H d fs
theorem IsEx.same {H H' : Hp} {a C : Addr} {dd : Option Addr} (sm : ∀ b o, H b = some o → H' b = some o) (h : IsEx H a C dd) : IsEx H' a C dd := h.imp (sm _ _) (sm _ _)
theorem IsDx.same {H H' : Hp} {d : Addr} {fs : List (Str × V)} (sm : ∀ b o, H b = some o → H' b = some o) (h : IsDx H d fs) : IsDx H' d fs := h.imp (sm _ _) (sm _ _)
theorem ExIn.same {H H' : Hp} {a C : Addr} {fs : List (Str × V)} (sm : ∀ b o, H b = some o → H' b = some o) (h : ExIn H a C fs) : ExIn H' a C fs := by
  rcases h with ⟨e, z⟩ | ⟨d, e, ed⟩
  · exact .inl ⟨e.same sm, z⟩
  · exact .inr ⟨d, e.same sm, ed.same sm⟩
theorem ExAt.to {H : Hp} {a C : Addr} {fs : List (Str × V)} (h : ExAt H a C fs) : ExIn H a C fs := by
  rcases h with ⟨e, z⟩ | ⟨d, e, ed⟩
  · exact .inl ⟨.inl e, z⟩
  · exact .inr ⟨d, .inl e, .inl ed⟩
section
variable {X : Cx} {pins : List (Addr × Obj)} {σ : L2.St} {H : Hp} {s : Shared} {a C : Addr} {fs : List (Str × V)} {dd : Option Addr}
theorem IsEx.obj (I : Inv X pins σ H s) (h : IsEx H a C dd) : ∃ (oe : Obj) (vs : Array Value), s.heap.get? a = some oe ∧ Zc (.ref C) dd oe ∧ oe.data = .fields vs := by
  rcases h with e | e
  · obtain ⟨t1, ho⟩ := exo_at I.hok e
    exact ⟨_, _, ho, ⟨rfl, rfl⟩, rfl⟩
  · exact exq_at I.hok e
theorem IsDx.ns (I : Inv X pins σ H s) {d : Addr} (h : IsDx H d fs) : ∃ mA, s.heap.Ns1 d mA ∧ ∀ f, RelO (fs.lookup f) (mA f) := by
  rcases h with e | e
  · exact exd_at I.hok e
  · exact (show ObjOk X.prog X.w H s.heap d (.xd fs) from I.hok d _ e)
theorem inst_of {h : Heap} {oe : Obj} {vs : Array Value} {od : Option Obj} (e : h.get? a = some oe) (z : Zc (.ref C) dd oe) (dt : oe.data = .fields vs) (hd : match dd, od with | none, none => True | some d, some o => h.get? d = some o | _, _ => False) :
    PySem.W.InstAt h a oe C od := by
  obtain ⟨oc, odd, oda, osl⟩ := oe
  obtain ⟨h1, h2⟩ := z
  dsimp only at h1 h2 dt
  subst h1 h2 dt
  refine ⟨e, rfl, rfl, ?_⟩
  cases odd with
  | none =>
    cases od with
    | none => exact trivial
    | some o => exact hd.elim
  | some d =>
    cases od with
    | none => exact hd.elim
    | some o => exact hd
theorem ExIn.inst (I : Inv X pins σ H s) (h : ExIn H a C fs) : ∃ (oe : Obj) (od : Option Obj), PySem.W.InstAt s.heap a oe C od := by
  rcases h with ⟨e, _⟩ | ⟨d, e, ed⟩
  · obtain ⟨oe, vs, h1, h2, h3⟩ := e.obj I
    exact ⟨oe, none, inst_of h1 h2 h3 trivial⟩
  · obtain ⟨oe, vs, h1, h2, h3⟩ := e.obj I
    obtain ⟨mA, hns, rel⟩ := ed.ns I
    obtain ⟨od, g1, g2⟩ := lookIn_ns hns
    exact ⟨oe, some od, inst_of h1 h2 h3 g1⟩
end
/-- isinstance(x, c), x an exception as a value -/
def rIsY (K : PySem.W.Frag) : List V → Hp → VK → Prop := fun xs H Q => ∃ (B newId initId : String) (tail : List Value) (a D : Addr) (fs : List (Str × V)) (c : V) (cv : Value) (b : Bool), xs = [.ref a, c] ∧
  XT K B newId initId tail D ∧ ExIn H a D fs ∧ ClsV c cv ∧ PySem.W.kitOne K (.ref D) cv = some b ∧ Q (.bl b) H
theorem call_isY {X : Cx} : CallR X (.builtin "isinstance") (rIsY X.K) := by
  intro pins s σ H xs us Q I r h
  obtain ⟨B, newId, initId, tail, a, D, fs, c, cv, b, rfl, T, ea, hc, e, q⟩ := h
  obtain ⟨u1, u2, rfl, r1, r2⟩ := vals2 r
  cases (show u1 = Value.ref a from r1)
  have z := hc.eq r2
  subst z
  obtain ⟨oe, od, J⟩ := ea.inst I
  have some_cls : (PySem.W.clsIn X.K D).isSome = true := by
    obtain ⟨cd, z, _⟩ := PySem.W.any_some T.hd
    rw [z]
    rfl
  exact PySem.W.kia_one (PySem.W.kitx_exc some_cls T.ga T.gg T.ex T.ha T.hn T.ht T.hm) I.kIn J e (fun z => nomatch z) fun tk => ⟨.bl b, H, I.tok tk, rfl, q⟩
/-- x.f, x an exception as a value that has the field -/
def tYa (K : PySem.W.Frag) (f : Str) (te : TE) : TE := fun σ H Q => te σ H fun x H1 => ∃ (B newId initId : String) (tail : List Value) (a D : Addr) (fs : List (Str × V)) (v : V), x = .ref a ∧ XT K B newId initId tail D ∧
  PySem.W.findIn K (.ref D) f = some none ∧ ExIn H1 a D fs ∧ fs.lookup f = some v ∧ Q v H1
theorem pe_ya {X : Cx} {e : Expr} {te : TE} {pos : Pos} {f : Str} (he : PE X e te) (hb : attributeBase e f X.env (eval e X.env) = eval e X.env := by rfl) : PE X (.Attribute e f pos) (tYa X.K f te) := by
  refine ⟨fun pins s σ H Q I h => attr_of hb (thn (he.run pins s σ H _ I h) fun u s1 hh => ?_)⟩
  obtain ⟨x, H1, I1, rx, B, newId, initId, tail, a, D, fs, v, ex, T, free, ea, l, q⟩ := hh
  subst ex
  obtain rfl : u = Value.ref a := rx
  rcases ea with ⟨_, z⟩ | ⟨d, e1, e2⟩
  · rw [z] at l
    cases l
  · obtain ⟨oe, vs, h1, h2, h3⟩ := e1.obj I1
    obtain ⟨mA, hns, rel⟩ := e2.ns I1
    obtain ⟨od, g1, g2⟩ := lookIn_ns hns
    obtain ⟨u, hu, ru⟩ := RelO.some_of (v := v) (o := mA f) (by rw [← l]; exact rel f)
    exact HandSPX.exc_get I1.kIn (inst_of h1 h2 h3 g1) T.ga T.gg T.ex (PySem.W.findObj_own T.hd free rfl (by rw [g2, hu])) (handed_of ru) ⟨v, H1, I1.tok _, ru, q⟩

section
variable {X : Cx} {pins : List (Addr × Obj)} {σ : L2.St} {H : Hp} {s : Shared} {a : Addr} {o : HO}
/-- an object that came after the entry and was not told of is told of from now on -/
theorem Inv.track (I : Inv X pins σ H s) (n0 : X.s_0.heap.get? a = none) (na : H a = none) (nL : a ≠ X.env.locals) (nC : ∀ x c, X.env.cells.lookup x = some c → c ≠ a) (np : ∀ p ∈ X.pn ++ pins, p.1 ≠ a)
    (new : ObjOk X.prog X.w (upd H a o) s.heap a o) : Inv X pins σ (upd H a o) s := by
  have ne0 : ∀ {b : Addr} {u : Obj}, X.s_0.heap.get? b = some u → b ≠ a := fun {b u} e z => by
    rw [z, n0] at e
    cases e
  have neS : ∀ {b : Addr} {u : HO}, H b = some u → b ≠ a := fun {b u} e z => by
    rw [z, na] at e
    cases e
  refine ⟨I.ok, I.os, I.bare, ⟨I.base.keep, I.base.slot, fun b u e n hb => ?_, I.base.there, fun b xs e => ?_, fun b u v e => ?_, fun b ps e => ?_⟩, I.loc, I.cell, ?_, fun x c e => ?_, fun p hp => ?_, fun b u e => ?_, I.len⟩
  · rw [upd_ne (ne0 e)]
    exact I.base.free b u e n hb
  · have z := I.base.tups b xs e
    rw [upd_ne (neS z)]
    exact z
  · have z := I.base.frzs b u v e
    rw [upd_ne (neS z)]
    exact z
  · obtain ⟨m, z⟩ := I.base.tbls b ps e
    exact ⟨m, by rw [upd_ne (neS z)]; exact z⟩
  · rw [upd_ne (Ne.symm nL)]
    exact I.free
  · rw [upd_ne (nC x c e)]
    exact I.freeC x c e
  · obtain ⟨e, n, h1, h2, h3⟩ := I.pin p hp
    exact ⟨e, by rw [upd_ne (np p hp)]; exact n, h1, h2, h3⟩
  · by_cases hb : b = a
    · subst hb
      rw [upd_same] at e
      cases e
      exact new
    · rw [upd_ne hb] at e
      exact (I.hok b u e).stay (fun c v _ z => z) (fun c z => by rw [upd_ne (neS z)]; exact z) fun c xs z => by rw [upd_ne (neS z)]; exact z
/-- into a suite and out of it, the exception being told of -/
theorem Inv.suite' (I : Inv X pins σ H s) : Inv (X.suite a (X.pn ++ pins)) [] σ H s :=
  ⟨I.ok.suite _ _, I.os, I.bare, I.base, I.loc, I.cell, I.free, I.freeC, fun p hp => I.pin p (by rw [List.append_nil] at hp; exact hp), I.hok, I.len⟩
theorem Inv.unsuite' {pn' : List (Addr × Obj)} (I : Inv (X.suite a (X.pn ++ pins)) pn' σ H s) (ok : X.Ok) : Inv X pins σ H s :=
  ⟨ok, I.os, I.bare, I.base, I.loc, I.cell, I.free, I.freeC, fun p hp => I.pin p (List.mem_append_left _ hp), I.hok, I.len⟩
end
end L2

namespace L2
open PySem PySem.Spec PyProof.Rows
/-- what the clause 'except x as n' wishes, where the suite may keep the exception: it is told of within and behind -/
def wOwn (K : PySem.W.Frag) (c : Value) (i : Nat) (ts : TS) (Wout : WX) (D : Ends) : WX := fun cls d σ H =>
  ∃ b, PySem.W.exmOne K cls c = some b ∧
    (b = true → ∀ a, H a = none → ts { nx := fun σ' H' => D.nx (σ'.set i none) H', rt := D.rt, bk := fun σ' H' => D.bk (σ'.set i none) H', ct := fun σ' H' => D.ct (σ'.set i none) H' } (σ.set i (some (.ref a))) (upd H a (exq a cls d))) ∧
    (b = false → Wout cls d σ H)
section
variable {X : Cx} {x n : Str} {c : Value} {i : Nat} {body suite : List Stmt} {b₀ : Stmt} {np pos pos' : Pos} {tb : WX → TS} {ts : TS} {Wout : WX}
theorem ps_try_own (stk : X.stack = X.env :: X.outer) (frm : X.env.frame = some X.env.locals) (noex : X.ex = []) (nodup : X.N.Nodup) (at_i : X.N[i]? = some n) (loc : X.env.kindOf n = some .local) (nm : Names X x c) (tk : Takes X Wout)
    (hb : ∀ (W : WX) (pn : List (Addr × Obj)) (xe : Value → Shared → Prop), Takes (X.tr pn xe) W → PassesOwn (model X.prog X.w) X.A X.env xe → PSs (X.tr pn xe) body (tb W))
    (hsu : ∀ (a : Addr) (pn : List (Addr × Obj)), PSs (X.suite a pn) (b₀ :: suite) ts) :
    PS X (.Try body [.ExceptHandler (some (.Name x np)) (some n) (b₀ :: suite) pos'] [] [] pos) (fun D σ H => tb (wOwn X.K c i ts Wout D) D σ H) := by
  refine ⟨fun pins s σ H D I h => ?_⟩
  have ok := I.ok
  have frames : X.A.frames = some (X.env :: X.outer) := by rw [ok.frames, stk]
  have isLoc : Loc X.env.scope n := .inl loc
  refine wpAny_Try_except ?_
  refine wpAny_mono ((hb (wOwn X.K c i ts Wout D) (X.pn ++ pins) (fun e s₁ => wpAny (model X.prog X.w) X.A (noteFrame e X.env)
    (fun _ s₂ => wpAny (model X.prog X.w) X.A (setFlight e none)
      (fun _ s₃ => wpAny (model X.prog X.w) X.A (handleBy e X.env [.ExceptHandler (some (.Name x np)) (some n) (b₀ :: suite) pos']) (SP X pins D) X.xe s₃) X.xe s₂) X.xe s₁)
    (fun u s' xx => ?_) PassesOwn.looking).run [] s σ H D (I.toTry _) h) (fun f s1 done => ?_) (fun e s1 he => he)
  · -- it is caught
    obtain ⟨a, B, sI, pins', σ', H', cls, d, rfl, J', inB, up, sky, na, os, ag, b, meets, yes, no⟩ := xx
    have J : Inv X pins σ' H' sI := J'.ofTry ok
    have sky' : Sky B (X.env :: X.outer) a (Zc cls d) X.env.locals s'.heap := by rw [← stk]; exact sky
    show wpAny (model X.prog X.w) X.A (noteFrame (.ref a) X.env) _ _ _
    refine Sky.land Zc.steady frames frm sky' fun h3 fl3 up3 => ?_
    have J3 : Inv X pins σ' H' { s' with heap := h3 } := J.landed inB fl3.1 (up.trans up3) os ag
    obtain ⟨oe3, vs3, he3, hz3, hd3⟩ := fl3.there
    -- a is none of the frames, and came after the entry
    have nfr : a ∉ frs (X.env :: X.outer) := fun hm => by
      obtain ⟨_, o', e', hnf⟩ := fl3.2.2.1.mem hm
      rw [he3] at e'
      cases e'
      exact hnf _ hd3
    have gone : sI.heap.get? a = none := by
      cases e : sI.heap.get? a with
      | none => rfl
      | some o =>
        have z := inB a o e (by rw [stk]; exact nfr)
        rw [fl3.2.1] at z
        cases z
    have nL : a ≠ X.env.locals := fun z => nfr (List.mem_filterMap.mpr ⟨X.env, List.mem_cons_self, by rw [frm, z]⟩)
    have n0 : X.s_0.heap.get? a = none := by
      cases e : X.s_0.heap.get? a with
      | none => rfl
      | some o =>
        obtain ⟨o', z⟩ := J.base.there a o e (by rw [noex]; exact fun z => nomatch z)
        rw [gone] at z
        cases z
    have nC : ∀ x c, X.env.cells.lookup x = some c → c ≠ a := fun x c e z => by
      obtain ⟨v, o, z2, _⟩ := J.cell x c e
      rw [z, gone] at z2
      cases z2
    have nP : ∀ p ∈ X.pn ++ pins, p.1 ≠ a := fun p hp z => by
      have z2 := (J.pin p hp).1
      rw [z, gone] at z2
      cases z2
    have trk : ∀ {h : Heap}, Inv X pins σ' H' { s' with heap := h } → (∃ oe vs, h.get? a = some oe ∧ Zc cls d oe ∧ oe.data = .fields vs) → Inv X pins σ' (upd H' a (exq a cls d)) { s' with heap := h } := fun {h} J4 th => by
      obtain ⟨oe, vs, h1, h2, h3⟩ := th
      exact J4.track n0 na nL nC nP (exq_ok h1 h2 h3)
    have S3 := (trk J3 ⟨oe3, vs3, he3, hz3, hd3⟩).suite' (a := a)
    refine wpAny_handleBy_cons (codeAny_handlers_test ?_) (by intro q; cases q)
    have LT : PySem.W.Looks (model X.prog X.w) h3 (typeOf (.ref a)) cls := fun A Q E s k q => wpAny_typeOf_ref (k _ _ he3) (by rw [hz3.1]; exact q)
    have LM := PySem.W.exm_one (M := model X.prog X.w) (J3.kIn) LT meets
    have test : ∀ {Q : Value → Shared → Prop} {E : Value → Shared → Prop}, Q c { s' with heap := h3 } →
        wpAny (model X.prog X.w) (X.A.mark (some (.ref a))) (eval (.Name x np) X.env) Q E { s' with heap := h3 } := fun {Q E} q => by
      obtain ⟨hg, hdbg, hm | ⟨hm, hv, hnn⟩⟩ := nm
      · exact ld_glob (X := X.suite a (X.pn ++ pins)) S3 hg hm q hdbg
      · exact ld_blt (X := X.suite a (X.pn ++ pins)) S3 hg hm hv q hnn hdbg
    refine test (LM.here ?_)
    cases b with
    | true =>
      refine codeAny_handlers_suite_as ?_
      refine HandSPX.lands_againZ fl3 fun h4 fl4 up4 => ?_
      have J4 : Inv X pins σ' H' { s' with heap := h4 } := J.landed inB fl4.1 ((up.trans up3).trans up4) os ag
      have S4 := (trk J4 fl4.there).suite' (a := a)
      refine store_ok (X := X.suite a (X.pn ++ pins)) (v := .ref a) S4 nodup at_i isLoc rfl (fun s5 S5 => ?_) (.inr loc)
      refine wpAny_mono ((hsu a (X.pn ++ pins)).run [] s5 _ _ _ S5 (yes rfl a na)) (fun f s6 done => ?_) (fun _ _ z => False.elim z)
      have leave : ∀ {σ6 : L2.St} {H6 : Hp} {Q : Shared → Prop}, Inv (X.suite a (X.pn ++ pins)) [] σ6 H6 s6 → (∀ s7, Inv X pins (σ6.set i none) H6 s7 → Q s7) →
          wpAny (model X.prog X.w) X.A (do bindName X.env n .none; unbindBehindTheSuite X.env n pos') (fun _ s7 => Q s7) X.xe s6 := fun {σ6 H6 Q} S6 hq => gone_ok (S6.unsuite' ok) nodup at_i loc hq
      match f, done with
      | .next, ⟨σ6, H6, S6, q6⟩ => exact leave S6 fun s7 J7 => ⟨_, _, J7, q6⟩
      | .brk, ⟨σ6, H6, S6, q6⟩ => exact leave S6 fun s7 J7 => ⟨_, _, J7, q6⟩
      | .cont, ⟨σ6, H6, S6, q6⟩ => exact leave S6 fun s7 J7 => ⟨_, _, J7, q6⟩
      | .ret u, ⟨v6, σ6, H6, S6, r6, q6⟩ => exact leave S6 fun s7 J7 => ⟨_, _, _, J7, r6, q6⟩
    | false =>
      show wpAny _ X.A (handleBy (.ref a) X.env []) _ _ _
      refine wpAny_handleBy_nil ?_
      obtain ⟨k1, k2, k3, oe, vs, T, oT, ts', he, hz, hd, h1, hr⟩ := id fl3
      unfold PySem.passOn
      refine wpAny_bind (wpAny_field he hd h1 ?_)
      rw [if_neg (show ¬ ((Value.ref T == Value.none) = true) from by simp)]
      have fin : wpAny (model X.prog X.w) X.A (setFlight (.ref a) X.env.frame) (fun _ s4 => wpAny (model X.prog X.w) X.A (throw (.ref a) : Sem Flow) (SP X pins D) X.xe s4) X.xe { s' with heap := h3 } := by
        rw [frm]
        refine HandSPX.setFlight_upZ fl3 fun h4 hh4 up4 => wpAny_throw (tk _ _ ?_)
        exact ⟨a, B, sI, pins, σ', H', cls, d, rfl, J, inB, (up.trans up3).trans up4, .inr (.inr (by rw [stk]; exact hh4)), na, os, ag, no rfl⟩
      first
        | exact wpAny_bind (wpAny_pure (wpAny_bind fin))
        | exact wpAny_bind fin
  · match f, done with
    | .next, ⟨σ', H', J', q⟩ => exact wpAny_execs_nil ⟨σ', H', J'.ofTry ok, q⟩
    | .brk, ⟨σ', H', J', q⟩ => exact ⟨σ', H', J'.ofTry ok, q⟩
    | .cont, ⟨σ', H', J', q⟩ => exact ⟨σ', H', J'.ofTry ok, q⟩
    | .ret u, ⟨v, σ', H', J', r, q⟩ => exact ⟨v, σ', H', J'.ofTry ok, r, q⟩
end
/-- raise e, e a new exception of an own class with a field -/
def tRaiseX (W : WX) (K : PySem.W.Frag) (H0 : Hp) (te : TE) : TS := fun _ σ H => te σ H fun x H1 => ∃ a C d, x = .ref a ∧ H1 a = some (exo a C (some d)) ∧ Fr0 H0 a ∧
  PySem.W.subIn K (.ref C) (.type "BaseException") = some true ∧ PySem.W.typeIn K (.ref C) = some (.type "type") ∧ W (.ref C) (some d) σ (delH H1 a)
theorem pmk_xk {X : Cx} {e : Expr} {te : TE} (K : PySem.W.Frag) (H0 : Hp) (hK : X.K = K) (h0 : X.H_0 = H0) (hx : X.ex = []) (he : PE X e te) :
    PMk X e (fun σ H Q => te σ H fun x H1 => ∃ a C d, x = .ref a ∧ H1 a = some (exo a C (some d)) ∧ Fr0 H0 a ∧
      PySem.W.subIn K (.ref C) (.type "BaseException") = some true ∧ PySem.W.typeIn K (.ref C) = some (.type "type") ∧ Q (.ref C) (some d) (delH H1 a)) := by
  subst hK h0
  intro pins s σ H Q I h
  refine wpAny_mono (he.run pins s σ H _ I h) (fun u s1 hu => ?_) fun _ _ z => z
  obtain ⟨v, H1, I1, r1, a, C, d, rfl, ea, f0, b1, b2, q⟩ := hu
  cases r1
  obtain ⟨t1, ho⟩ := exo_at I1.hok ea
  obtain ⟨G, sub, gone, J⟩ := I1.untrack ea f0 hx
  exact ⟨a, _, _, { s1 with heap := G }, delH H1 a, .ref C, some d, rfl, J, sub, gone, ho, ⟨rfl, rfl⟩, rfl, rfl, delH_same, rfl, I1.bare, raises_own b1 b2, q⟩
theorem ps_raiseX {X : Cx} {W : WX} {e : Expr} {te : TE} {pos : Pos} (K : PySem.W.Frag) (H0 : Hp) (hK : X.K = K) (h0 : X.H_0 = H0) (hc : X.calm = true) (hx : X.ex = []) (tk : Takes X W) (he : PE X e te) :
    PS X (.Raise (some e) none pos) (tRaiseX W K H0 te) := ps_raise hc tk (pmk_xk K H0 hK h0 hx he)
end L2

namespace Lr
open PySem PySem.Spec PyProof.Rows L2
/-- an __init__(self, x) that stores its argument as a field -/
def spOne (C : Addr) (f : Str) : Sp := fun vs H Q _ => ∃ (a : Addr) (v : V), vs = [.ref a, v] ∧ H a = some (exo a C none) ∧
  ∀ d, H d = none → d ≠ a → Q .non (upd (upd H d (exd d [(f, v)])) a (exo a C (some d)))
/-- an __init__(self, x, y) that stores both -/
def spTwo (C : Addr) (f g : Str) : Sp := fun vs H Q _ => ∃ (a : Addr) (v u : V), vs = [.ref a, v, u] ∧ H a = some (exo a C none) ∧
  ∀ d, H d = none → d ≠ a → Q .non (upd (upd (upd H d (exd d [(f, v)])) a (exo a C (some d))) d (exd d [(g, u), (f, v)]))
/-- what is said of a class with its own __init__ -/
structure Own (K : PySem.W.Frag) (mg : Str → Option Value) (name : Str) (B nid iid : String) (tl : List Value) (C fI : Addr) (fd : FuncData) (ps : List Str) : Prop where
  x : XT K B nid iid tl C
  g : mg name = some (.ref C)
  i : PySem.W.findIn K (.ref C) "__init__" = some (some (.ref fI))
  t : PySem.W.typeIn K (.ref fI) = some (.type "function")
  b : Binds K fd ps []
theorem Fun.kwb {K : PySem.W.Frag} {x qual : Str} {st : Stmt} {f : Addr} {fd : FuncData} {ps ks : List Str} {ord : List Value → List Value} (F : Fun K x qual st f fd)
    (h : ∀ (kV doc pm : Value) (an : Option Addr) (cdv ct : Value) (a : Value) (zs : List Value), (a :: ord zs).length = ps.length → bindArgs (PySem.W.fnOf x qual (defArgs st) (defBody st) (defScope st) .none kV doc pm an cdv ct) ⟨[a], ks.zip zs⟩ = pure (ps.zip (a :: ord zs))) :
    ∀ (s : Shared) (a : Value) (zs : List Value), K.In s.heap → (a :: ord zs).length = ps.length → BindsTo s fd ⟨[a], ks.zip zs⟩ (ps.zip (a :: ord zs)) := by
  obtain ⟨o1, o2, kV, doc, pm, an, cdv, ct, sl, rfl, _, _⟩ := F.ex
  exact fun s a zs _ hl => .of_eq (h kV doc pm an cdv ct a zs hl)
theorem made_same {H : Hp} {a d : Addr} {e0 e1 x : HO} (na : H a = none) (nd : (upd H a e0) d = none) : Same H (upd (upd (upd H a e0) d x) a e1) := fun b o e => by
  rw [upd_ne (ne_of_none e na)]
  exact same_upd nd _ _ (same_upd na _ _ e)
theorem made_at {H : Hp} {a d C : Addr} {e0 : HO} {fs : List (Str × V)} (ne : d ≠ a) : ExIn (upd (upd (upd H a e0) d (exd d fs)) a (exo a C (some d))) a C fs := .inr ⟨d, .inl upd_same, .inl (by rw [upd_ne ne, upd_same])⟩
/-- data that repr can tell, small -/
def fine (d : PyData) : Bool := d.showable && decide (d.shown.length ≤ 1000) && decide (d.depth ≤ 30)
theorem fine_of {d : PyData} (h : fine d = true) : d.showable = true ∧ d.shown.length ≤ sizeLine ∧ d.depth ≤ 60 := by
  unfold fine at h
  rw [Bool.and_eq_true, Bool.and_eq_true, decide_eq_true_eq, decide_eq_true_eq] at h
  refine ⟨h.1.1, ?_, Nat.le_trans h.2 (by decide)⟩
  rw [sizeLine_eq]
  exact Nat.le_trans h.1.2 (by decide)
theorem fine_pair {d e : PyData} (h : fine d = true) (g : fine e = true) : (PyData.list [d, e]).showable = true ∧ (PyData.list [d, e]).shown.length ≤ sizeLine ∧ (PyData.list [d, e]).depth ≤ 60 := by
  unfold fine at h g
  rw [Bool.and_eq_true, Bool.and_eq_true, decide_eq_true_eq, decide_eq_true_eq] at h g
  refine ⟨?_, ?_, ?_⟩
  · simp only [PyData.showable, PyData.showableAll, h.1.1, g.1.1, Bool.and_self]
  · simp only [PyData.shown, PyData.shownAll]
    have q : (listText [d.shown, e.shown]).length ≤ d.shown.length + e.shown.length + 10 := by
      unfold listText
      have e1 : textFrom 0 "[" [d.shown, e.shown] = ("[" : Str) ++ ("" : Str) ++ d.shown ++ (", " : Str) ++ e.shown := rfl
      rw [e1]
      simp only [strLen_append]
      have q1 : ("[" : Str).length = 1 := by rfl
      have q2 : ("]" : Str).length = 1 := by rfl
      have q3 : (", " : Str).length = 2 := by rfl
      have q4 : ("" : Str).length = 0 := by rfl
      omega
    rw [sizeLine_eq]
    have z1 := h.1.2
    have z2 := g.1.2
    omega
  · have z1 := h.2
    have z2 := g.2
    simp only [PyData.depth, PyData.depthAll]
    omega
end Lr

namespace PySem
namespace Ev
open PySem.W PyProof.Rows
/-- enumerate(v) of anything that has a simple iterator -/
theorem enum_new_one {v : Value} {o : Obj} {S : Heap → Prop} (B : Begins v o S) :
    Meets (Builtin.«enumerate.__new__» ⟨[.type "enumerate", v], []⟩) (fun _ R s => S s.heap ∧
      R (.ok (.ret (.ref (s.heap.push o).objs.size)))
        { s with heap := (s.heap.push o).push { cls := .type "enumerate", data := .fields #[.none, .bool false, .ref s.heap.objs.size, rawInt 0, .none, .none] } }) := .of_wp fun prog w A R s h => by
  obtain ⟨hp, g, d, tk, os⟩ := s
  obtain ⟨stands, want⟩ := h
  have hsub := sub_enumerate
  have begin_ : ∀ {A' : Around} {E : Value → Shared → Prop} {Q : Value → Shared → Prop}, Q (.ref hp.objs.size) ⟨hp.push o, g, d, tk, os⟩ → wpAny (model prog w) A' (pyIter v) Q E ⟨hp, g, d, tk, os⟩ :=
    fun q => B.iter prog w _ _ ⟨hp, g, d, tk, os⟩ _ stands q
  wp_walk using begin_
  refine wpAny_stack_any fun st => wpAny_pure ?_
  split
  · rename_i c _ _ _ _ _
    cases (c == Value.type "enumerate")
    all_goals
      wp_walk using begin_
      exact ⟨_, rfl, want⟩
  · wp_walk using begin_
    exact ⟨_, rfl, want⟩
section
variable {prog : Program} {w : World} {A : Around} {E : Value → Shared → Prop} {s : Shared}
theorem enum_one {v : Value} {o : Obj} {S : Heap → Prop} {Q : Value → Shared → Prop} (B : Begins v o S) (stands : S s.heap)
    (h : ∀ h', IsEnum h' (s.heap.objs.size + 1) s.heap.objs.size 0 .none → h'.get? s.heap.objs.size = some o → h'.objs.size = s.heap.objs.size + 2 →
      (∀ b u, s.heap.get? b = some u → h'.get? b = some u) → Q (.ref (s.heap.objs.size + 1)) { s with heap := h' }) :
    wpAny (model prog w) A (call (.type "enumerate") [v]) Q E s := by
  refine callType_new F.called_enumerate (by decide) (F.typeCall_enumerate_1 _) (F.newCall_enumerate_1 _) (fun obj => F.args_object_init_2 obj _) F.entry_enumerate_new (enum_new_one B) ⟨stands, ?_⟩
  have size1 : (s.heap.push o).objs.size = s.heap.objs.size + 1 := Heap.size_push ..
  show _ ∧ _
  rw [size1]
  have is_enum : IsEnum ((s.heap.push o).push { cls := .type "enumerate", data := .fields #[.none, .bool false, .ref s.heap.objs.size, rawInt 0, .none, .none] }) (s.heap.objs.size + 1) s.heap.objs.size 0 .none := by
    have z := Heap.get?_push_size (s.heap.push o) (o := { cls := .type "enumerate", data := .fields #[.none, .bool false, .ref s.heap.objs.size, rawInt 0, .none, .none] }) rfl
    rw [size1] at z
    exact z
  refine ⟨⟨_, is_enum, rfl⟩, h _ is_enum (Heap.get?_push_of_some _ (Heap.get?_push_size _ B.free)) (by rw [Heap.size_push, size1]) fun b u x => ?_⟩
  exact Heap.get?_push_of_some _ (Heap.get?_push_of_some _ x)
end
end Ev
end PySem
namespace L2
open PySem PySem.Spec PyProof.Rows
/-- the tuple at a, each item in a new pair -/
def Itte (K : PySem.W.Frag) (a : Addr) : It :=
  ⟨fun i H => ∃ (xs : List V) (x : V), SqT K H a xs ∧ xs[i]? = some x,
   fun i H v H' => ∃ T x, v = .ref T ∧ H T = none ∧ H' = upd H T (.tup [.int (i : Nat), x]) ∧ ∀ xs, SqT K H a xs → xs[i]? = some x,
   fun i H => ∃ xs : List V, SqT K H a xs ∧ xs.length = i⟩
theorem turn_enumT {P : Program} {w : World} {K : PySem.W.Frag} {elts : List Expr} {kk : Nat} {tpos : Pos} (a e it : Addr) :
    Turn P w K (.Tuple elts kk tpos) (Itte K a) [e, it] e (fun i h => (∃ old, IsEnum h e it ((i : Nat) : Int) old) ∧ h.IsTupleIter it a i ∧ e ≠ it ∧ a ≠ it ∧ e ≠ a) where
  mem := by simp
  obj := fun i h st b hb => by
    obtain ⟨⟨old, he⟩, ⟨o, ho, hc, hd⟩, _⟩ := st
    have one : b = e ∨ b = it := by simpa using hb
    rcases one with z | z
    · subst z
      exact ⟨_, he, fun v q => nomatch q⟩
    · subst z
      exact ⟨o, ho, fun v q => by rw [hd] at q; cases q⟩
  keep := fun i h h' st k => by
    obtain ⟨⟨old, he⟩, hit, rest⟩ := st
    exact ⟨⟨old, k e (by simp) _ he⟩, hit.at fun o q => k it (by simp) o q, rest⟩
  item := by
    intro X hP hw hK hc i pins s σ H E I hf st hg
    subst hP hw hK
    obtain ⟨⟨old, he⟩, hit, n1, n2, n3⟩ := st
    obtain ⟨xs, x, hq, hx⟩ := hg
    obtain ⟨its, rv, p, _⟩ := I.tuple hq
    obtain ⟨u, hu, ru⟩ := rv.get hx
    have low_e : e < s.heap.objs.size := Heap.lt_size he
    have low_it : it < s.heap.objs.size := by
      obtain ⟨_, q, _⟩ := hit
      exact Heap.lt_size q
    have D := Draws.tuple (prog := X.prog) (w := X.w) (A := X.A.in1) (show X.A.in1.handled = none from I.ok.hd hc) it a n2 its.toArray
    have lt : i < its.toArray.size := by
      have z := (List.getElem?_eq_some_iff.mp hu).1
      simpa using z
    refine wpAny_pyNext_enum_itemC (c := ((i : Nat) : Int)) D he ⟨hit, show s.heap.IsTuple a its.toArray from p⟩ lt n1 (by simp [n1, n3]) fun y h' tk got out st' new size keep => ?_
    have same : y = u := by
      have z : its[i]? = some y := by simpa using got
      rw [hu] at z
      exact (Option.some.inj z).symm
    subst same
    refine ⟨_, rfl, wpAny_letOwnedTupleGo_enum (s := { s with heap := h', toks := tk + 1 }) out fun h2 he2 sb => ?_⟩
    have new2 : h2.get? s.heap.objs.size = some { cls := .type "tuple", data := .seq #[.int i tk, y] } := (sb.2 _ (Nat.ne_of_gt low_e)).trans new
    have ok : ObjOk X.prog X.w (upd H s.heap.objs.size (.tup [.int (i : Nat), x])) h2 s.heap.objs.size (.tup [.int (i : Nat), x]) :=
      ⟨by show 2 ≤ sizeLine; decide, [.int i tk, y], .cons ⟨_, rfl⟩ (.cons ru .nil), ⟨_, new2, rfl, _, rfl⟩⟩
    have I1 : Inv X pins σ (upd H s.heap.objs.size (.tup [.int (i : Nat), x])) { s with heap := h2, toks := tk + 1 } :=
      I.turnedNew (ch := [e, it]) (fun b ob hb q => (sb.2 b (fun z => hb (by simp [z]))).trans (keep b ob (fun z => hb (by simp [z])) (fun z => hb (by simp [z])) q)) hf (Nat.le_refl _) ok
    refine ⟨.ref s.heap.objs.size, _, I1, rfl, ⟨_, x, rfl, I.hok.fresh (Nat.le_refl _), rfl, fun ys hy => by rw [I.tuple_inj hy hq]; exact hx⟩, ⟨⟨y, ?_⟩, st'.1.at fun o q => (sb.2 it (Ne.symm n1)).trans q, n1, n2, n3⟩, fun b hb => ?_⟩
    · have z : ((i + 1 : Nat) : Int) = (i : Int) + 1 := by omega
      rw [z]
      exact he2
    · have low : b < s.heap.objs.size := by
        have one : b = e ∨ b = it := by simpa using hb
        rcases one with z | z
        · exact z ▸ low_e
        · exact z ▸ low_it
      rw [upd_ne (Nat.ne_of_lt low)]
      exact (hf b hb).1
  done := by
    intro X hP hw hK hc i pins s σ H E I hf st hg
    subst hP hw hK
    obtain ⟨⟨old, he⟩, hit, n1, n2, n3⟩ := st
    obtain ⟨xs, hq, hx⟩ := hg
    obtain ⟨its, rv, p, _⟩ := I.tuple hq
    obtain ⟨f0, f1, f2, f3, f4, f5⟩ := hf it (by simp)
    have hl := rv.length
    have D := Draws.tuple (prog := X.prog) (w := X.w) (A := X.A.in1) (show X.A.in1.handled = none from I.ok.hd hc) it a n2 its.toArray
    have at_end : its.toArray.size = i := by
      rw [List.size_toArray, ← hl]
      exact hx
    refine wpAny_pyNext_enum_endD D he (by rw [at_end]; exact ⟨hit, show s.heap.IsTuple a its.toArray from p⟩) fun h' eb => ?_
    exact ⟨rfl, I.turned (t' := s.toks) (fun b o hb q => eb b o hb q) f0 f1 f3 f4 f5⟩
  self := fun A i s Q E st h => by
    obtain ⟨⟨_, he⟩, _⟩ := st
    exact wpAny_pyIter_enum he h
def iEnumT (K : PySem.W.Frag) (ta : TA) : TI := fun σ H R => ta σ H fun vs H1 => ∃ a xs, vs = [.ref a] ∧ SqT K H1 a xs ∧ R (Itte K a) H1
theorem pi_enumT {X : Cx} {e : Expr} {ta : TA} {p pos tpos : Pos} {elts : List Expr} {kk : Nat} (hg : Gl X "enumerate") (hm : X.mg "enumerate" = none) (ha : PA X [e] ta) (hs : starEach [e] X.env = [(false, eval e X.env)] := by rfl) :
    PI X (.Tuple elts kk tpos) (.Call (.Name "enumerate" p) [e] [] pos) (iEnumT X.K ta) := by
  refine ⟨fun pins s σ H R I h => Call_ (ld_blt I hg hm boot_enumerate (PyProof.Rows.callWith_type1 (thn (ha.run pos pins s σ H _ I h) fun us s1 hu => ?_) hs rfl))⟩
  obtain ⟨vs, H1, I1, r1, a, xs, ex, hq, q⟩ := hu
  subst ex
  cases r1 with
  | cons r rr =>
    cases rr
    cases r
    obtain ⟨its, rv, tp, _⟩ := I1.tuple hq
    have tp' : s1.heap.IsTuple a its.toArray := tp
    have low : a < s1.heap.objs.size := by
      obtain ⟨o, z, _⟩ := tp'
      exact Heap.lt_size z
    refine Ev.enum_one (begins_tuple a its.toArray) tp' fun h' he hit size keep => wpAny_pyIter_enum he ?_
    have I2 : Inv X pins σ H1 { s1 with heap := h' } := I1.kept (t' := s1.toks) keep
    refine ⟨s1.heap.objs.size + 1, [s1.heap.objs.size + 1, s1.heap.objs.size], _, _, H1, rfl, I2, turn_enumT a (s1.heap.objs.size + 1) s1.heap.objs.size,
      ⟨⟨.none, he⟩, ⟨_, hit, rfl, rfl⟩, Nat.succ_ne_self _, Nat.ne_of_lt low, Nat.ne_of_gt (Nat.lt_succ_of_lt low)⟩, fun b hb => ?_, q⟩
    have high : s1.heap.objs.size ≤ b := by
      have one : b = s1.heap.objs.size + 1 ∨ b = s1.heap.objs.size := by simpa using hb
      rcases one with z | z
      · rw [z]
        exact Nat.le_add_right _ _
      · exact Nat.le_of_eq z.symm
    exact I1.fpOk high (I1.hok.fresh high)
theorem walk_enumT {K : PySem.W.Frag} {a : Addr} {xs : List V} : Walk (Itte K a) xs.length (fun H => SqT K H a xs) (YPair (fun i => some (.int (i : Nat))) (fun i => xs[i]?)) :=
  ⟨fun i H hi h => ⟨xs, xs[i], h, by simp [hi]⟩, fun H h => ⟨xs, h, rfl⟩, fun i H x H' hi h y => by
    obtain ⟨T, u, e1, n, e2, all⟩ := y
    exact ⟨T, _, u, e1, n, e2, rfl, all xs h⟩⟩
end L2

namespace Lr
open PySem PySem.Spec PyProof.Rows L2

/-! sets of nested keys, of at most four -/
section
variable {P : Program} {w : World}
/-- v asks no class of its own, n levels down -/
def NoCls (P : Program) (w : World) (s : Shared) (n : Nat) (v : Value) : Prop := ∀ (A : Around) (E : Value → Shared → Prop) (Q : Bool → Shared → Prop), Q false s → wpAny (model P w) A (ofAClassStatement n v) Q E s
/-- hashing v by value is asked, whatever comes of it -/
def AnyBy (P : Program) (w : World) (s : Shared) (n : Nat) (v : Value) : Prop := ∀ (A : Around) (E : Value → Shared → Prop) (Q : Bool → Shared → Prop), (∀ b, Q b s) → wpAny (model P w) A (hashByValue n v) Q E s
theorem NoCls.seq {s : Shared} {n m : Nat} {a : Addr} {o : Obj} {vs : Array Value} (ho : s.heap.get? a = some o) (hc : o.cls = .type "tuple") (hd : o.data = .seq vs m) (all : ∀ u ∈ vs.toList, NoCls P w s n u) : NoCls P w s (n + 1) (.ref a) := by
  intro A E Q q
  have ty : s.TypeIs (.ref a) "tuple" := ⟨o, ho, hc⟩
  have et : (("tuple" : String) == "tuple") = true := by decide
  unfold ofAClassStatement
  refine wpAny_bind (wpAny_typeOf ty ?_)
  dsimp only
  simp only [et, ↓reduceIte, Bool.not_true, Bool.false_eq_true]
  try refine wpAny_bind (wpAny_pure ?_)
  try simp only [Bool.not_true, Bool.false_eq_true, ↓reduceIte]
  show wpAny _ A (seqItems? (.ref a) >>= _) _ _ _
  refine wpAny_bind (wpAny_seqItems ho hd ?_)
  dsimp only
  refine wpAny_bind ?_
  show wpAny _ A (forIn vs _ _) _ _ _
  rw [← Array.forIn_toList]
  refine wpAny_forIn_list _ (fun left z s1 => s1 = s ∧ z.1 = none ∧ ∀ u ∈ left, NoCls P w s n u) _ ?_ ?_ vs.toList _ ⟨rfl, rfl, all⟩
  · rintro u left z s1 ⟨rfl, e0, more⟩
    refine wpAny_bind (more u (.head _) A E _ ?_)
    simp only [Bool.false_eq_true, ↓reduceIte]
    exact wpAny_pure ⟨rfl, rfl, fun y hy => more y (.tail _ hy)⟩
  · rintro ⟨z1, z2⟩ s1 ⟨rfl, e0, _⟩
    cases (show z1 = none from e0)
    exact wpAny_pure q
theorem AnyBy.seq {s : Shared} {n m : Nat} {a : Addr} {o : Obj} {vs : Array Value} (ho : s.heap.get? a = some o) (hc : o.cls = .type "tuple") (hd : o.data = .seq vs m) (all : ∀ u ∈ vs.toList, AnyBy P w s n u) : AnyBy P w s (n + 1) (.ref a) := by
  intro A E Q q
  have ty : s.TypeIs (.ref a) "tuple" := ⟨o, ho, hc⟩
  unfold hashByValue
  refine wpAny_bind (wpAny_specialOf ty F.slot_tuple_hash.lookup ?_)
  show wpAny _ A (seqItems? (.ref a) >>= _) _ _ _
  refine wpAny_bind (wpAny_seqItems ho hd ?_)
  refine wpAny_bind ?_
  show wpAny _ A (forIn vs _ _) _ _ _
  rw [← Array.forIn_toList]
  refine wpAny_forIn_list _ (fun left z s1 => s1 = s ∧ z.1 = none ∧ ∀ u ∈ left, AnyBy P w s n u) _ ?_ ?_ vs.toList _ ⟨rfl, rfl, all⟩
  · rintro u left z s1 ⟨rfl, e0, more⟩
    refine wpAny_bind (more u (.head _) A E _ fun b => ?_)
    cases b with
    | true =>
      simp only [Bool.not_true, Bool.false_eq_true, ↓reduceIte]
      exact wpAny_pure ⟨rfl, rfl, fun y hy => more y (.tail _ hy)⟩
    | false =>
      simp only [Bool.not_false, ↓reduceIte]
      refine wpAny_pure ?_
      exact wpAny_pure (q false)
  · rintro ⟨z1, z2⟩ s1 ⟨rfl, e0, _⟩
    cases (show z1 = none from e0)
    exact wpAny_pure (q true)
mutual
theorem nk_cls : ∀ (k : NestedKey) (v : Value) (n : Nat) (s : Shared), NestedIs s.heap k v → k.depth ≤ n → NoCls P w s n v
  | .none, _, n, s, x, _ => by
    cases x
    intro A E Q q
    cases n <;> exact wpAny_pure q
  | .num i, _, n, s, x, _ => by
    cases x <;> intro A E Q q <;> cases n <;> exact wpAny_pure q
  | .text y, _, n, s, x, _ => by
    cases x
    intro A E Q q
    cases n <;> exact wpAny_pure q
  | .tup ks, _, n, s, x, hn => by
    simp only [NestedKey.depth] at hn
    cases x with
    | tup hg hc hd hk =>
      obtain ⟨n, rfl⟩ : ∃ m, n = m + 1 := ⟨n - 1, by omega⟩
      exact .seq hg hc hd (nk_clsAll ks _ n s hk (by omega))
theorem nk_clsAll : ∀ (ks : List NestedKey) (vs : List Value) (n : Nat) (s : Shared), NestedAll s.heap ks vs → NestedKey.depthAll ks ≤ n → ∀ v ∈ vs, NoCls P w s n v
  | [], _, n, s, x, _ => by
    cases x
    intro v hv
    cases hv
  | k :: ks, _, n, s, x, hn => by
    simp only [NestedKey.depthAll] at hn
    cases x with
    | cons x1 x2 =>
      intro v hv
      cases hv with
      | head => exact nk_cls k _ n s x1 (by omega)
      | tail _ hv => exact nk_clsAll ks _ n s x2 (by omega) v hv
end
mutual
theorem nk_any : ∀ (k : NestedKey) (v : Value) (n : Nat) (s : Shared), NestedIs s.heap k v → k.depth ≤ n → AnyBy P w s n v
  | .none, _, n, s, x, _ => by
    cases x
    intro A E Q q
    cases n <;> exact wpAny_pure (q true)
  | .num i, _, n, s, x, _ => by
    cases x <;> intro A E Q q <;> cases n <;> exact wpAny_pure (q true)
  | .text y, _, n, s, x, _ => by
    cases x
    intro A E Q q
    cases n <;> exact wpAny_pure (q false)
  | .tup ks, _, n, s, x, hn => by
    simp only [NestedKey.depth] at hn
    cases x with
    | tup hg hc hd hk =>
      obtain ⟨n, rfl⟩ : ∃ m, n = m + 1 := ⟨n - 1, by omega⟩
      exact .seq hg hc hd (nk_anyAll ks _ n s hk (by omega))
theorem nk_anyAll : ∀ (ks : List NestedKey) (vs : List Value) (n : Nat) (s : Shared), NestedAll s.heap ks vs → NestedKey.depthAll ks ≤ n → ∀ v ∈ vs, AnyBy P w s n v
  | [], _, n, s, x, _ => by
    cases x
    intro v hv
    cases hv
  | k :: ks, _, n, s, x, hn => by
    simp only [NestedKey.depthAll] at hn
    cases x with
    | cons x1 x2 =>
      intro v hv
      cases hv with
      | head => exact nk_any k _ n s x1 (by omega)
      | tail _ hv => exact nk_anyAll ks _ n s x2 (by omega) v hv
end
/-- an object that is a nested key -/
def NkAt (h : Heap) (k : NestedKey) (a : Addr) : Prop := NestedIs h k (.ref a) ∧ k.depth ≤ 8
theorem nk_seen {A : Around} {E : Value → Shared → Prop} {s : Shared} {x : Addr} {k : NestedKey} {Q : Bool → Shared → Prop} (hx : NkAt s.heap k x) {ys : List Value} (hy : ∀ y ∈ ys, ∃ k' c, y = Value.ref c ∧ NkAt s.heap k' c) (q : Q false s) :
    wpAny (model P w) A (searchCouldBeSeen (.ref x) ys) Q E s := by
  unfold searchCouldBeSeen
  refine wpAny_bind ?_
  refine wpAny_forIn_list _ (fun left z s1 => s1 = s ∧ z.1 = none ∧ ∀ y ∈ left, ∃ k' c, y = Value.ref c ∧ NkAt s.heap k' c) _ ?_ ?_ ys _ ⟨rfl, rfl, hy⟩
  · rintro u left z s1 ⟨rfl, e0, more⟩
    obtain ⟨k', c, rfl, hc⟩ := more u (.head _)
    have go : (none : Option Bool) = none ∧ ∀ y ∈ left, ∃ k' c, y = Value.ref c ∧ NkAt s1.heap k' c := ⟨rfl, fun y hy => more y (.tail _ hy)⟩
    dsimp only
    by_cases very : (x == c || (carriedByValue (.ref x) && carriedByValue (.ref c))) = true
    · exact wp_if_pos very (wpAny_pure ⟨rfl, go⟩)
    · refine wp_if_neg very (wpAny_bind (quiet_key k _ 8 s1 hx.1 hx.2 A E _ ?_))
      simp only [Bool.not_true, Bool.false_eq_true, ↓reduceIte]
      refine wpAny_bind (quiet_key k' _ 8 s1 hc.1 hc.2 A E _ ?_)
      simp only [Bool.not_true, Bool.false_eq_true, ↓reduceIte]
      refine wpAny_bind (nk_cls k _ 8 s1 hx.1 hx.2 A E _ ?_)
      simp only [Bool.false_eq_true, ↓reduceIte]
      refine wpAny_bind (nk_cls k' _ 8 s1 hc.1 hc.2 A E _ ?_)
      simp only [Bool.false_eq_true, ↓reduceIte]
      exact wpAny_pure ⟨rfl, go⟩
  · rintro ⟨z1, z2⟩ s1 ⟨rfl, e0, _⟩
    cases (show z1 = none from e0)
    exact wpAny_pure q
end
end Lr

namespace Lr
open PySem PySem.Spec PyProof.Rows L2
section
variable {P : Program} {w : World}
/-- the rows of a set of the keys in L, each at its address -/
def nrows (w : World) (L : List (NestedKey × Addr)) : List (Int × Value) := L.map fun q => (q.1.hash w, Value.ref q.2)
/-- at a: a set of at most four nested keys, all different, over eight places -/
structure Nst (P : Program) (w : World) (h : Heap) (a : Addr) (L : List (NestedKey × Addr)) (es : Array (Int × Value)) (ep : Nat) (t : SetTable) : Prop where
  ob : ∃ o, h.get? a = some o ∧ o.ExactSet ∧ o.data = .set es ep t
  rows : es.toList = nrows w L
  tab : TabOk t (L.map fun q => q.1.hash w)
  keys : ∀ q ∈ L, NkAt h q.1 q.2
  mask : t.mask = 7
  few : L.length ≤ 4
variable {A : Around} {E : Value → Shared → Prop} {s : Shared} {a : Addr} {L : List (NestedKey × Addr)} {es : Array (Int × Value)} {ep : Nat} {t : SetTable}
theorem Nst.num (N : Nst P w s.heap a L es ep t) : es.size = L.length := by
  rw [← Array.length_toList, N.rows, nrows, List.length_map]
theorem Nst.fit (N : Nst P w s.heap a L es ep t) : t.fits es.size = true := by
  have z1 : t.place.size = L.length := by
    rw [N.tab.sz, List.length_map]
  have z2 := N.few
  have z3 := N.mask
  unfold SetTable.fits SetTable.fill
  rw [N.num, N.tab.dm, z1, z3]
  simp only [beq_self_eq_true, Bool.true_and, decide_eq_true_eq]
  show L.length + 0 ≤ 7
  omega
theorem Nst.whole (N : Nst P w s.heap a L es ep t) : ¬ t.gaveWay = true := by
  unfold SetTable.gaveWay
  rw [N.mask]
  decide
theorem Nst.at (N : Nst P w s.heap a L es ep t) {i : Nat} {q : NestedKey × Addr} (h : L[i]? = some q) : es[i]? = some (q.1.hash w, Value.ref q.2) := by
  have z : es.toList[i]? = some (q.1.hash w, Value.ref q.2) := by
    rw [N.rows, nrows, List.getElem?_map, h]
    rfl
  rwa [Array.getElem?_toList] at z
theorem nth_dummy {m : Nat} : ∀ (n : Nat) (p : SetTable.Probe), p.dummy = none → (nth m p n).dummy = none
  | 0, _, h => h
  | n + 1, p, h => nth_dummy n (adv m p) (by
      unfold adv
      split <;> exact h)
/-- the start of the way of a hash -/
abbrev way0 (m : Nat) (g : Int) : SetTable.Probe := runAt m (SetTable.bits g % (m + 1)) (SetTable.bits g)
/-- looking for a key that isn't in: the first empty place of its way -/
theorem nst_seek (N : Nst P w s.heap a L es ep t) {x : Addr} {k : NestedKey} (hx : NkAt s.heap k x) (hu : A.units + 8 < cLine) (new : ∀ q ∈ L, q.1 ≠ k) {K : Nat} (kf : K < 10 * SetTable.turns t.mask)
    (free : way t.mask (k.hash w) K ∉ t.place.toList) (full : ∀ c, c < K → way t.mask (k.hash w) c ∈ t.place.toList) {Q : SetFound → Shared → Prop} (out : Q (.free (way t.mask (k.hash w) K) false) s) :
    ∀ (n c : Nat) (st : Option SetTable.Probe), st.getD (t.probeStart (k.hash w)) = nth t.mask (way0 t.mask (k.hash w)) c → c ≤ K → K < c + n → wpAny (model P w) A (setSearchFrom a (.ref x) (k.hash w) true n st) Q E s := by
  intro n
  induction n with
  | zero =>
    intro c st _ h1 h2
    omega
  | succ n ih =>
    intro c st from_c le lt
    obtain ⟨o, ho, hex, hd⟩ := N.ob
    rw [setSearchFrom_succ]
    refine wpAny_bind (wpAny_setState_of ho hd N.fit ?_)
    dsimp only
    refine wp_if_neg N.whole ?_
    try refine wpAny_bind (wpAny_pure ?_)
    have nd := nth_dummy (m := t.mask) c (way0 t.mask (k.hash w)) rfl
    have ahead : ∀ j, (nth t.mask (nth t.mask (way0 t.mask (k.hash w)) c) j).j = way t.mask (k.hash w) (c + j) := fun j => congrArg SetTable.Probe.j (nth_add t.mask c (way0 t.mask (k.hash w)) j).symm
    have cK : c + (K - c) = K := by omega
    rcases go_spec t N.tab.ris N.tab.dm (fun i => (es[i]?.map (·.1)).getD 0) (k.hash w) (10 * SetTable.turns t.mask) (K - c) (nth t.mask (way0 t.mask (k.hash w)) c) nd (by omega)
      (fun j hj => by rw [ahead]; exact full _ (by omega)) (by rw [ahead, cK]; exact free) with ⟨j, i, jK, at_i, same, _, met⟩ | ⟨_, met⟩
    · rw [ahead] at at_i met
      have met' : t.probe (fun i => (es[i]?.map (·.1)).getD 0) (k.hash w) (st.getD (t.probeStart (k.hash w))) = some (.candidate (way t.mask (k.hash w) (c + j)) i (nth t.mask (way0 t.mask (k.hash w)) (c + (j + 1)))) := by
        rw [from_c, nth_add]
        exact met
      rw [met']
      dsimp only
      have iL : i < L.length := by
        have z := (List.getElem?_eq_some_iff.mp at_i).1
        rw [Array.length_toList, N.tab.sz, List.length_map] at z
        exact z
      obtain ⟨q, hq⟩ : ∃ q, L[i]? = some q := ⟨_, List.getElem?_eq_getElem iL⟩
      have qm : q ∈ L := List.mem_of_getElem? hq
      have rest : wpAny (model P w) A (searchRest a (.ref x) (k.hash w) true n es t (way t.mask (k.hash w) (c + j)) i (nth t.mask (way0 t.mask (k.hash w)) (c + (j + 1)))) Q E s := by
        unfold searchRest
        rw [N.at hq]
        dsimp only
        have no : decide (q.1 = k) = false := decide_eq_false (new q qm)
        refine wpAny_bind (wpAny_holding ((nestedKind P w).eqBool (x := q.1) (y := k) hu (N.keys q qm) hx ?_))
        rw [no]
        refine wpAny_bind (wpAny_setState_of ho hd N.fit ?_)
        dsimp only
        refine wp_if_neg (by simp) ?_
        try refine wpAny_bind (wpAny_pure ?_)
        rw [sameMem]
        dsimp only
        simp only [↓reduceIte, slot_live N.tab.ris at_i, N.at hq]
        refine wpAny_bind (wpAny_isSame_ref_self (wpAny_bind (wpAny_pure ?_)))
        simp only [↓reduceIte]
        refine wp_if_neg (by simp) ?_
        exact ih (c + (j + 1)) _ rfl (by omega) (by omega)
      by_cases led : t.led = true
      · refine wp_if_neg (by rw [led]; decide) ?_
        try refine wpAny_bind (wpAny_pure ?_)
        exact rest
      · refine wp_if_pos (by rw [Bool.not_eq_true] at led; rw [led]; rfl) (wpAny_bind (nk_seen hx (fun y hy => ?_) ?_))
        · obtain ⟨e, he, rfl⟩ := List.mem_map.mp hy
          rw [Array.mem_toList_iff, Array.mem_filter, ← Array.mem_toList_iff, N.rows] at he
          obtain ⟨p, hp, rfl⟩ := List.mem_map.mp he.1
          exact ⟨p.1, p.2, rfl, N.keys p hp⟩
        · refine wp_if_neg (by decide) ?_
          try refine wpAny_bind (wpAny_pure ?_)
          exact rest
    · rw [ahead, cK] at met
      have met' : t.probe (fun i => (es[i]?.map (·.1)).getD 0) (k.hash w) (st.getD (t.probeStart (k.hash w))) = some (.empty (way t.mask (k.hash w) K) none) := by
        rw [from_c]
        exact met
      rw [met']
      exact wpAny_pure out
theorem nst_find (N : Nst P w s.heap a L es ep t) {x : Addr} {k : NestedKey} (hx : NkAt s.heap k x) (hu : A.units + 8 < cLine) (new : ∀ q ∈ L, q.1 ≠ k) {Q : SetFound → Shared → Prop}
    (out : ∀ K, way t.mask (k.hash w) K ∉ t.place.toList → (∀ c, c < K → way t.mask (k.hash w) c ∈ t.place.toList) → Q (.free (way t.mask (k.hash w) K) false) s) :
    wpAny (model P w) A (setSearch a (.ref x) (k.hash w) true) Q E s := by
  have z1 := N.few
  have z2 := N.mask
  obtain ⟨K, kf, free, full⟩ := N.tab.first (by rw [List.length_map, z2]; omega) (k.hash w)
  have small : 10 * SetTable.turns t.mask ≤ 1420 := by
    unfold SetTable.turns
    rw [z2]
    omega
  exact nst_seek N hx hu new kf free full (out K free full) 100000 0 none rfl (Nat.zero_le _) (by omega)
end
end Lr

namespace Lr
open PySem PySem.Spec PyProof.Rows L2
section
variable {P : Program} {w : World}
theorem nk_keep {h h' : Heap} {k : NestedKey} {b : Addr} (x : NkAt h k b) (keep : ∀ c o vs n, h.get? c = some o → o.data = .seq vs n → h'.get? c = some o) : NkAt h' k b := ⟨x.1.at keep, x.2⟩
variable {A : Around} {E : Value → Shared → Prop} {s : Shared} {a : Addr} {L : List (NestedKey × Addr)} {es : Array (Int × Value)} {ep : Nat} {t : SetTable}
theorem Nst.keep {h h' : Heap} (N : Nst P w h a L es ep t) (ha : ∀ o, h.get? a = some o → h'.get? a = some o) (hk : ∀ q ∈ L, NkAt h' q.1 q.2) : Nst P w h' a L es ep t := by
  obtain ⟨o, ho, more⟩ := N.ob
  exact { N with ob := ⟨o, ha o ho, more⟩, keys := hk }
/-- a key that isn't in is put in -/
theorem nst_add (N : Nst P w s.heap a L es ep t) {x : Addr} {k : NestedKey} (hx : NkAt s.heap k x) (hu : A.units + 8 < cLine) (new : ∀ q ∈ L, q.1 ≠ k) (room : L.length + 1 ≤ 4) {Q : Bool → Shared → Prop}
    (out : ∀ h' L' es' ep' t', Heap.SameBut a s.heap h' → Nst P w h' a L' es' ep' t' → L'.Perm ((k, x) :: L) → Q true { s with heap := h' }) : wpAny (model P w) A (setAddHashed a (.ref x) (k.hash w)) Q E s := by
  obtain ⟨o, ho, hex, hd⟩ := N.ob
  have num := N.num
  unfold setAddHashed
  refine wpAny_holding ?_
  have fuel : (100000 : Nat) = 99999 + 1 := rfl
  rw [fuel, setAddHashedIn_succ]
  refine wpAny_bind (wpAny_setState_of ho hd N.fit ?_)
  dsimp only
  refine wp_if_neg (by simp [byScan, Value.scannable]) ?_
  try refine wpAny_bind (wpAny_pure ?_)
  refine wpAny_bind (nst_find N hx hu new fun K free full => ?_)
  dsimp only
  refine wpAny_bind (wpAny_setState_of ho hd N.fit ?_)
  dsimp only
  obtain ⟨p1, p2, p3, p4, _, _, _, _, p9⟩ := N.tab.put free full
  have er : (SetTable.insertAt es (SetTable.below t.place (way t.mask (k.hash w) K)) (k.hash w, Value.ref x)).toList = nrows w (L.take (SetTable.below t.place (way t.mask (k.hash w) K)) ++ (k, x) :: L.drop (SetTable.below t.place (way t.mask (k.hash w) K))) := by
    rw [SetTable.toList_insertAt, N.rows]
    unfold nrows
    rw [List.map_append, List.map_cons, List.map_take, List.map_drop]
  have eh : (L.take (SetTable.below t.place (way t.mask (k.hash w) K)) ++ (k, x) :: L.drop (SetTable.below t.place (way t.mask (k.hash w) K))).map (fun q => q.1.hash w) = (L.map fun q => q.1.hash w).take (SetTable.below t.place (way t.mask (k.hash w) K)) ++ k.hash w :: (L.map fun q => q.1.hash w).drop (SetTable.below t.place (way t.mask (k.hash w) K)) := by
    rw [List.map_append, List.map_cons, List.map_take, List.map_drop]
  rw [← eh] at p3
  have pm : (L.take (SetTable.below t.place (way t.mask (k.hash w) K)) ++ (k, x) :: L.drop (SetTable.below t.place (way t.mask (k.hash w) K))).Perm ((k, x) :: L) := by
    refine List.perm_middle.trans ?_
    rw [List.take_append_drop]
  generalize hput : t.put (way t.mask (k.hash w) K) = pt at p1 p3 p4 p9 ⊢
  obtain ⟨t1, place⟩ := pt
  dsimp only at p1 p3 p4 p9 ⊢
  rw [p1]
  generalize L.take (SetTable.below t.place (way t.mask (k.hash w) K)) ++ (k, x) :: L.drop (SetTable.below t.place (way t.mask (k.hash w) K)) = L1 at er p3 pm ⊢
  generalize SetTable.insertAt es (SetTable.below t.place (way t.mask (k.hash w) K)) (k.hash w, Value.ref x) = es1 at er ⊢
  have n1 : L1.length = L.length + 1 := by rw [pm.length_eq, List.length_cons]
  have z1 : es1.size = L.length + 1 := by rw [← Array.length_toList, er, nrows, List.length_map, n1]
  have same_tab : ∀ by1 : Bool, ∃ t2 : SetTable, (if by1 = true then t1 else { t1 with plain := false }) = t2 ∧ TabOk t2 (L1.map fun q => q.1.hash w) ∧ t2.mask = t.mask ∧ t2.fill = L.length + 1 := fun by1 => by
    rw [List.length_map] at p9
    cases by1 with
    | true => exact ⟨t1, rfl, p3, p4, p9⟩
    | false => exact ⟨{ t1 with plain := false }, rfl, ⟨p3.ris, p3.dm, p3.sz, p3.mok, p3.bd, p3.reach⟩, p4, p9⟩
  have go : ∀ by1 : Bool, wpAny (model P w) A (do
      storeSet a es1 (if by1 = true then t1 else { t1 with plain := false })
      if (!false && (if by1 = true then t1 else { t1 with plain := false }).tooFull) = true then setRelay a (SetTable.grown (es.size + 1))
      return true) Q E s := fun by1 => by
    obtain ⟨t2, e2, T2, m2, f2⟩ := same_tab by1
    rw [e2]
    refine wpAny_bind (wpAny_storeSet_of ho hd ?_ (by rw [z1, sizeLine_eq]; omega))
    have calm : t2.tooFull = false := by
      unfold SetTable.tooFull
      rw [f2, m2, N.mask]
      exact decide_eq_false (by omega)
    have sb : Heap.SameBut a s.heap (s.heap.update a (Obj.putSet es1 t2)) := Heap.SameBut.update ..
    have sat := store_at (es' := es1) (t' := t2) ho hd
    generalize s.heap.update a (Obj.putSet es1 t2) = h1 at sb sat ⊢
    have stay : ∀ c o vs n, s.heap.get? c = some o → o.data = .seq vs n → h1.get? c = some o := fun c oc vs n hc dc => by
      refine (sb.2 c fun e => ?_).trans hc
      subst e
      rw [ho] at hc
      cases hc
      rw [hd] at dc
      cases dc
    have done : Q true { s with heap := h1 } := by
      refine out h1 L1 es1 (ep + 1) t2 sb ⟨⟨_, sat, ⟨hex.1, hex.2.1, hex.2.2⟩, rfl⟩, er, T2, fun q hq => ?_, m2.trans N.mask, by omega⟩ pm
      rcases List.mem_cons.mp (pm.mem_iff.mp hq) with e | hq
      · rw [e]
        exact nk_keep hx stay
      · exact nk_keep (N.keys q hq) stay
    first
      | exact wp_if_neg (by rw [calm]; decide) (wpAny_pure done)
      | exact wpAny_bind (wp_if_neg (by rw [calm]; decide) (wpAny_pure (wpAny_pure done)))
  by_cases pl : t1.plain = true
  · first
      | (refine wp_if_pos pl (wpAny_bind (nk_any k _ 8 s hx.1 hx.2 A E _ fun by1 => ?_)); exact go by1)
      | (refine wpAny_bind (wp_if_pos pl (nk_any k _ 8 s hx.1 hx.2 A E _ fun by1 => ?_)); exact go by1)
  · first
      | (refine wp_if_neg pl (wpAny_bind (wpAny_pure ?_)); exact go true)
      | (refine wpAny_bind (wp_if_neg pl (wpAny_pure ?_)); exact go true)
theorem nst_new {h : Heap} (ho : h.get? a = some { cls := .type "set", dict := none, data := .set #[] 0 (.fresh 0 0 (!w.params.followText "set-order")) }) : Nst P w h a [] #[] 0 (.fresh 0 0 (!w.params.followText "set-order")) := by
  refine ⟨⟨_, ho, ⟨rfl, rfl, rfl⟩, rfl⟩, rfl, ⟨.nil, rfl, rfl, .inl rfl, ?_, ?_⟩, ?_, rfl, Nat.zero_le 4⟩
  · intro x hx
    cases hx
  · intro i g j hi
    simp at hi
  · intro q hq
    cases hq
end
end Lr

namespace Lr
open PySem PySem.Spec PyProof.Rows L2
section
variable {P : Program} {w : World} {A : Around} {E : Value → Shared → Prop} {s : Shared}
/-- the empty set that set.__new__ makes -/
abbrev bareSet (w : World) : Obj := { cls := .type "set", dict := none, data := .set #[] 0 (.fresh 0 0 (!w.params.followText "set-order")) }
/-- L holds what the first i of ks are -/
def Taken (ks : List (NestedKey × Addr)) (i : Nat) (L : List (NestedKey × Addr)) : Prop := L.Perm (ks.take i)
theorem taken_all {ks L : List (NestedKey × Addr)} {i : Nat} (g : Taken ks i L) {q : NestedKey × Addr} (h : q ∈ L) : q ∈ ks := List.mem_of_mem_take (g.mem_iff.mp h)
theorem taken_next {ks L L' : List (NestedKey × Addr)} {i : Nat} {q : NestedKey × Addr} (g : Taken ks i L) (at_i : ks[i]? = some q) (p : L'.Perm (q :: L)) : Taken ks (i + 1) L' := by
  unfold Taken
  rw [List.take_succ, at_i]
  refine p.trans ((g.cons q).trans ?_)
  exact (List.perm_append_singleton q (ks.take i)).symm
theorem taken_new {ks L : List (NestedKey × Addr)} {i : Nat} {q : NestedKey × Addr} (nd : (ks.map (·.1)).Nodup) (g : Taken ks i L) (at_i : ks[i]? = some q) : ∀ p ∈ L, p.1 ≠ q.1 := by
  intro p hp e
  obtain ⟨j, hj, ej⟩ := List.getElem_of_mem (g.mem_iff.mp hp)
  rw [List.length_take] at hj
  have ji : j < i := by omega
  have jk : j < ks.length := by omega
  have ik : i < ks.length := (List.getElem?_eq_some_iff.mp at_i).1
  have e1 : ks[j] = p := by
    rw [List.getElem_take] at ej
    exact ej
  have e2 : ks[i] = q := (List.getElem?_eq_some_iff.mp at_i).2
  have z := List.pairwise_iff_getElem.mp nd j i (by rw [List.length_map]; exact jk) (by rw [List.length_map]; exact ik) ji
  rw [List.getElem_map, List.getElem_map, e1, e2] at z
  exact z e
theorem nst_update {I : Addr} {fp wr : List Addr} {G : Array GenState → Array GenState → Prop} {n : Nat} {Pv : Nat → Value → Prop} {St : Nat → Shared → Prop} {R : Result → Shared → Prop} (W : WalksS P w A.in1 I fp wr G n Pv St)
    (S : Addr) (apart : S ∉ fp) (ks : List (NestedKey × Addr)) (nk : ks.length = n) (few : ks.length ≤ 4) (nd : (ks.map (·.1)).Nodup) (item : ∀ i v, Pv i v → ∃ q, ks[i]? = some q ∧ v = .ref q.2) (h0 : Heap) (keys : ∀ q ∈ ks, NkAt h0 q.1 q.2)
    (noS : h0.get? S = none) (nowr : ∀ b ∈ wr, h0.get? b = none) (hu : A.in1.units + 8 < cLine) :
    ∀ (left i : Nat) (s : Shared), i + left = n → St i s → (∀ b o, h0.get? b = some o → s.heap.get? b = some o) → (∃ L es ep t, Nst P w s.heap S L es ep t ∧ Taken ks i L) →
      (∀ s' L es ep t, Moved (S :: wr) G s s' → Nst P w s'.heap S L es ep t → Taken ks n L → (∀ b o, h0.get? b = some o → s'.heap.get? b = some o) → R (.ok (.ret .none)) s') →
      codeAny (model P w) A (.builtin "set.update.loop" ⟨[.ref S, .ref I], []⟩) R s := by
  have Swr : S ∉ wr := fun z => apart (W.sub _ z)
  have more : ∀ b ∈ wr, b ∈ S :: wr := fun b z => .tail _ z
  have carry : ∀ {u v : Shared}, Moved wr G u v → (∀ b o, h0.get? b = some o → u.heap.get? b = some o) → ∀ b o, h0.get? b = some o → v.heap.get? b = some o := by
    intro u v mv old b o e
    refine mv.heap b o (fun z => ?_) (old b o e)
    rw [nowr b z] at e
    cases e
  intro left
  induction left with
  | zero =>
    intro i s in_ st old ⟨L, es, ep, t, N, g⟩ fin
    have ei : i = n := by omega
    subst ei
    refine codeAny_builtin F.entry_set_update_loop ?_
    rw [Around.under_plainId F.plain_set_update_loop _]
    show wpAny _ A.in1 (pyNext (.ref I) >>= _) _ _ _
    refine wpAny_bind (W.done s _ _ st fun s2 mv => ?_)
    show wpAny _ A.in1 (ret Value.none) _ _ _
    have old2 := carry mv old
    exact wpAny_pure (fin s2 L es ep t (mv.mono more) (N.keep (fun o e => mv.heap S o Swr e) fun q hq => nk_keep (keys q (taken_all g hq)) fun c o _ _ e _ => old2 c o e) g old2)
  | succ left ih =>
    intro i s in_ st old ⟨L, es, ep, t, N, g⟩ fin
    refine codeAny_builtin F.entry_set_update_loop ?_
    rw [Around.under_plainId F.plain_set_update_loop _]
    show wpAny _ A.in1 (pyNext (.ref I) >>= _) _ _ _
    refine wpAny_bind (W.item i s _ _ (by omega) st fun v s2 pv st2 mv => ?_)
    obtain ⟨q, at_i, rfl⟩ := item i v pv
    have old2 := carry mv old
    have N2 : Nst P w s2.heap S L es ep t := N.keep (fun o e => mv.heap S o Swr e) fun p hp => nk_keep (keys p (taken_all g hp)) fun c o _ _ e _ => old2 c o e
    have hx : NkAt s2.heap q.1 q.2 := nk_keep (keys q (List.mem_of_getElem? at_i)) fun c o _ _ e _ => old2 c o e
    have len : L.length + 1 ≤ 4 := by
      have z := g.length_eq
      rw [List.length_take] at z
      have il : i < ks.length := (List.getElem?_eq_some_iff.mp at_i).1
      omega
    show wpAny _ A.in1 (holding [Value.ref q.2] (setAdd S (.ref q.2)) >>= _) _ _ _
    refine wpAny_bind (wpAny_holding ?_)
    unfold setAdd
    refine wpAny_holding (wpAny_bind ((nestedKind P w).pyHash (k := q.1) hu hx ?_))
    refine nst_add (s := { s2 with toks := s2.toks + (nestedKind P w).draws q.1 }) N2 hx hu (taken_new nd g at_i) len fun h3 L3 es3 ep3 t3 sb N3 pm => ?_
    have old3 : ∀ b o, h0.get? b = some o → h3.get? b = some o := fun b o e => by
      refine (sb.2 b fun z => ?_).trans (old2 b o e)
      rw [z, noS] at e
      cases e
    refine wpAny_pure ⟨plainId_quiet F.plain_set_update_loop _, ih (i + 1) _ (by omega) (W.frame _ s2 _ _ st2 (Nat.le_add_right _ _) fun b hb o e => ?_) old3 ⟨L3, es3, ep3, t3, N3, taken_next g at_i pm⟩ fun s4 L4 es4 ep4 t4 mv4 N4 g4 old4 => ?_⟩
    · refine (sb.2 b fun z => ?_).trans e
      rw [z] at hb
      exact apart hb
    · refine fin s4 L4 es4 ep4 t4 (Moved.trans W.gtrans ((mv.mono more).then_heap (Nat.le_add_right _ _) fun b o hb e => ?_) mv4) N4 g4 old4
      refine (sb.2 b fun z => ?_).trans e
      rw [z] at hb
      exact hb (.head _)
end
end Lr

namespace Lr
open PySem PySem.Spec PyProof.Rows L2
section
variable {P : Program} {w : World} {A : Around} {E : Value → Shared → Prop} {s : Shared}
/-- set(t), t a tuple of at most four nested keys, all different -/
theorem nst_call {l : Addr} {items : Array Value} (ks : List (NestedKey × Addr)) {Q : Value → Shared → Prop} (calm : A.handled = none) (at_l : s.heap.IsTuple l items) (its : items.toList = ks.map fun q => Value.ref q.2)
    (keys : ∀ q ∈ ks, NkAt s.heap q.1 q.2) (few : ks.length ≤ 4) (nd : (ks.map (·.1)).Nodup) (hu : A.units + 12 < cLine)
    (out : ∀ (h' : Heap) (tk : Nat) L es ep t, Nst P w h' s.heap.objs.size L es ep t → L.length = ks.length → (∀ b o, s.heap.get? b = some o → h'.get? b = some o) → Q (.ref s.heap.objs.size) { s with heap := h', toks := tk }) :
    wpAny (model P w) A (call (.type "set") [.ref l]) Q E s := by
  have size : items.size = ks.length := by rw [← Array.length_toList, its, List.length_map]
  obtain ⟨c, tl, hmro⟩ := F.called_set.mro
  have made := F.called_set.made
  have sub := F.called_set.sub
  refine wpAny_call (codeAny_of_tree ?_)
  show wpAny _ A.in1 (callAny (.type "set") _) _ _ _
  refine wpAny_pure ⟨Code.quiet_builtin _ (by decide +kernel), codeAny_builtin F.entry_type_call ?_⟩
  rw [Around.under_plain (weight_type_call_type "set" [.ref l] []) rfl]
  have notType := F.called_set.notType
  have canCreate := F.called_set.canCreate
  have typeCall := F.typeCall_set_1 (.ref l)
  repeat (any_goals (first | assumption | wp_step))
  refine codeAny_mono (code_set_led1 (.ref l) (E := E) (Q₁ := fun obj u => obj = .ref s.heap.objs.size ∧ u = { s with heap := s.heap.push (bareSet w) }) ⟨rfl, rfl⟩) fun r u back => ?_
  match r, back with
  | .error e, back => exact back
  | .ok .next, back => exact back.elim
  | .ok .brk, back => exact back.elim
  | .ok .cont, back => exact back.elim
  | .ok (.ret obj), ⟨e1, e2⟩ =>
    subst e1
    subst e2
    have at_S : (s.heap.push (bareSet w)).get? s.heap.objs.size = some (bareSet w) := Heap.get?_push_size _ rfl
    have ty_S : Shared.TypeIs { s with heap := s.heap.push (bareSet w) } (.ref s.heap.objs.size) "set" := ⟨_, at_S, rfl⟩
    have iLook := F.called_set.init.lookup
    have iBind := F.called_set.init.bind (.ref s.heap.objs.size)
    repeat (any_goals (first | assumption | wp_step))
    refine codeAny_mono (codeAny_call_builtin (R := wants (fun r u => r = .none ∧ ∃ h' tk L es ep t, u = { s with heap := h', toks := tk } ∧ Nst P w h' s.heap.objs.size L es ep t ∧ L.length = ks.length ∧
      (∀ b o, s.heap.get? b = some o → h'.get? b = some o)) E) F.called_set.init.plain F.entry_set_init (check_set_init_1 ty_S ?_)) fun r2 u2 back2 => ?_
    · obtain ⟨⟨ocls, odict, odata, oslots⟩, at_o, ecls, nl, edata⟩ := at_l
      simp only at ecls edata
      subst ecls
      subst edata
      have at_o1 : (s.heap.push (bareSet w)).get? l = some { cls := .type "tuple", dict := odict, data := .seq items nl, slots := oslots } := Heap.get?_push_of_some _ at_o
      have subS := F.sub_tuple_set
      have subF := F.sub_tuple_frozenset
      have notDict : (Value.type "tuple" == Value.type "dict") = false := by decide
      have tup1 : (s.heap.push (bareSet w)).IsTuple l items := ⟨_, at_o1, rfl, nl, rfl⟩
      have low : l < s.heap.objs.size := Heap.lt_size at_o
      unfold Builtin.«set.__init__» noKeywords Builtin.Frozenset.updateFrom
      generalize hIt : pyIter = it
      wp_walk
      subst hIt
      refine wpAny_pyIter_tuple tup1 ?_
      refine wpAny_bind (wpAny_runValue ?_)
      have calm3 : A.in1.in1.in1.handled = none := by simp [calm]
      have size1 : (s.heap.push (bareSet w)).objs.size = s.heap.objs.size + 1 := Heap.size_push ..
      have beyond : ∀ b, s.heap.objs.size ≤ b → s.heap.get? b = none := fun b hb => by
        cases z : s.heap.get? b with
        | none => rfl
        | some o => exact absurd (Nat.lt_of_lt_of_le (Heap.lt_size z) hb) (Nat.lt_irrefl b)
      have neI : l ≠ (s.heap.push (bareSet w)).objs.size := by
        rw [size1]
        exact Nat.ne_of_lt (Nat.lt_succ_of_lt low)
      refine nst_update ((Walks.tuple calm3 _ l neI items).toS) s.heap.objs.size ?apart ks size.symm few nd ?item s.heap keys (beyond _ (Nat.le_refl _)) ?nowr (by simp only [Around.in1_units]; omega) items.size 0 _ (Nat.zero_add _)
        ⟨⟨_, Heap.get?_push_size _ rfl, rfl, rfl⟩, (tup1.push _)⟩ (fun b o e => Heap.get?_push_of_some _ (Heap.get?_push_of_some _ e)) ?start ?fin
      case apart =>
        rw [size1]
        simp only [List.mem_cons, List.not_mem_nil, or_false, not_or]
        exact ⟨Nat.ne_of_lt (Nat.lt_succ_self _), Nat.ne_of_gt low⟩
      case item =>
        intro i v hv
        have z : items.toList[i]? = some v := by
          rw [Array.getElem?_toList]
          exact hv
        rw [its, List.getElem?_map, Option.map_eq_some_iff] at z
        obtain ⟨q, hq, e⟩ := z
        exact ⟨q, hq, e.symm⟩
      case nowr =>
        intro b hb
        rw [List.mem_singleton.mp hb, size1]
        exact beyond _ (Nat.le_succ _)
      case start =>
        exact ⟨[], #[], 0, _, nst_new (Heap.get?_push_of_some _ at_S), .refl _⟩
      case fin =>
        intro s' L es ep t mv N g old
        obtain ⟨h', g2, d2, tk2, os2⟩ := s'
        cases (show g2 = s.gens from mv.gens)
        cases (show d2 = s.drawn from mv.drawn)
        cases (show os2 = s.os from mv.os)
        show wpAny _ _ _ _ _ _
        refine wpAny_pure ?_
        show wpAny _ _ (ret Value.none) _ _ _
        refine wpAny_pure ⟨rfl, h', tk2, L, es, ep, t, rfl, N, ?_, old⟩
        have z := g.length_eq
        rw [List.length_take] at z
        omega
    · match r2, back2 with
      | .error e, back2 => exact back2
      | .ok .next, back2 => exact back2.elim
      | .ok .brk, back2 => exact back2.elim
      | .ok .cont, back2 => exact back2.elim
      | .ok (.ret r), ⟨e1, h', tk, L, es, ep, t, e2, N, len, old⟩ =>
        subst e1
        subst e2
        repeat (any_goals (first | assumption | wp_step))
        exact out _ _ _ _ _ _ N len old
end
end Lr

namespace Lr
open PySem PySem.Spec PyProof.Rows L2
section
variable {X : Cx}
/-- a value of the layer that is a nested key -/
def Nk (K : PySem.W.Frag) (H : Hp) (v : V) (k : NestedKey) : Prop := Dp K H v k.data
mutual
theorem dp_nested {pins : List (Addr × Obj)} {σ : L2.St} {H : Hp} {s : Shared} (I : Inv X pins σ H s) : ∀ (k : NestedKey) (v : V) (u : Value), Dp X.K H v k.data → RelV v u → NestedIs s.heap k u
  | .none, _, _, h, r => by
    cases h
    cases r
    exact .none
  | .num i, _, _, h, r => by
    cases h
    obtain ⟨t, rfl⟩ := r
    exact .int i t
  | .text x, _, _, h, r => by
    cases h
    obtain ⟨t, rfl⟩ := r
    exact .text x t
  | .tup ks, _, _, h, r => by
    cases h with
    | tup hs ha =>
      cases r
      obtain ⟨its, rv, ⟨o, ho, hc, n, hd⟩, _⟩ := I.tuple hs
      exact .tup ho hc hd (by simpa using dp_nestedAll I ks _ its ha rv)
theorem dp_nestedAll {pins : List (Addr × Obj)} {σ : L2.St} {H : Hp} {s : Shared} (I : Inv X pins σ H s) : ∀ (ks : List NestedKey) (vs : List V) (us : List Value), DpAll X.K H vs (NestedKey.datas ks) → Vals vs us → NestedAll s.heap ks us
  | [], _, _, h, r => by
    cases h
    cases r
    exact .nil
  | k :: ks, _, _, h, r => by
    cases h with
    | cons h1 h2 =>
      cases r with
      | cons r1 r2 => exact .cons (dp_nested I k _ _ h1 r1) (dp_nestedAll I ks _ _ h2 r2)
end
theorem refs_at : ∀ {as : List Addr} {us : List Value}, Vals (as.map V.ref) us → us = as.map Value.ref
  | [], _, .nil => rfl
  | a :: as, _, .cons r t => by
    cases r
    rw [refs_at t]
    rfl
/-- len(set(t)), t a tuple of nested keys -/
def tLenNst (K : PySem.W.Frag) (ta : TE) : TE := fun σ H Q => ta σ H fun x H1 => ∃ (l : Addr) (ks : List (NestedKey × Addr)), x = V.ref l ∧ SqT K H1 l (ks.map fun q => V.ref q.2) ∧ (∀ q ∈ ks, Dp K H1 (.ref q.2) q.1.data ∧ q.1.depth ≤ 8) ∧ ks.length ≤ 4 ∧ (ks.map (·.1)).Nodup ∧ Q (.int ks.length) H1
theorem pe_lenNst {e : Expr} {ta : TE} {p p2 q pos : Pos} (hc : X.calm = true) (hu : X.A.units + 20 < cLine) (hg : Gl X "len") (hm : X.mg "len" = none) (hg2 : Gl X "set") (hm2 : X.mg "set" = none) (ha : PE X e ta)
    (na : starEach [e] X.env = (false, eval e X.env) :: starEach [] X.env := by rfl) : PE X (.Call (.Name "len" p) [.Call (.Name "set" p2) [e] [] q] [] pos) (tLenNst X.K ta) := by
  refine ⟨fun pins s σ H Q I h => Call_ (ld_blt I hg hm PySem.boot_len ?_)⟩
  refine PyProof.Rows.callWith_builtin1 (PyProof.Rows.args_cons (Call_ (ld_blt I hg2 hm2 PyProof.Rows.boot_set ?_)) rfl) rfl rfl
  refine PyProof.Rows.callWith_type1 (PyProof.Rows.args_cons (thn (ha.run pins s σ H _ I h) fun v s1 ⟨x, H1, I1, r1, want⟩ => PyProof.Rows.args_nil ?_) na) na rfl
  obtain ⟨l, ks, rfl, hq, keys, few, nd, want⟩ := want
  cases r1
  obtain ⟨its, r, tup, _⟩ := I1.tuple hq
  have er : its = ks.map fun q => Value.ref q.2 := by
    have z := refs_at (as := ks.map (·.2)) (us := its) (by rw [List.map_map]; exact r)
    rw [z, List.map_map]
    rfl
  obtain ⟨o, ho, hcl, n, hd⟩ := tup
  refine nst_call (P := X.prog) (w := X.w) ks (I1.ok.hd hc) ⟨o, ho, hcl, n, hd⟩ (by simpa using er) (fun p hp => ⟨dp_nested I1 p.1 _ _ (keys p hp).1 rfl, (keys p hp).2⟩) few nd (by omega) fun h' tk L es ep t N len old => ?_
  refine PyProof.Rows.args_nil ?_
  obtain ⟨oS, hoS, hex, hdS⟩ := N.ob
  have I2 : Inv X pins σ H1 { s1 with heap := h', toks := tk } := I1.kept old
  have nS : es.size = L.length := Nst.num (a := s1.heap.objs.size) (ep := ep) (t := t) (P := X.prog) (w := X.w) (s := { s1 with heap := h', toks := tk }) N
  have fitS : t.fits es.size = true := Nst.fit (P := X.prog) (w := X.w) (s := { s1 with heap := h', toks := tk }) N
  refine call_len_set hoS hex hdS fitS (by omega) ⟨.int ks.length, H1, I2.tok _, ⟨_, by rw [nS, len]⟩, want⟩
end
end Lr

namespace Lr
open PySem PySem.Spec PyProof.Rows L2
section
variable {X : Cx}
/-- sorted(t), t a tuple of texts -/
def rSortedTs (K : PySem.W.Frag) : List V → Hp → VK → Prop := fun vs H Q => ∃ (a : Addr) (xs : List Str), vs = [V.ref a] ∧ SqT K H a (xs.map V.str) ∧ xs.length < 64 ∧ ∀ (ys : List Str) (p : Addr), ys.Perm xs → sortedS ys = true → H p = none → Q (.ref p) (upd H p (.lst (ys.map V.str)))
theorem cr_sortedTs : CallR X (.builtin "sorted") (rSortedTs X.K) := by
  intro pins s σ H vs us Q I r h
  obtain ⟨a, xs, rfl, hs, few, q⟩ := h
  obtain ⟨its, rv, ⟨o, ho, hc, n, hd⟩, _⟩ := I.tuple hs
  rw [Vals.ref1 r]
  have len : its.length = xs.length := by
    have z := rv.length
    rw [List.length_map] at z
    exact z.symm
  have sts : StrsAre its xs := rv.strs
  refine Calls.call_function_entry kind_sorted plain_sorted entry_sorted (args_sorted1 _) ?_
  unfold Builtin.«sorted»
  refine wpAny_bind (m := checkCount "sorted" 1 1 _) (wpAny_pure ?_)
  refine wpAny_bind (wpAny_collect_seq a (.inr rfl) ho hc hd (fun h1 keep => ?_) (by rw [List.size_toArray, len, sizeLine_eq]; omega))
  refine wpAny_bind (wpAny_newList ?_ (by rw [show its.toArray.toList.length = its.length by simp, len, sizeLine_eq]; omega))
  have e0 : its.toArray.toList = its := by simp
  rw [e0]
  have at_p : (h1.push (seqObj "list" its.toArray 0)).get? h1.objs.size = some (seqObj "list" its.toArray 0) := Heap.get?_push_size _ rfl
  show wpAny _ _ _ _ _ { s with heap := h1.push (seqObj "list" its.toArray 0) }
  refine wpAny_bind (wpAny_holding (wpAny_call_entry slot_list_sort ⟨_, at_p, rfl⟩ entry_list_sort (list_sort_treeK strKind_oneLt at_p sts.keysOf (fun v₁ v₂ rest e => keyKind_strs (by rw [← e]; exact sts)) (by rw [len]; exact few) fun st' perm srt => ⟨_, rfl, ?_⟩) (args_list_sort _)))
  refine wpAny_pure ⟨_, rfl, ?_⟩
  obtain ⟨ys, s1, s2, s3⟩ := sorted_out_str sts perm srt
  obtain ⟨e, at_q⟩ := sortedHeap_at (vs := its) (out := (arrOf st').map (·.2)) at_p
  have old : ∀ b u, s.heap.get? b = some u → (sortedHeap (h1.push (seqObj "list" its.toArray 0)) h1.objs.size its ((arrOf st').map (·.2))).get? b = some u := fun b u z => by
    have z1 := keep b u z
    have lt := Heap.lt_size z1
    rw [sortedHeap_old (Nat.ne_of_lt lt) (by rw [size_push']; exact Nat.lt_succ_of_lt lt)]
    exact Heap.get?_push_of_some _ z1
  have not_old : s.heap.get? h1.objs.size = none := by
    cases z : s.heap.get? h1.objs.size with
    | none => rfl
    | some u => exact absurd (Heap.lt_size (keep _ u z)) (Nat.lt_irrefl _)
  have free : H h1.objs.size = none := by
    cases z : H h1.objs.size with
    | none => rfl
    | some u => exact absurd ((I.hok.kept keep).lt z) (Nat.lt_irrefl _)
  have hlen : (ys.map V.str).length ≤ sizeLine := by
    rw [List.length_map, s2.length_eq, sizeLine_eq]
    omega
  exact ⟨.ref _, upd H h1.objs.size (.lst (ys.map V.str)), I.laidN (t' := s.toks) old not_old free ⟨hlen, _, e, vals_of_strs s1, at_q⟩, rfl, q ys _ s2 s3 free⟩
/-- (i, x) <= (j, y), ints and texts -/
def lePair (a b : Int × Str) : Bool := if a.1 = b.1 then (if a.2 = b.2 then true else !decide (b.2.cps.toList < a.2.cps.toList)) else decide (a.1 ≤ b.1)
def rLeP (K : PySem.W.Frag) : R2 := fun x y H Q => ∃ (p q : Addr) (a b : Int × Str), x = .ref p ∧ y = .ref q ∧ SqT K H p [.int a.1, .str a.2] ∧ SqT K H q [.int b.1, .str b.2] ∧ Q (.bl (lePair a b)) H
theorem op_leP (hu : X.A.units < cLine) : OpR X (compareOp .LtE) (rLeP X.K) := by
  intro pins s σ H x y v u Q I rx ry h
  obtain ⟨p, q, ⟨i, x⟩, ⟨j, y⟩, rfl, rfl, hp, hq, k⟩ := h
  cases rx
  cases ry
  obtain ⟨its, r1, t1, _⟩ := I.tuple hp
  obtain ⟨its2, r2, t2, _⟩ := I.tuple hq
  cases r1 with
  | cons a1 r1 =>
    cases r1 with
    | cons a2 r1 =>
      cases r1
      cases r2 with
      | cons b1 r2 =>
        cases r2 with
        | cons b2 r2 =>
          cases r2
          obtain ⟨ti, rfl⟩ := a1
          obtain ⟨tx, rfl⟩ := a2
          obtain ⟨tj, rfl⟩ := b1
          obtain ⟨ty, rfl⟩ := b2
          have R := Ob.RcOp.tuples_le (A := X.A) (s := s) (e := fun n => if n = 0 then (i == j) else (x == y)) (r := fun n => if n = 0 then decide (i ≤ j) else !decide (y.cps.toList < x.cps.toList)) t1 t2 hu (fun n h1 h2 => by
            match n, h1, h2 with
            | 0, _, _ => exact SeqAt.EqAt.int_int i ti j tj
            | 1, _, _ => exact SeqAt.EqAt.str_str x tx y ty
            | n + 2, h1, _ => exact absurd h1 (by simp)) (fun n h1 h2 _ => by
            match n, h1, h2 with
            | 0, _, _ => exact Ob.RcOp.le_int i j ti tj
            | 1, _, _ => exact fun _ _ _ _ h => PySem.P.le_str h
            | n + 2, h1, _ => exact absurd h1 (by simp))
          refine R _ _ _ _ (fin_bl I k (Eq.symm ?_))
          show Ob.lexAt (fun n => if n = 0 then (i == j) else (x == y)) (fun n => if n = 0 then decide (i ≤ j) else !decide (y.cps.toList < x.cps.toList)) (decide ((2 : Nat) ≤ 2)) 0 2 = lePair (i, x) (j, y)
          unfold lePair Ob.lexAt Ob.lexAt Ob.lexAt
          by_cases e1 : i = j
          · by_cases e2 : x = y
            · simp [e1, e2]
            · simp [e1, e2]
          · simp [e1]
end
end Lr

namespace Lr
open PySem PySem.Spec PyProof.Rows L2
section
variable {prog : Program} {w : World} {A : Around} {E : Value → Shared → Prop} {s : Shared}
theorem back_adjust (n : Nat) : Builtin.Slice.sliceAdjust none none (-1) (n : Int) = ((n : Int) - 1, -1) := by
  unfold Builtin.Slice.sliceAdjust
  have h1 : (-1 : Int) < 0 := by decide
  simp only [h1, if_true]
theorem back_places (n : Nat) : Builtin.Slice.slicePlaces ((n : Int) - 1) (-1) (-1) = n := by
  unfold Builtin.Slice.slicePlaces
  have h1 : ¬ (-1 : Int) > 0 := by decide
  simp only [h1, if_false]
  split
  · have e : (- -1 : Int) = 1 := by decide
    rw [e, Int.ediv_one]
    omega
  · omega
theorem back_pick (xs : Array Value) : ((List.range xs.size).filterMap fun (m : Nat) => xs[(((xs.size : Nat) : Int) - 1 + (m : Int) * (-1)).toNat]?).toArray = xs.toList.reverse.toArray := by
  have e : (fun (m : Nat) => xs[(((xs.size : Nat) : Int) - 1 + (m : Int) * (-1)).toNat]?) = ((fun x => xs[x]?) ∘ fun k => xs.size - 1 - k) := by
    funext m
    show xs[(((xs.size : Nat) : Int) - 1 + (m : Int) * (-1)).toNat]? = xs[xs.size - 1 - m]?
    have z : (((xs.size : Nat) : Int) - 1 + (m : Int) * (-1)).toNat = xs.size - 1 - m := by omega
    rw [z]
  rw [e, ← List.filterMap_map, PySem.W.krv_range, List.filterMap_reverse, PySem.W.krv_all]
theorem back_applied {sl : Addr} {vs : Value} {n : Nat} {Q : Int × Int × Nat → Shared → Prop} (hs : s.heap.IsSliceOf sl .none .none vs) (ps : IsPart vs (some (-1))) (h : Q ((n : Int) - 1, -1, n) s) : wpAny (model prog w) A (Builtin.Slice.sliceApplied (.ref sl) (pure (n : Int))) Q E s := by
  obtain ⟨os, hos, hcs, hds⟩ := id hs
  unfold Builtin.Slice.sliceApplied Builtin.Slice.sliceFields
  refine wpAny_bind (wpAny_bind (wpAny_field hos hds (x := .none) rfl (wpAny_bind (wpAny_field hos hds (x := .none) rfl (wpAny_bind (wpAny_field hos hds (x := vs) rfl (wpAny_pure ?_)))))))
  refine wpAny_bind (HT.slicePart_ ps ?_)
  show wpAny _ _ (if ((-1 : Int) == 0) = true then _ else _) _ _ s
  rw [if_neg (by decide)]
  refine wpAny_bind (HT.slicePart_ .none (wpAny_bind (HT.slicePart_ .none (wpAny_bind (wpAny_pure ?_)))))
  show wpAny _ _ (match Builtin.Slice.sliceAdjust none none (-1) (n : Int) with | (lo, hi) => pure (lo, (-1 : Int), Builtin.Slice.slicePlaces lo hi (-1))) _ _ s
  rw [back_adjust n]
  show wpAny _ _ (pure ((n : Int) - 1, (-1 : Int), Builtin.Slice.slicePlaces ((n : Int) - 1) (-1) (-1))) _ _ s
  rw [back_places]
  exact wpAny_pure h
theorem back_item {t sl : Addr} {items : Array Value} {vs : Value} {Q : Value → Shared → Prop} (ht : IsTup s.heap t items) (hs : s.heap.IsSliceOf sl .none .none vs) (ps : IsPart vs (some (-1)))
    (h : Q (.ref s.heap.objs.size) { s with heap := s.heap.push { cls := .type "tuple", data := .seq items.toList.reverse.toArray } }) (hsz : items.size ≤ sizeLine) : wpAny (model prog w) A (getItem (.ref t) (.ref sl)) Q E s := by
  obtain ⟨os, hos, hcs, hds⟩ := id hs
  have ty : s.TypeIs (.ref sl) "slice" := ⟨os, hos, hcs⟩
  have fits : sizeOk (.seq items.toList.reverse.toArray) := by
    show items.toList.reverse.toArray.size ≤ sizeLine
    rw [List.size_toArray, List.length_reverse, Array.length_toList]
    exact hsz
  unfold getItem
  try with_reducible refine wpAny_holding ?_
  first | refine wpAny_bind (wpAny_pure ?_) | skip
  refine wpAny_bind (wpAny_sequenceKey ht.typeIs (by decide) ?_)
  refine wpAny_bind (wpAny_callSpecial?_slot (name := Str.ofString "__getitem__") ht.typeIs PyProof.Rows.slot_tuple_getitem
    (wpAny_call_entry PyProof.Rows.slot_tuple_getitem ht.typeIs PyProof.Rows.entry_tuple_getitem ?_ (PyProof.Rows.args_tuple_getitem _ _)))
  show wpAny _ _ (Builtin.Tuple.tupleItemsOf (.ref t) >>= _) _ _ s
  refine wpAny_bind (PyProof.Rows.tupleItemsOf_ ht ?_)
  refine wpAny_bind (wpAny_typeOf ty ?_)
  rw [if_pos (by decide)]
  refine wpAny_bind (back_applied hs ps ?_)
  show wpAny _ _ (if (((items.size : Nat) : Int) - 1 == 0 && (-1 : Int) == 1 && items.size == items.size) = true then _ else _) _ _ s
  rw [if_neg (by simp), back_pick]
  first
    | exact wpAny_bind (m := Builtin.Tuple.tupleExact _) (wpAny_newObj_type (wpAny_pure ⟨_, rfl, wpAny_pure h⟩) fits)
    | exact wpAny_bind (m := Builtin.Tuple.tupleExact _) (wpAny_newObj_type (wpAny_bind (wpAny_pure (wpAny_pure ⟨_, rfl, wpAny_pure h⟩))) fits)
    | exact wpAny_bind (wpAny_bind (m := Builtin.Tuple.tupleExact _) (wpAny_newObj_type (wpAny_pure (wpAny_pure ⟨_, rfl, wpAny_pure h⟩)) fits))
    | exact wpAny_bind (wpAny_bind (m := Builtin.Tuple.tupleExact _) (wpAny_newObj_type (wpAny_pure ⟨_, rfl, wpAny_pure h⟩) fits))
end
section
variable {X : Cx} {e st : Expr} {te : TE} {ts : TO} {pos p2 : Pos}
/-- t[::-1]: a new tuple -/
def tRevT (K : PySem.W.Frag) (te : TE) (ts : TO) : TE := fun σ H Q => te σ H fun x H1 => ts σ H1 fun o H2 => o = some (-1) ∧ ∃ a xs, x = .ref a ∧ SqT K H2 a xs ∧ ∀ p, H2 p = none → Q (.ref p) (upd H2 p (.tup xs.reverse))
theorem pe_revT (he : PE X e te) (hs : PO X (some st) ts) : PE X (.Subscript e (.Slice none none (some st) p2) pos) (tRevT X.K te ts) := by
  refine ⟨fun pins s σ H Q I h => ?_⟩
  refine Subscript_ (thn (he.run pins s σ H _ I h) fun v s1 ⟨x, H1, I1, r1, q1⟩ => ?_)
  refine wpAny_Slice (wpAny_pure (wpAny_pure ?_))
  refine thn (hs.run pins s1 σ H1 _ I1 q1) fun vs s3 ⟨o, H3, I3, ps, q3⟩ => ?_
  obtain ⟨rfl, a, xs, rfl, hx, q⟩ := q3
  cases r1
  have I4 : Inv X pins σ H3 { s3 with heap := s3.heap.push { cls := .type "slice", data := .fields #[.none, .none, vs] } } := I3.kept (t' := s3.toks) fun b ob q => Heap.get?_push_of_some _ q
  obtain ⟨its, r, ht, hz⟩ := I4.tuple hx
  have len : its.length = xs.length := r.length.symm
  have hg : wpAny (model X.prog X.w) X.A (getItem (.ref a) (.ref s3.heap.objs.size)) (EP X pins σ Q) X.xe { s3 with heap := s3.heap.push { cls := .type "slice", data := .fields #[.none, .none, vs] } } := by
    refine back_item ht (Heap.IsSliceOf.new ..) ps ?_ (by rw [List.size_toArray, len]; exact hz)
    have e1 : its.toArray.toList.reverse = its.reverse := by simp
    rw [e1]
    refine ⟨.ref (s3.heap.push { cls := .type "slice", data := .fields #[.none, .none, vs] }).objs.size, _, I4.laid (t' := s3.toks) (o := .tup xs.reverse) (fun b ob q => Heap.get?_push_of_some _ q) (Nat.le_refl _) ?_, rfl, q _ (I4.hok.fresh (Nat.le_refl _))⟩
    exact ⟨by rw [List.length_reverse]; exact hz, _, r.reverse, IsTup.new _ _⟩
  show wpAny (model X.prog X.w) X.A (subscriptTail e (.Slice none none (some st) p2) (.ref a) (.ref s3.heap.objs.size)) (EP X pins σ Q) X.xe { s3 with heap := s3.heap.push { cls := .type "slice", data := .fields #[.none, .none, vs] } }
  exact tail_any (ops := [.ref a, .ref s3.heap.objs.size]) ht.typeIs PyProof.Rows.slot_tuple_getitem.lookup hg (by with_unfolding_all rfl)
end
end Lr

namespace Lr
open PySem PySem.Spec PyProof.Rows L2
section
variable {X : Cx}
/-- (v,) * k, k up to ten thousand -/
def rRepOne (K : PySem.W.Frag) : R2 := fun x y H Q => ∃ l k v, x = .ref l ∧ y = .int k ∧ SqT K H l [v] ∧ 2 ≤ k ∧ k ≤ 10000 ∧ ∀ p, H p = none → Q (.ref p) (upd H p (.tup (List.replicate k.toNat v)))
theorem flat_one {α : Type} (v : α) : ∀ n, (List.replicate n [v]).flatten = List.replicate n v
  | 0 => rfl
  | n + 1 => by
    rw [List.replicate_succ, List.flatten_cons, flat_one v n, List.replicate_succ]
    rfl
theorem op_repOne : OpR X (binaryOp .Mult) (rRepOne X.K) := by
  intro pins s σ H x y v u Q I rx ry h
  obtain ⟨l, k, z, rfl, rfl, hT, h1, h2, q⟩ := h
  cases rx
  obtain ⟨t, rfl⟩ := ry
  obtain ⟨its, r, ⟨⟨cls, dd, data, sl⟩, ho, hc, n, hd⟩, hs⟩ := I.tuple hT
  simp only at hc hd
  subst hc hd
  cases r with
  | cons r0 r1 =>
    cases r1
    rename_i vz
    have c0 : (decide (k < -(2 ^ 63)) || decide (k ≥ 2 ^ 63)) = false := by
      rw [decide_eq_false (by omega), decide_eq_false (by omega)]
      rfl
    have c1 : (([vz] : List Value).toArray.isEmpty || k == 1) = false := by
      have e : (k == 1) = false := beq_eq_false_iff_ne.mpr (by omega)
      rw [e]
      rfl
    have c2 : (decide (k ≤ 0) || ([vz] : List Value).toArray.isEmpty) = false := by
      rw [decide_eq_false (by omega)]
      rfl
    have sz : ((([vz] : List Value).toArray.size : Nat) : Int) = 1 := rfl
    have c4 : Builtin.Tuple.tupleTooMany (((([vz] : List Value).toArray.size : Nat) : Int) * k) = false := by
      unfold Builtin.Tuple.tupleTooMany
      rw [sizeLine_eq, sz, Int.one_mul]
      exact decide_eq_false (by omega)
    have flen : (List.replicate k.toNat [vz]).flatten.length ≤ sizeLine := by
      rw [flat_one, List.length_replicate, sizeLine_eq]
      omega
    refine wpAny_binaryOp_repeat_ref (T := "tuple") (U := "int") (by decide) ⟨_, ho, rfl⟩ (fun s' => typeIs_int s' k t) L2.noFill_tuple_mul F.fills_int_mul F.slot_int_rmul L2.repeat_tuple F.slot_int_index.lookup
      (call_meets F.slot_int_rmul (typeIs_int s k t) F.entry_int_rmul (F.args_int_rmul_2 _ _) (L2.int_rmul_tuple k t l ([vz] : List Value).toArray n dd sl)
        ⟨ho, rfl, ⟨_, ho, rfl⟩, call_meets F.slot_tuple_mul ⟨_, ho, rfl⟩ F.entry_tuple_mul (F.args_tuple_mul_2 _ _) (L2.tuple_mulW l ([vz] : List Value).toArray n dd sl k t c0 c1 c2 (by rw [sz]; omega) c4 (by rw [L2.size_rep, List.size_toArray]; exact flen)) ⟨ho, ?_⟩⟩)
    rw [L2.size_rep, flat_one]
    refine ⟨.ref s.heap.objs.size, _, I.laid (t' := s.toks) (o := .tup (List.replicate k.toNat z)) (fun b ob q => Heap.get?_push_of_some _ q) (Nat.le_refl _) ?_, rfl, q _ (I.hok.fresh (Nat.le_refl _))⟩
    refine ⟨by rw [List.length_replicate, sizeLine_eq]; omega, _, ?_, IsTup.new _ _⟩
    have z := Vals.rep (xs := [z]) (us := [vz]) (.cons r0 .nil) k.toNat
    rw [flat_one, flat_one] at z
    exact z
end
end Lr

namespace Lr
open PySem PySem.Spec PyProof.Rows L2

/-! {e for a in xs for b in ys}, a set of ints -/
/-- such a comprehension -/
abbrev scE (e t0 i0 t1 i1 : Expr) (scope : Scope) (pos : Pos) : Expr := .SetComp e [⟨t0, i0, [], 0⟩, ⟨t1, i1, [], 0⟩] scope pos
section
variable {prog : Program} {w : World} {A : Around} {R : Result → Shared → Prop} {s : Shared} {e t0 i0 t1 i1 : Expr} {scope : Scope} {pos : Pos} {it acc : Value} {env : Env}
theorem sc_turn0 : compTurn (scE e t0 i0 t1 i1 scope pos) 0 it acc env = (do
      standAt i0.pos
      match ← pyNext it with
      | none => pure (.done .next)
      | some v =>
        letOwnedTupleGo t0 it v
        assign t0 env v
        let mut ok := true
        for c in ([] : List Expr) do
          if ok then ok ← isTrue c env (eval c env)
        if ok then
          let src ← eval i1 env
          standAt i1.pos
          let src ← foldedSetIterable i1 env src
          let _ ← runOwn (.compStart (scE e t0 i0 t1 i1 scope pos) 1 (← holding [src] (pyIter src)) acc env) env
        again (.compLoop (scE e t0 i0 t1 i1 scope pos) 0 it acc env)) := by rfl
theorem sc_turn1 : compTurn (scE e t0 i0 t1 i1 scope pos) 1 it acc env = (do
      standAt i1.pos
      match ← pyNext it with
      | none => pure (.done .next)
      | some v =>
        letOwnedTupleGo t1 it v
        assign t1 env v
        let mut ok := true
        for c in ([] : List Expr) do
          if ok then ok ← isTrue c env (eval c env)
        if ok then
          (do let v ← eval e env; standAt e.pos; let _ ← call (.builtin "set.add") [acc, v])
        again (.compLoop (scE e t0 i0 t1 i1 scope pos) 1 it acc env)) := by rfl
/-- what is asked of an exception in the block -/
abbrev offB (prog : Program) (w : World) (A : Around) (env : Env) (R : Result → Shared → Prop) : Value → Shared → Prop := notedBy (model prog w) A env fun x s' => R (.error x) s'
theorem sc_loop0 (fold : ∀ x, foldedSetIterable i1 env x = pure x) (I : Nat → Shared → Prop)
    (turn : ∀ n s, I n s → wpAny (model prog w) A (pyNext it) (fun r u => match r with
      | none => R (.ok .next) u
      | some v => wpAny (model prog w) A (letOwnedTupleGo t0 it v) (fun _ u1 => wpAny (model prog w) A (assign t0 env v) (fun _ u2 => wpAny (model prog w) A (eval i1 env) (fun x u3 => wpAny (model prog w) A (pyIter x) (fun it1 u4 =>
          codeAny (model prog w) A (.compStart (scE e t0 i0 t1 i1 scope pos) 1 it1 acc env) (fun r u5 => match r with
            | .ok _ => ∃ m, m < n ∧ I m u5
            | .error _ => False) u4) (offB prog w A env R) u3) (offB prog w A env R) u2) (offB prog w A env R) u1) (offB prog w A env R) u) (offB prog w A env R) s)
    (n : Nat) (h : I n s) : codeAny (model prog w) A (.compLoop (scE e t0 i0 t1 i1 scope pos) 0 it acc env) R s := by
  refine codeAny_loop rfl I (fun n s hI => ?_) n h
  show wpAny _ A ((compTurn (scE e t0 i0 t1 i1 scope pos) 0 it acc env).onRaise (fun x => do noteFrame x env; theTreesLotGoes x)) _ _ s
  refine wpAny_noted ?_
  rw [sc_turn0]
  refine wpAny_bind (wpAny_standAt (wpAny_bind (wpAny_mono (turn n s hI) (fun r u hu => ?_) fun _ _ z => z)))
  match r, hu with
  | none, hu => exact wpAny_pure hu
  | some v, hu =>
    refine wpAny_bind (wpAny_mono hu (fun _ u1 h1 => wpAny_bind (wpAny_mono h1 (fun _ u2 h2 => wpAny_bind (wpAny_tests_nil ?_)) fun _ _ z => z)) fun _ _ z => z)
    refine wpAny_bind (wpAny_mono h2 (fun x u3 h3 => wpAny_bind (wpAny_standAt (wpAny_bind (wpAny_of_eq (fold x) (wpAny_bind (wpAny_holding (wpAny_mono h3 (fun it1 u4 h4 => ?_) fun _ _ z => z))))))) fun _ _ z => z)
    refine wpAny_bind (wpAny_runOwn ?_)
    rw [Around.mark_none]
    refine codeAny_mono h4 fun r u5 h5 => ?_
    match r, h5 with
    | .ok f, h5 =>
      first
        | exact wpAny_pure ⟨rfl, h5⟩
        | exact wpAny_bind (wpAny_pure (wpAny_pure ⟨rfl, h5⟩))
    | .error x, h5 => exact h5.elim
theorem sc_loop1 (I : Nat → Shared → Prop)
    (turn : ∀ n s, I n s → wpAny (model prog w) A (pyNext it) (fun r u => match r with
      | none => R (.ok .next) u
      | some v => wpAny (model prog w) A (letOwnedTupleGo t1 it v) (fun _ u1 => wpAny (model prog w) A (assign t1 env v) (fun _ u2 => wpAny (model prog w) A (eval e env) (fun x u3 =>
          wpAny (model prog w) A (call (.builtin "set.add") [acc, x]) (fun _ u4 => ∃ m, m < n ∧ I m u4) (offB prog w A env R) u3) (offB prog w A env R) u2) (offB prog w A env R) u1) (offB prog w A env R) u) (offB prog w A env R) s)
    (n : Nat) (h : I n s) : codeAny (model prog w) A (.compLoop (scE e t0 i0 t1 i1 scope pos) 1 it acc env) R s := by
  refine codeAny_loop rfl I (fun n s hI => ?_) n h
  show wpAny _ A ((compTurn (scE e t0 i0 t1 i1 scope pos) 1 it acc env).onRaise (fun x => do noteFrame x env; theTreesLotGoes x)) _ _ s
  refine wpAny_noted ?_
  rw [sc_turn1]
  refine wpAny_bind (wpAny_standAt (wpAny_bind (wpAny_mono (turn n s hI) (fun r u hu => ?_) fun _ _ z => z)))
  match r, hu with
  | none, hu => exact wpAny_pure hu
  | some v, hu =>
    refine wpAny_bind (wpAny_mono hu (fun _ u1 h1 => wpAny_bind (wpAny_mono h1 (fun _ u2 h2 => wpAny_bind (wpAny_tests_nil ?_)) fun _ _ z => z)) fun _ _ z => z)
    exact wpAny_bind (wpAny_bind (wpAny_mono h2 (fun x u3 h3 => wpAny_bind (wpAny_standAt (wpAny_bind (wpAny_mono h3 (fun _ u4 h4 => wpAny_pure (wpAny_pure ⟨rfl, h4⟩)) fun _ _ z => z)))) fun _ _ z => z))
theorem sc_start0 (h0 : codeAny (model prog w) A (.compLoop (scE e t0 i0 t1 i1 scope pos) 0 it acc env) R s)
    (h : wpAny (model prog w) A (pyIter it) (fun it' s' => codeAny (model prog w) A (.compLoop (scE e t0 i0 t1 i1 scope pos) 0 it' acc env) R s') (offB prog w A env R) s) :
    codeAny (model prog w) A (.compStart (scE e t0 i0 t1 i1 scope pos) 0 it acc env) R s := by
  refine codeAny_of_tree ?_
  show wpAny _ _ ((compStart (scE e t0 i0 t1 i1 scope pos) 0 it acc env).onRaise (fun x => do noteFrame x env; standAt theWindowsPlace)) _ _ s
  refine wpAny_notedAt ?_
  unfold compStart
  show wpAny _ _ (ask >>= _) _ _ s
  refine wpAny_bind (wpAny_askSetting (wpAny_ite ?_))
  split
  · first
      | exact wpAny_pure ⟨rfl, h0⟩
      | exact wpAny_bind (wpAny_pure (wpAny_pure ⟨rfl, h0⟩))
  · refine wpAny_bind (wpAny_rule ?_)
    first
      | exact wpAny_bind (wpAny_standAt (wpAny_bind (wpAny_mono h (fun it' s' h' => wpAny_pure ⟨rfl, h'⟩) fun _ _ z => z)))
      | (show wpAny _ _ (standAt i0.pos >>= _) _ _ s; exact wpAny_bind (wpAny_standAt (wpAny_bind (wpAny_mono h (fun it' s' h' => wpAny_pure ⟨rfl, h'⟩) fun _ _ z => z))))
theorem sc_start1 (h0 : codeAny (model prog w) A (.compLoop (scE e t0 i0 t1 i1 scope pos) 1 it acc env) R s)
    (h : wpAny (model prog w) A (pyIter it) (fun it' s' => codeAny (model prog w) A (.compLoop (scE e t0 i0 t1 i1 scope pos) 1 it' acc env) R s') (offB prog w A env R) s) :
    codeAny (model prog w) A (.compStart (scE e t0 i0 t1 i1 scope pos) 1 it acc env) R s := by
  refine codeAny_of_tree ?_
  show wpAny _ _ ((compStart (scE e t0 i0 t1 i1 scope pos) 1 it acc env).onRaise (fun x => do noteFrame x env; standAt theWindowsPlace)) _ _ s
  refine wpAny_notedAt ?_
  unfold compStart
  show wpAny _ _ (ask >>= _) _ _ s
  refine wpAny_bind (wpAny_askSetting (wpAny_ite ?_))
  split
  · first
      | exact wpAny_pure ⟨rfl, h0⟩
      | exact wpAny_bind (wpAny_pure (wpAny_pure ⟨rfl, h0⟩))
  · refine wpAny_bind (wpAny_rule ?_)
    first
      | exact wpAny_bind (wpAny_standAt (wpAny_bind (wpAny_mono h (fun it' s' h' => wpAny_pure ⟨rfl, h'⟩) fun _ _ z => z)))
      | (show wpAny _ _ (standAt i1.pos >>= _) _ _ s; exact wpAny_bind (wpAny_standAt (wpAny_bind (wpAny_mono h (fun it' s' h' => wpAny_pure ⟨rfl, h'⟩) fun _ _ z => z))))
end
section
variable {X : Cx}
/-- set.add of an int -/
theorem sc_add {pins : List (Addr × Obj)} {σ : L2.St} {H : Hp} {s : Shared} {E : Value → Shared → Prop} {D : Addr} {S : Int → Bool} {n : Nat} {y : Int} {u : Value} {Q : Value → Shared → Prop} (I : Inv X pins σ H s) (at_D : H D = some (SetO X.w D S n)) (room : n + 1 < scanBound) (r : RelV (.int y) u)
    (out : ∀ s', Inv X pins σ (upd H D (SetO X.w D (fun j => S j || decide (j = y)) (if S y = true then n else n + 1))) s' → Q .none s') : wpAny (model X.prog X.w) X.A (call (.builtin "set.add") [.ref D, u]) Q E s := by
  obtain ⟨t, rfl⟩ := r
  refine setR_add (setO_get I at_D) room fun h' sb new => ?_
  have stands : ∃ o, h'.get? D = some o := by
    obtain ⟨o, es, ep, t', ho, _⟩ := new
    exact ⟨o, ho⟩
  exact out _ (I.write (e := D) (t' := s.toks + 1) (by rw [at_D]; trivial) (.inl rfl) (fun b u hb hu => (sb.2 b hb).trans hu) stands (setO_new new))
end
end Lr

namespace Lr
open PySem PySem.Spec PyProof.Rows L2
section
variable {X : Cx}
/-- {e for a in xs for b in ys}: D the new set of ints, W and W1 the words of the outer and the inner loop -/
def tSc2 (w : World) (wi : TI) (g : TG) (wi1 : TI) (g1 : TG) (te : TE) (vs vs1 : List Nat) : TE := fun σ H Q => wi σ H fun J H1 => ∀ D, H1 D = none → ∃ W : Nat → Nat → Hp → Prop, (∃ m, W 0 m (upd H1 D (SetO w D (fun _ => false) 0))) ∧ ∀ i m H, W i m H →
  (J.stop i H ∧ Q (.ref D) H) ∨ (J.go i H ∧ ∃ Nx : Hp → Prop, (∀ H', Nx H' → ∃ m', m' < m ∧ W (i + 1) m' H') ∧ ∀ x H', J.yld i H x H' → g x (wipe σ vs) H' fun σ2 H2 => wipe σ2 vs = wipe σ vs ∧
    wi1 σ2 H2 fun J1 H4 => ∃ W1 : Nat → Nat → Hp → Prop, (∃ m, W1 0 m H4) ∧ ∀ j k H, W1 j k H →
      (J1.stop j H ∧ Nx H) ∨ (J1.go j H ∧ ∃ Nx1 : Hp → Prop, (∀ H', Nx1 H' → ∃ k', k' < k ∧ W1 (j + 1) k' H') ∧ ∀ x H', J1.yld j H x H' → g1 x (wipe σ2 vs1) H' fun σ3 H5 => wipe σ3 vs1 = wipe σ2 vs1 ∧
        te σ3 H5 fun y H7 => ∃ (z : Int) (S : Int → Bool) (n : Nat), y = .int z ∧ H7 D = some (SetO w D S n) ∧ n + 1 < scanBound ∧ Nx1 (upd H7 D (SetO w D (fun j => S j || decide (j = z)) (if S z = true then n else n + 1)))))
theorem pe_sc2 {e t0 i0 t1 i1 : Expr} {scope : Scope} {own : List (Str × Nat)} {vs1 : List Nat} {pos : Pos} {wi wi1 : TI} {g g1 : TG} {te : TE} (hc : X.calm = true) (nd : X.N.Nodup) (src : PI X t0 i0 wi) (ok : BlkOk X.N X.env.scope scope own) (inner : ∀ i ∈ vs1, i ∈ own.map (·.2))
    (put0 : ∀ (s : Shared) (H : Hp) (C : Addr) (cl : List (Str × Addr)) (fp : List Addr), PG (X.blk s H scope (compEnvC scope cl C X.env) fp) t0 g)
    (src1 : ∀ (s : Shared) (H : Hp) (C : Addr) (cl : List (Str × Addr)) (fp : List Addr), PI (X.blk s H scope (compEnvC scope cl C X.env) fp) t1 i1 wi1)
    (put1 : ∀ (s : Shared) (H : Hp) (C : Addr) (cl : List (Str × Addr)) (fp : List Addr), PG (X.blk s H scope (compEnvC scope cl C X.env) fp) t1 g1)
    (elt : ∀ (s : Shared) (H : Hp) (C : Addr) (cl : List (Str × Addr)) (fp : List Addr), PE (X.blk s H scope (compEnvC scope cl C X.env) fp) e te)
    (fold0 : ∀ x, foldedSetIterable i0 X.env x = pure x := by intro _; rfl) (fold1 : ∀ env x, foldedSetIterable i1 env x = pure x := by intro _ _; rfl) :
    PE X (scE e t0 i0 t1 i1 scope pos) (tSc2 X.w wi g wi1 g1 te (own.map (·.2)) vs1) := by
  refine ⟨fun pins s σ H Q I h => ?_⟩
  have clos : ∀ y ∈ scope.names, y.2 = .free → ∃ c, X.env.cells.lookup y.1 = some c := fun y hy z => by
    rcases ok.free y hy z with k | k
    · exact I.ok.has _ (.inl k)
    · exact I.ok.has _ (.inr k)
  show wpAny _ _ (comprehension (scE e t0 i0 t1 i1 scope pos) scope X.env _ (newSet (.type "set")) false (eval i0 X.env)) _ _ s
  refine wpAny_comprehension_free (use := none) rfl fold0 (closure_ok clos) ok.kind (fun y hy z => by rw [ok.uniq y hy, z])
    (thn (src.run pins s σ H _ I h) fun xv s1 hx => thn hx fun itv s2 h2 => ?_)
  obtain ⟨it, fp, tn, J, H2, e1, I2, T, st2, f2, q⟩ := h2
  subst e1
  refine PpSet.newSet_ok (newEnv_comp ?_)
  generalize eD : s2.heap.objs.size = D
  have nD : H2 D = none := I2.hok.fresh (Nat.le_of_eq eD)
  obtain ⟨W, ⟨m0, w0⟩, turn⟩ := q D nD
  generalize e3 : ({ s2 with heap := s2.heap.push { cls := .type "set", dict := none, data := .set #[] 0 (.fresh 0 0 (!X.w.params.followText "set-order")) } } : Shared) = s3
  have h3 : s3.heap = s2.heap.push { cls := .type "set", dict := none, data := .set #[] 0 (.fresh 0 0 (!X.w.params.followText "set-order")) } := by rw [← e3]
  have I3 : Inv X pins σ (upd H2 D (SetO X.w D (fun _ => false) 0)) s3 := by
    rw [← e3]
    refine I2.laid (t' := s2.toks) (fun b o z => Heap.get?_push_of_some _ z) (Nat.le_of_eq eD) ?_
    rw [← eD]
    exact setO_new (setR_fresh X.w)
  have low : ∀ b ∈ fp, b < s2.heap.objs.size := fun b hb => by
    obtain ⟨o, z, _⟩ := T.obj _ _ st2 b hb
    exact Heap.lt_size z
  have f3 : ∀ b ∈ fp, FpOk X pins (upd H2 D (SetO X.w D (fun _ => false) 0)) b ∧ b < s3.heap.objs.size := fun b hb => by
    have lt := low b hb
    have nb : b ≠ D := by
      rw [← eD]
      exact Nat.ne_of_lt lt
    refine ⟨⟨?_, (f2 b hb).2⟩, ?_⟩
    · rw [upd_ne nb]
      exact (f2 b hb).1
    · rw [h3, Heap.size_push]
      exact Nat.lt_succ_of_lt lt
  have st3 : tn 0 s3.heap := T.keep _ _ _ st2 fun b _ o z => by
    rw [h3]
    exact Heap.get?_push_of_some _ z
  have I4 := block_start I3 ok nd f3
  generalize eH3 : upd H2 D (SetO X.w D (fun _ => false) 0) = H3 at I3 I4 w0 f3
  have pg := put0 s3 H3 s3.heap.objs.size (cellsFrom (s3.heap.objs.size + 1) scope.names (cloFrom X.env.cells scope.names [])) fp
  have pi1 := src1 s3 H3 s3.heap.objs.size (cellsFrom (s3.heap.objs.size + 1) scope.names (cloFrom X.env.cells scope.names [])) fp
  have pg1 := put1 s3 H3 s3.heap.objs.size (cellsFrom (s3.heap.objs.size + 1) scope.names (cloFrom X.env.cells scope.names [])) fp
  have pe := elt s3 H3 s3.heap.objs.size (cellsFrom (s3.heap.objs.size + 1) scope.names (cloFrom X.env.cells scope.names [])) fp
  have nfp : ∀ b ∈ fp, H3 b = none := fun b hb => (f3 b hb).1.1
  have end_ : ∀ s' m H', Inv X pins σ H' s' → Q (.ref D) H' → s'.heap.Ns s3.heap.objs.size m → FpOk X pins H' s3.heap.objs.size → compPost (model X.prog X.w) X.A X.xe none (EP X pins σ Q) (.ref D) s3.heap.objs.size (.ok .next) s' := fun s' m H' I' q' hn f => ⟨m, hn, fun h'' sb => by
    obtain ⟨a0, a1, a2, a3, a4, a5⟩ := f
    exact ⟨.ref D, H', I'.turned (t' := s'.toks) (fun b o hb z => (sb.2 b hb).trans z) a0 a1 a3 a4 a5, rfl, q'⟩⟩
  show codeAny _ _ (.compStart (scE e t0 i0 t1 i1 scope pos) 0 (.ref it) (.ref D) (compEnvC scope (cellsFrom (s3.heap.objs.size + 1) scope.names (cloFrom X.env.cells scope.names [])) s3.heap.objs.size X.env)) (compPost (model X.prog X.w) X.A X.xe none (EP X pins σ Q) (.ref D) s3.heap.objs.size) { s3 with heap := pushCells (s3.heap.push { cls := .type "dict", data := .dict #[] }) scope.names }
  generalize ece : compEnvC scope (cellsFrom (s3.heap.objs.size + 1) scope.names (cloFrom X.env.cells scope.names [])) s3.heap.objs.size X.env = ce at I4 pg pe pi1 pg1 ⊢
  have here : ce.locals = s3.heap.objs.size := by
    subst ece
    rfl
  generalize e4 : ({ s3 with heap := pushCells (s3.heap.push { cls := .type "dict", data := .dict #[] }) scope.names } : Shared) = s4 at I4 ⊢
  have st4 : tn 0 s4.heap := T.keep _ _ _ st3 fun b _ o z => by
    rw [← e4]
    exact pushCells_keeps _ _ _ _ (Heap.get?_push_of_some _ z)
  have fpB : ∀ {σ' : L2.St} {H' : Hp} {s' : Shared}, Inv (X.blk s3 H3 scope ce fp) [] σ' H' s' → (∀ b ∈ fp, H' b = none) → ∀ b ∈ fp, FpOk (X.blk s3 H3 scope ce fp) [] H' b := fun {σ' H' s'} I' hn b hb =>
    ⟨hn b hb, (I'.ok.exf b hb).1, I'.ok.exfs b hb, .inl hb, fun x c z => (I'.ok.exf b hb).2 x c z, fun p hp => absurd (show p ∈ ([] : List (Addr × Obj)) ++ [] from hp) (by simp)⟩
  have loop : codeAny (model X.prog X.w) X.A (.compLoop (scE e t0 i0 t1 i1 scope pos) 0 (.ref it) (.ref D) ce) (compPost (model X.prog X.w) X.A X.xe none (EP X pins σ Q) (.ref D) s3.heap.objs.size) s4 := by
    refine sc_loop0 (fold1 ce) (fun n s' => ∃ i H', Inv (X.blk s3 H3 scope ce fp) [] (wipe σ (own.map (·.2))) H' s' ∧ tn i s'.heap ∧ (∀ b ∈ fp, H' b = none) ∧ W i n H') ?_ m0 ⟨0, H3, I4, st4, nfp, w0⟩
    rintro n s5 ⟨i, H5, I5, st5, n5, w5⟩
    rcases turn i n H5 w5 with ⟨stop, qq⟩ | ⟨go, Nx, next, step⟩
    · refine thnF (T.done (X.blk s3 H3 scope ce fp) rfl rfl rfl hc i [] s5 _ H5 (fun _ _ => False) I5 (fpB I5 n5) st5 stop) fun r s6 ⟨er, I6⟩ => ?_
      subst er
      have I7 : Inv X pins σ H5 s6 := I3.call' (ch := fp) I6.os I6.base I6.hok I6.bare fun b hb => ⟨(f3 b hb).1.2.2.2.1, (f3 b hb).1.2.1, (f3 b hb).1.2.2.2.2.1, (f3 b hb).1.2.2.2.2.2⟩
      have free : H5 s3.heap.objs.size = none := by
        have z : H5 ce.locals = none := I6.free
        rw [here] at z
        exact z
      obtain ⟨m, hn, _⟩ := I6.loc
      have hn : s6.heap.Ns ce.locals m := hn
      rw [here] at hn
      exact end_ s6 m H5 I7 qq hn (I3.fpOk (Nat.le_refl _) free)
    · refine thnF (T.item (X.blk s3 H3 scope ce fp) rfl rfl rfl hc i [] s5 _ H5 (fun _ _ => False) I5 (fpB I5 n5) st5 go) fun r s6 ⟨u, er, h6⟩ => ?_
      subst er
      refine thnF h6 fun _ s7 ⟨x, H7, I7, r7, y7, st7, n7⟩ => ?_
      refine thnF (pg.run _ s7 _ H7 x u _ (I7.pinned (fpB I7 n7) (T.obj _ _ st7)) r7 (step x H7 y7)) fun _ s8 ⟨σ8, H8, I8, w8, q8⟩ => ?_
      have len8 : (wipe σ (own.map (·.2))).length = σ8.length := by rw [← w8, wipe_length]
      have old8 : ∀ (j : Nat) v, (wipe σ (own.map (·.2)))[j]? = some (some v) → (wipe σ8 vs1)[j]? = some (some v) := fun j v z => by
        rw [← w8] at z
        obtain ⟨z1, z2⟩ := wipe_some z
        rw [wipe_out fun k => z2 (inner j k)]
        exact z1
      have fin : ∀ {σ9 : L2.St} {s' : Shared} {H' : Hp}, Inv (X.blk s3 H3 scope ce fp) ([] ++ pinsAt fp s7.heap) σ9 H' s' → (wipe σ (own.map (·.2))).length = σ9.length → (∀ (j : Nat) v, (wipe σ (own.map (·.2)))[j]? = some (some v) → σ9[j]? = some (some v)) → Nx H' →
          ∃ m, m < n ∧ ∃ i H', Inv (X.blk s3 H3 scope ce fp) [] (wipe σ (own.map (·.2))) H' s' ∧ tn i s'.heap ∧ (∀ b ∈ fp, H' b = none) ∧ W i m H' := fun {σ9 s' H'} I' hl hk nx => by
        obtain ⟨m', lt, w'⟩ := next H' nx
        have still : ∀ b ∈ fp, ∀ o, s7.heap.get? b = some o → s'.heap.get? b = some o ∧ H' b = none := fun b hb o z => by
          have p := I'.pin (b, o) (List.mem_append_right _ (List.mem_append_right _ (mem_pinsAt hb z)))
          exact ⟨p.1, p.2.1⟩
        refine ⟨m', lt, i + 1, H', (I'.unpinned (pins := [])).weak hl hk, T.keep _ _ _ st7 fun b hb o z => (still b hb o z).1, fun b hb => ?_, w'⟩
        obtain ⟨o, z, _⟩ := T.obj _ _ st7 b hb
        exact (still b hb o z).2
      refine thnF (pi1.run _ s8 σ8 H8 _ I8 q8) fun xv s10 hx => thnF hx fun itv s11 h11 => ?_
      obtain ⟨it1, fp1, tn1, J1, H11, e11, I11, T1, st11, f11, W1, ⟨m1, w1⟩, turn1⟩ := h11
      subst e11
      have fpB1 : ∀ {H' : Hp}, (∀ b ∈ fp1, H' b = none) → ∀ b ∈ fp1, FpOk (X.blk s3 H3 scope ce fp) ([] ++ pinsAt fp s7.heap) H' b := fun hn b hb => ⟨hn b hb, (f11 b hb).2⟩
      have loop1 : codeAny (model X.prog X.w) X.A (.compLoop (scE e t0 i0 t1 i1 scope pos) 1 (.ref it1) (.ref D) ce) (fun r s' => match r with
          | .ok _ => ∃ m, m < n ∧ ∃ i H', Inv (X.blk s3 H3 scope ce fp) [] (wipe σ (own.map (·.2))) H' s' ∧ tn i s'.heap ∧ (∀ b ∈ fp, H' b = none) ∧ W i m H'
          | .error _ => False) s11 := by
        refine sc_loop1 (fun k s' => ∃ j H', Inv (X.blk s3 H3 scope ce fp) ([] ++ pinsAt fp s7.heap) (wipe σ8 vs1) H' s' ∧ tn1 j s'.heap ∧ (∀ b ∈ fp1, H' b = none) ∧ W1 j k H') ?_ m1 ⟨0, H11, I11.weak (wipe_length _ _) (fun j v z => (wipe_some z).1), st11, fun b hb => (f11 b hb).1, w1⟩
        rintro k s12 ⟨j, H12, I12, st12, n12, w12⟩
        rcases turn1 j k H12 w12 with ⟨stop1, nx1⟩ | ⟨go1, Nx1, next1, step1⟩
        · refine thnF (T1.done (X.blk s3 H3 scope ce fp) rfl rfl rfl hc j _ s12 (wipe σ8 vs1) H12 (fun _ _ => False) I12 (fpB1 n12) st12 stop1) fun r s13 ⟨er, I13⟩ => ?_
          subst er
          exact fin I13 (len8.trans (wipe_length σ8 vs1).symm) old8 nx1
        · refine thnF (T1.item (X.blk s3 H3 scope ce fp) rfl rfl rfl hc j _ s12 (wipe σ8 vs1) H12 (fun _ _ => False) I12 (fpB1 n12) st12 go1) fun r s13 ⟨u1, er, h13⟩ => ?_
          subst er
          refine thnF h13 fun _ s14 ⟨x1, H14, I14, r14, y14, st14, n14⟩ => ?_
          refine thnF (pg1.run _ s14 (wipe σ8 vs1) H14 x1 u1 _ (I14.pinned (fpB1 n14) (T1.obj _ _ st14)) r14 (step1 x1 H14 y14)) fun _ s15 ⟨σ15, H15, I15, w15, q15⟩ => ?_
          refine thnF (pe.run _ s15 σ15 H15 _ I15 q15) fun z s17 ⟨yv, H17, I17, r17, zi, S, cnt, ey, at_D, room, nx⟩ => ?_
          subst ey
          refine sc_add (X := X.blk s3 H3 scope ce fp) I17 at_D room r17 fun s18 I18 => ?_
          obtain ⟨m', lt, w'⟩ := next1 _ nx
          have still : ∀ b ∈ fp1, ∀ o, s14.heap.get? b = some o → s18.heap.get? b = some o ∧ (upd H17 D (SetO X.w D (fun j => S j || decide (j = zi)) (if S zi = true then cnt else cnt + 1))) b = none := fun b hb o z => by
            have p := I18.pin (b, o) (List.mem_append_right _ (List.mem_append_right _ (mem_pinsAt hb z)))
            exact ⟨p.1, p.2.1⟩
          refine ⟨m', lt, j + 1, _, I18.unpinned.weak (by rw [← w15, wipe_length]) (fun j v z => by rw [← w15] at z; exact (wipe_some z).1), T1.keep _ _ _ st14 fun b hb o z => (still b hb o z).1, fun b hb => ?_, w'⟩
          obtain ⟨o, z, _⟩ := T1.obj _ _ st14 b hb
          exact (still b hb o z).2
      exact sc_start1 loop1 (T1.self X.A 0 _ _ _ st11 loop1)
  exact sc_start0 loop (T.self X.A 0 _ _ _ st4 loop)
end
end Lr

namespace L2
open PySem PySem.Spec PyProof.Rows
/-- what the clause 'except (x, y) as n' wishes, where the suite may keep the exception -/
def wOwn2 (K : PySem.W.Frag) (c c' : Value) (i : Nat) (ts : TS) (Wout : WX) (D : Ends) : WX := fun cls d σ H =>
  ∃ b, PySem.W.exmAny K cls [c, c'] = some b ∧
    (b = true → ∀ a, H a = none → ts { nx := fun σ' H' => D.nx (σ'.set i none) H', rt := D.rt, bk := fun σ' H' => D.bk (σ'.set i none) H', ct := fun σ' H' => D.ct (σ'.set i none) H' } (σ.set i (some (.ref a))) (upd H a (exq a cls d))) ∧
    (b = false → Wout cls d σ H)
theorem flying_push {B h : Heap} {l : List Env} {e : Addr} {Z : Obj → Prop} (o : Obj) (x : HandSPX.FlyingZ B l e Z h) : HandSPX.FlyingZ B l e Z (h.push o) := by
  obtain ⟨f1, f2, f3, oe, vs, T, oT, ts, he, hz, hd, h1, hnT, hTe, hT, hdT, h3⟩ := x
  exact ⟨fun b u z => Heap.get?_push_of_some _ (f1 b u z), f2, f3.of_keeps fun b u z _ => ⟨u, Heap.get?_push_of_some _ z, rfl⟩, oe, vs, T, oT, ts, Heap.get?_push_of_some _ he, hz, hd, h1, hnT, hTe, Heap.get?_push_of_some _ hT, hdT, h3⟩
section
variable {X : Cx} {x y n : Str} {c c' : Value} {i k : Nat} {body suite : List Stmt} {b₀ : Stmt} {np mp tp pos pos' : Pos} {tb : WX → TS} {ts : TS} {Wout : WX}
theorem ps_try_own2 (stk : X.stack = X.env :: X.outer) (frm : X.env.frame = some X.env.locals) (noex : X.ex = []) (nodup : X.N.Nodup) (at_i : X.N[i]? = some n) (loc : X.env.kindOf n = some .local) (nm : Names X x c) (nm' : Names X y c') (tk : Takes X Wout)
    (hb : ∀ (W : WX) (pn : List (Addr × Obj)) (xe : Value → Shared → Prop), Takes (X.tr pn xe) W → PassesOwn (model X.prog X.w) X.A X.env xe → PSs (X.tr pn xe) body (tb W))
    (hsu : ∀ (a : Addr) (pn : List (Addr × Obj)), PSs (X.suite a pn) (b₀ :: suite) ts) :
    PS X (.Try body [.ExceptHandler (some (.Tuple [.Name x np, .Name y mp] k tp)) (some n) (b₀ :: suite) pos'] [] [] pos) (fun D σ H => tb (wOwn2 X.K c c' i ts Wout D) D σ H) := by
  refine ⟨fun pins s σ H D I h => ?_⟩
  have ok := I.ok
  have frames : X.A.frames = some (X.env :: X.outer) := by rw [ok.frames, stk]
  have isLoc : Loc X.env.scope n := .inl loc
  refine wpAny_Try_except ?_
  refine wpAny_mono ((hb (wOwn2 X.K c c' i ts Wout D) (X.pn ++ pins) (fun e s₁ => wpAny (model X.prog X.w) X.A (noteFrame e X.env)
    (fun _ s₂ => wpAny (model X.prog X.w) X.A (setFlight e none)
      (fun _ s₃ => wpAny (model X.prog X.w) X.A (handleBy e X.env [.ExceptHandler (some (.Tuple [.Name x np, .Name y mp] k tp)) (some n) (b₀ :: suite) pos']) (SP X pins D) X.xe s₃) X.xe s₂) X.xe s₁)
    (fun u s' xx => ?_) PassesOwn.looking).run [] s σ H D (I.toTry _) h) (fun f s1 done => ?_) (fun e s1 he => he)
  · -- it is caught
    obtain ⟨a, B, sI, pins', σ', H', cls, d, rfl, J', inB, up, sky, na, os, ag, b, meets, yes, no⟩ := xx
    have J : Inv X pins σ' H' sI := J'.ofTry ok
    have sky' : Sky B (X.env :: X.outer) a (Zc cls d) X.env.locals s'.heap := by rw [← stk]; exact sky
    show wpAny (model X.prog X.w) X.A (noteFrame (.ref a) X.env) _ _ _
    refine Sky.land Zc.steady frames frm sky' fun h3 fl3 up3 => ?_
    have J3 : Inv X pins σ' H' { s' with heap := h3 } := J.landed inB fl3.1 (up.trans up3) os ag
    obtain ⟨oe3, vs3, he3, hz3, hd3⟩ := fl3.there
    -- a is none of the frames, and came after the entry
    have nfr : a ∉ frs (X.env :: X.outer) := fun hm => by
      obtain ⟨_, o', e', hnf⟩ := fl3.2.2.1.mem hm
      rw [he3] at e'
      cases e'
      exact hnf _ hd3
    have gone : sI.heap.get? a = none := by
      cases e : sI.heap.get? a with
      | none => rfl
      | some o =>
        have z := inB a o e (by rw [stk]; exact nfr)
        rw [fl3.2.1] at z
        cases z
    have nL : a ≠ X.env.locals := fun z => nfr (List.mem_filterMap.mpr ⟨X.env, List.mem_cons_self, by rw [frm, z]⟩)
    have n0 : X.s_0.heap.get? a = none := by
      cases e : X.s_0.heap.get? a with
      | none => rfl
      | some o =>
        obtain ⟨o', z⟩ := J.base.there a o e (by rw [noex]; exact fun z => nomatch z)
        rw [gone] at z
        cases z
    have nC : ∀ x c, X.env.cells.lookup x = some c → c ≠ a := fun x c e z => by
      obtain ⟨v, o, z2, _⟩ := J.cell x c e
      rw [z, gone] at z2
      cases z2
    have nP : ∀ p ∈ X.pn ++ pins, p.1 ≠ a := fun p hp z => by
      have z2 := (J.pin p hp).1
      rw [z, gone] at z2
      cases z2
    have trk : ∀ {h : Heap}, Inv X pins σ' H' { s' with heap := h } → (∃ oe vs, h.get? a = some oe ∧ Zc cls d oe ∧ oe.data = .fields vs) → Inv X pins σ' (upd H' a (exq a cls d)) { s' with heap := h } := fun {h} J4 th => by
      obtain ⟨oe, vs, h1, h2, h3⟩ := th
      exact J4.track n0 na nL nC nP (exq_ok h1 h2 h3)
    have S3 := (trk J3 ⟨oe3, vs3, he3, hz3, hd3⟩).suite' (a := a)
    refine wpAny_handleBy_cons (codeAny_handlers_test ?_) (by intro q; cases q)
    have LT : PySem.W.Looks (model X.prog X.w) h3 (typeOf (.ref a)) cls := fun A Q E s k q => wpAny_typeOf_ref (k _ _ he3) (by rw [hz3.1]; exact q)
    -- the tuple of both classes is made
    have name1 : ∀ {z : Str} {cz : Value} {zp : Pos} {Q : Value → Shared → Prop} {E : Value → Shared → Prop}, Names X z cz → Q cz { s' with heap := h3 } →
        wpAny (model X.prog X.w) (X.A.mark (some (.ref a))) (eval (.Name z zp) X.env) Q E { s' with heap := h3 } := fun {z cz zp Q E} nz q => by
      obtain ⟨hg, hdbg, hm | ⟨hm, hv, hnn⟩⟩ := nz
      · exact ld_glob (X := X.suite a (X.pn ++ pins)) S3 hg hm q hdbg
      · exact ld_blt (X := X.suite a (X.pn ++ pins)) S3 hg hm hv q hnn hdbg
    refine Tuple_ (spliced_more (name1 nm (spliced_more (name1 nm' (spliced_none ?_)))))
    refine wpAny_newObj_type ?_ (by show 2 ≤ sizeLine; rw [sizeLine_eq]; decide)
    generalize hp : h3.push { cls := .type "tuple", data := .seq [c, c'].toArray } = hP
    have keepP : ∀ b o, h3.get? b = some o → hP.get? b = some o := fun b o z => by
      rw [← hp]
      exact Heap.get?_push_of_some _ z
    have at_t : hP.get? h3.objs.size = some { cls := .type "tuple", data := .seq [c, c'].toArray } := by
      rw [← hp]
      exact Heap.get?_push_size _ rfl
    have flP : HandSPX.FlyingZ B (X.env :: X.outer) a (Zc cls d) hP := by
      rw [← hp]
      exact flying_push _ fl3
    have upP : s'.heap.UpToSlots hP := up3.trans (Heap.UpToSlots.of_keeps keepP)
    have JP : Inv X pins σ' H' { s' with heap := hP } := J.landed inB flP.1 (up.trans upP) os ag
    have LM := PySem.W.exm_tup2 (M := model X.prog X.w) JP.kIn (LT.keeps keepP) at_t meets
    refine LM.here ?_
    cases b with
    | true =>
      refine codeAny_handlers_suite_as ?_
      refine HandSPX.lands_againZ flP fun h4 fl4 up4 => ?_
      have J4 : Inv X pins σ' H' { s' with heap := h4 } := J.landed inB fl4.1 ((up.trans upP).trans up4) os ag
      have S4 := (trk J4 fl4.there).suite' (a := a)
      refine store_ok (X := X.suite a (X.pn ++ pins)) (v := .ref a) S4 nodup at_i isLoc rfl (fun s5 S5 => ?_) (.inr loc)
      refine wpAny_mono ((hsu a (X.pn ++ pins)).run [] s5 _ _ _ S5 (yes rfl a na)) (fun f s6 done => ?_) (fun _ _ z => False.elim z)
      have leave : ∀ {σ6 : L2.St} {H6 : Hp} {Q : Shared → Prop}, Inv (X.suite a (X.pn ++ pins)) [] σ6 H6 s6 → (∀ s7, Inv X pins (σ6.set i none) H6 s7 → Q s7) →
          wpAny (model X.prog X.w) X.A (do bindName X.env n .none; unbindBehindTheSuite X.env n pos') (fun _ s7 => Q s7) X.xe s6 := fun {σ6 H6 Q} S6 hq => gone_ok (S6.unsuite' ok) nodup at_i loc hq
      match f, done with
      | .next, ⟨σ6, H6, S6, q6⟩ => exact leave S6 fun s7 J7 => ⟨_, _, J7, q6⟩
      | .brk, ⟨σ6, H6, S6, q6⟩ => exact leave S6 fun s7 J7 => ⟨_, _, J7, q6⟩
      | .cont, ⟨σ6, H6, S6, q6⟩ => exact leave S6 fun s7 J7 => ⟨_, _, J7, q6⟩
      | .ret u, ⟨v6, σ6, H6, S6, r6, q6⟩ => exact leave S6 fun s7 J7 => ⟨_, _, _, J7, r6, q6⟩
    | false =>
      show wpAny _ X.A (handleBy (.ref a) X.env []) _ _ _
      refine wpAny_handleBy_nil ?_
      obtain ⟨k1, k2, k3, oe, vs, T, oT, ts', he, hz, hd, h1, hr⟩ := id flP
      unfold PySem.passOn
      refine wpAny_bind (wpAny_field he hd h1 ?_)
      rw [if_neg (show ¬ ((Value.ref T == Value.none) = true) from by simp)]
      have fin : wpAny (model X.prog X.w) X.A (setFlight (.ref a) X.env.frame) (fun _ s4 => wpAny (model X.prog X.w) X.A (throw (.ref a) : Sem Flow) (SP X pins D) X.xe s4) X.xe { s' with heap := hP } := by
        rw [frm]
        refine HandSPX.setFlight_upZ flP fun h4 hh4 up4 => wpAny_throw (tk _ _ ?_)
        exact ⟨a, B, sI, pins, σ', H', cls, d, rfl, J, inB, (up.trans upP).trans up4, .inr (.inr (by rw [stk]; exact hh4)), na, os, ag, no rfl⟩
      first
        | exact wpAny_bind (wpAny_pure (wpAny_bind fin))
        | exact wpAny_bind fin
  · match f, done with
    | .next, ⟨σ', H', J', q⟩ => exact wpAny_execs_nil ⟨σ', H', J'.ofTry ok, q⟩
    | .brk, ⟨σ', H', J', q⟩ => exact ⟨σ', H', J'.ofTry ok, q⟩
    | .cont, ⟨σ', H', J', q⟩ => exact ⟨σ', H', J'.ofTry ok, q⟩
    | .ret u, ⟨v, σ', H', J', r, q⟩ => exact ⟨v, σ', H', J'.ofTry ok, r, q⟩
end
end L2


namespace Lr
open PySem PySem.Spec PyProof.Rows L2

/-! ### data without lists and dicts -/
mutual
def flatD : PyData → Bool
  | .list _ => false
  | .dict _ => false
  | .tuple xs => flatAll xs
  | _ => true
def flatAll : List PyData → Bool
  | [] => true
  | x :: xs => flatD x && flatAll xs
end
/-- tuples stay -/
def Tk (H H' : Hp) : Prop := ∀ b xs, (H b = some (.tup xs) → H' b = some (.tup xs)) ∧ ∀ o, H b = some (.frz o (.tup xs)) → H' b = some (.frz o (.tup xs))
theorem Tk.refl (H : Hp) : Tk H H := fun b xs => ⟨fun e => e, fun o e => e⟩
theorem Tk.trans {H H1 H2 : Hp} (a : Tk H H1) (b : Tk H1 H2) : Tk H H2 := fun c xs => ⟨fun e => (b c xs).1 ((a c xs).1 e), fun o e => (b c xs).2 o ((a c xs).2 o e)⟩
theorem Tk.of {H H' : Hp} (s : Same H H') : Tk H H' := fun b xs => ⟨fun e => s _ _ e, fun o e => s _ _ e⟩
theorem Tk.seq {K : PySem.W.Frag} {H H' : Hp} {a : Addr} {xs : List V} (t : Tk H H') (h : SqT K H a xs) : SqT K H' a xs := by
  rcases h with (e | ⟨o, e⟩) | z
  · exact .inl (.inl ((t a xs).1 e))
  · exact .inl (.inr ⟨o, (t a xs).2 o e⟩)
  · exact .inr z
mutual
theorem dp_tk {K : PySem.W.Frag} {H H' : Hp} (t : Tk H H') : ∀ (d : PyData) (v : V), flatD d = true → Dp K H v d → Dp K H' v d
  | .none, _, _, h => by
    cases h
    exact .non
  | .bool b, _, _, h => by
    cases h
    exact .bl b
  | .int i, _, _, h => by
    cases h
    exact .int i
  | .str x, _, _, h => by
    cases h
    exact .str x
  | .list ds, _, f, h => by
    simp [flatD] at f
  | .tuple ds, _, f, h => by
    cases h with
    | tup hs ha => exact .tup (t.seq hs) (dp_tkAll t ds _ f ha)
  | .dict ds, _, f, h => by
    simp [flatD] at f
theorem dp_tkAll {K : PySem.W.Frag} {H H' : Hp} (t : Tk H H') : ∀ (ds : List PyData) (vs : List V), flatAll ds = true → DpAll K H vs ds → DpAll K H' vs ds
  | [], _, _, h => by
    cases h
    exact .nil
  | d :: ds, _, f, h => by
    rw [flatAll, Bool.and_eq_true] at f
    cases h with
    | cons h1 h2 => exact .cons (dp_tk t d _ f.1 h1) (dp_tkAll t ds _ f.2 h2)
end
theorem dpAll_app {K : PySem.W.Frag} {H : Hp} : ∀ {vs : List V} {ds : List PyData} {us : List V} {es : List PyData}, DpAll K H vs ds → DpAll K H us es → DpAll K H (vs ++ us) (ds ++ es)
  | _, _, _, _, .nil, q => q
  | _, _, _, _, .cons x t, q => .cons x (dpAll_app t q)
theorem dpAll_len {K : PySem.W.Frag} {H : Hp} : ∀ {vs : List V} {ds : List PyData}, DpAll K H vs ds → vs.length = ds.length
  | _, _, .nil => rfl
  | _, _, .cons x t => by rw [List.length_cons, List.length_cons, dpAll_len t]
theorem dpAll_get {K : PySem.W.Frag} {H : Hp} : ∀ {vs : List V} {ds : List PyData}, DpAll K H vs ds → ∀ (i : Nat) (v : V), vs[i]? = some v → ∃ d, ds[i]? = some d ∧ Dp K H v d
  | _, _, .nil, i, v, h => by simp at h
  | _, _, .cons x t, 0, v, h => by
    cases Option.some.inj h
    exact ⟨_, rfl, x⟩
  | _, _, .cons x t, i + 1, v, h => dpAll_get t i v h
theorem dpAll_at {K : PySem.W.Frag} {H : Hp} : ∀ {vs : List V} {ds : List PyData}, DpAll K H vs ds → ∀ (i : Nat) (d : PyData), ds[i]? = some d → ∃ v, vs[i]? = some v ∧ Dp K H v d
  | _, _, .nil, i, d, h => by simp at h
  | _, _, .cons x t, 0, d, h => by
    cases Option.some.inj h
    exact ⟨_, rfl, x⟩
  | _, _, .cons x t, i + 1, d, h => dpAll_at t i d h
theorem dpAll_take {K : PySem.W.Frag} {H : Hp} : ∀ {vs : List V} {ds : List PyData} (n : Nat), DpAll K H vs ds → DpAll K H (vs.take n) (ds.take n)
  | _, _, 0, _ => .nil
  | _, _, n + 1, .nil => .nil
  | _, _, n + 1, .cons x t => .cons x (dpAll_take n t)
theorem dpAll_drop {K : PySem.W.Frag} {H : Hp} : ∀ {vs : List V} {ds : List PyData} (n : Nat), DpAll K H vs ds → DpAll K H (vs.drop n) (ds.drop n)
  | _, _, 0, t => t
  | _, _, n + 1, .nil => .nil
  | _, _, n + 1, .cons x t => dpAll_drop n t
theorem dp_strs {K : PySem.W.Frag} {H : Hp} : ∀ ws : List Str, DpAll K H (ws.map V.str) (ws.map PyData.str)
  | [] => .nil
  | w :: ws => .cons (.str w) (dp_strs ws)
theorem strs_dp {K : PySem.W.Frag} {H : Hp} : ∀ {ws : List Str} {vs : List V}, DpAll K H vs (ws.map PyData.str) → vs = ws.map V.str
  | [], _, h => by
    cases h
    rfl
  | w :: ws, _, h => by
    cases h with
    | cons h1 h2 =>
      cases h1
      rw [strs_dp h2]
      rfl
theorem dp_of_tup {K : PySem.W.Frag} {H : Hp} {v : V} {ds : List PyData} (h : Dp K H v (.tuple ds)) : ∃ p xs, v = .ref p ∧ SqT K H p xs ∧ DpAll K H xs ds := by
  cases h with
  | tup hs ha => exact ⟨_, _, rfl, hs, ha⟩

/-! ### nets -/
abbrev Chc := Int × List Str
abbrev Gr := List Chc
abbrev Gs := Option (List Gr)
abbrev Hd := Int × Str
abbrev Rwt := Hd × Gs
structure Nt where
  roads : List (Int × Int)
  labels : List Str
  rows : List Rwt
def dWd (w : List Str) : PyData := .tuple (w.map .str)
def dCh (c : Chc) : PyData := .tuple [.int c.1, dWd c.2]
def dGr (g : Gr) : PyData := .tuple (g.map dCh)
def dGs : Gs → PyData
  | none => .str "home"
  | some gs => .tuple (gs.map dGr)
def dHd (h : Hd) : PyData := .tuple [.int h.1, .str h.2]
def dRw (r : Rwt) : PyData := .tuple [dHd r.1, dGs r.2]
def dPr (p : Int × Int) : PyData := .tuple [.int p.1, .int p.2]
def dNt (n : Nt) : PyData := .tuple [.tuple (n.roads.map dPr), dWd n.labels, .tuple (n.rows.map dRw)]
theorem flat_map {α : Type} (f : α → PyData) (h : ∀ x, flatD (f x) = true) : ∀ xs : List α, flatAll (xs.map f) = true
  | [] => rfl
  | x :: xs => by
    show (flatD (f x) && flatAll (xs.map f)) = true
    rw [h x, flat_map f h xs]
    rfl
theorem flat_wd (w : List Str) : flatD (dWd w) = true := flat_map _ (fun _ => rfl) w
theorem flat_ch (c : Chc) : flatD (dCh c) = true := by
  show (flatD (.int c.1) && (flatD (dWd c.2) && true)) = true
  rw [flat_wd]
  rfl
theorem flat_gr (g : Gr) : flatD (dGr g) = true := flat_map _ flat_ch g
theorem flat_gs : ∀ g : Gs, flatD (dGs g) = true
  | none => rfl
  | some gs => flat_map _ flat_gr gs
theorem flat_hd (h : Hd) : flatD (dHd h) = true := rfl
theorem flat_rw (r : Rwt) : flatD (dRw r) = true := by
  show (flatD (dHd r.1) && (flatD (dGs r.2) && true)) = true
  rw [flat_gs]
  rfl
theorem flat_pr (p : Int × Int) : flatD (dPr p) = true := rfl
theorem flat_nt (n : Nt) : flatD (dNt n) = true := by
  show (flatD (.tuple (n.roads.map dPr)) && (flatD (dWd n.labels) && (flatD (.tuple (n.rows.map dRw)) && true))) = true
  rw [flat_wd]
  have h1 : flatD (.tuple (n.roads.map dPr)) = true := flat_map _ flat_pr _
  have h2 : flatD (.tuple (n.rows.map dRw)) = true := flat_map _ flat_rw _
  rw [h1, h2]
  rfl
/-- the labels that are drawn, and those of the net by hand -/
def L5 : List Str := ["a", "ab", "b", "abc", "bb", "c"]
def ChOk (roads : List (Int × Int)) (labels : List Str) (road : Int) (c : Chc) : Prop := 0 ≤ c.1 ∧ c.1 < roads.length ∧ (roads.getD c.1.toNat (0, 0)).1 = (roads.getD road.toNat (0, 0)).2 ∧ c.2.length ≤ 3 ∧ ∀ x ∈ c.2, x ∈ labels
def GrOk (roads : List (Int × Int)) (labels : List Str) (road : Int) (g : Gr) : Prop := 1 ≤ g.length ∧ g.length ≤ 3 ∧ (∀ c ∈ g, ChOk roads labels road c) ∧ g.Nodup
def GsOk (roads : List (Int × Int)) (labels : List Str) (road : Int) : Gs → Prop
  | none => True
  | some gs => 1 ≤ gs.length ∧ gs.length ≤ 3 ∧ ∀ g ∈ gs, GrOk roads labels road g
def RwOk (roads : List (Int × Int)) (labels : List Str) (r : Rwt) : Prop := 0 ≤ r.1.1 ∧ r.1.1 < roads.length ∧ (r.1.2 = "" ∨ r.1.2 ∈ labels) ∧ GsOk roads labels r.1.1 r.2
structure NtOk (n : Nt) : Prop where
  r1 : 1 ≤ n.roads.length
  r2 : n.roads.length ≤ 10
  rh : ∀ p ∈ n.roads, 0 ≤ p.1 ∧ p.1 ≤ 7 ∧ 0 ≤ p.2 ∧ p.2 ≤ 7
  l1 : 1 ≤ n.labels.length
  l2 : n.labels.length ≤ 4
  lw : ∀ x ∈ n.labels, x ∈ L5
  ln : n.labels.Nodup
  w1 : n.rows.length ≤ n.roads.length * (n.labels.length + 1)
  ro : ∀ r ∈ n.rows, RwOk n.roads n.labels r
  asc : ∀ (i : Nat) (a b : Rwt), n.rows[i]? = some a → n.rows[i + 1]? = some b → lePair b.1 a.1 = false
end Lr


namespace Lr
open PySem PySem.Spec PyProof.Rows L2

abbrev sAH : Stmt := top 36
abbrev sGA : Stmt := top 37
abbrev sFC : Stmt := top 38
abbrev sCBH : Stmt := top 39
abbrev sTbO : Stmt := top 41
abbrev sEO : Stmt := top 42
abbrev sWO : Stmt := top 43
abbrev sSgO : Stmt := top 44
abbrev sLy : Stmt := top 45
abbrev sNxL : Stmt := top 46
abbrev sRch : Stmt := top 47
abbrev sSat : Stmt := top 48
abbrev sAE : Stmt := top 49
abbrev sPTb : Stmt := top 51
abbrev sPop : Stmt := top 52
abbrev sPSt : Stmt := top 53
abbrev sLGp : Stmt := top 59
abbrev sLFa : Stmt := top 61
abbrev sLMo : Stmt := top 62
abbrev sLOf : Stmt := top 63
abbrev sLLo : Stmt := top 64
abbrev sLSh : Stmt := top 65
abbrev sNu : Stmt := top 10
abbrev sTu : Stmt := top 11
abbrev sPa : Stmt := top 12
abbrev sWo : Stmt := top 13
abbrev sHo : Stmt := top 14
abbrev sHp : Stmt := top 15
abbrev sLa : Stmt := top 16
abbrev sRd : Stmt := top 17
abbrev sLb : Stmt := top 18
abbrev sLs : Stmt := top 19
abbrev sSg : Stmt := top 20
abbrev sHd : Stmt := top 21
abbrev sAs : Stmt := top 22
abbrev sFa : Stmt := top 23
abbrev sCh : Stmt := top 24
abbrev sGr : Stmt := top 25
abbrev sGs : Stmt := top 26
abbrev sRw : Stmt := top 27
abbrev sNN : Stmt := top 31
abbrev sNR : Stmt := top 32
abbrev sNL : Stmt := top 33
abbrev sNW : Stmt := top 34
abbrev sNF : Stmt := top 35
abbrev sLN : Stmt := top 60
abbrev sLaw : Stmt := top 66
/-- a def of the text, as a caller finds it -/
structure Cal (K : PySem.W.Frag) (mg : Str → Option Value) (name : Str) (f : Addr) (fd : FuncData) (ps : List Str) : Prop where
  g : mg name = some (.ref f)
  k : PySem.W.keepIn K (.ref f) = true
  b : Binds K fd ps []
structure Bt (mg : Str → Option Value) : Prop where
  isi : mg "isinstance" = none
  len : mg "len" = none
  set : mg "set" = none
  all : mg "all" = none
  any : mg "any" = none
  int : mg "int" = none
  bool : mg "bool" = none
  str : mg "str" = none
  tuple : mg "tuple" = none
  list : mg "list" = none
  enum : mg "enumerate" = none
  range : mg "range" = none
  sorted : mg "sorted" = none
  zip : mg "zip" = none
  h7 : ∃ t, mg "MOST_HOUSE" = some (.int 7 t)
  l8 : ∃ t, mg "MOST_LETTERS" = some (.int 8 t)
  w3 : ∃ t, mg "MOST_WORD" = some (.int 3 t)
  c3 : ∃ t, mg "MOST_CHOICES" = some (.int 3 t)
  g3 : ∃ t, mg "MOST_GROUPS" = some (.int 3 t)
  r10 : ∃ t, mg "MOST_ROADS" = some (.int 10 t)
  l4 : ∃ t, mg "MOST_LABELS" = some (.int 4 t)
theorem ty_tup {K : PySem.W.Frag} {H : Hp} {p : Addr} {xs : List V} (h : SqT K H p xs) : TyX K H (.ref p) (.type "tuple") := by
  rcases h with (e | ⟨o, e⟩) | ⟨o, its, n, e, c, _⟩
  · exact .base (.tup e)
  · exact .fTuple e
  · exact .kTuple e c
/-- a value that is no tuple -/
def NotTup (K : PySem.W.Frag) (H : Hp) (x : V) : Prop := ∃ ty : String, ty ∈ ["NoneType", "int", "bool", "str", "list", "dict"] ∧ TyX K H x (.type ty)
theorem kit_not {K : PySem.W.Frag} {ty : String} (h : ty ∈ ["NoneType", "int", "bool", "str", "list", "dict"]) : PySem.W.kitOne K (.type ty) (.type "tuple") = some false := by
  simp only [List.mem_cons, List.not_mem_nil, or_false] at h
  rcases h with rfl | rfl | rfl | rfl | rfl | rfl <;> exact kit_ty (by decide +kernel)
def spNu : Sp := fun vs H Q _ => ∃ v lo hi : Int, vs = [.int v, .int lo, .int hi] ∧ lo ≤ v ∧ v ≤ hi ∧ Q (.bl true) H
def spTu (K : PySem.W.Frag) : Sp := fun vs H Q _ => ∃ (x : V) (lo hi : Int), vs = [x, .int lo, .int hi] ∧ ((∃ p xs, x = .ref p ∧ SqT K H p xs ∧ lo ≤ (xs.length : Nat) ∧ Q (.bl (decide (((xs.length : Nat) : Int) ≤ hi))) H) ∨ (NotTup K H x ∧ Q (.bl false) H))
def spPa (K : PySem.W.Frag) : Sp := fun vs H Q _ => ∃ (p : Addr) (x y : V), vs = [.ref p] ∧ SqT K H p [x, y] ∧ Q (.bl true) H
def spHo : Sp := fun vs H Q _ => ∃ v : Int, vs = [.int v] ∧ 0 ≤ v ∧ v ≤ 7 ∧ Q (.bl true) H
def spHp (K : PySem.W.Frag) : Sp := fun vs H Q _ => ∃ (p : Addr) (x y : Int), vs = [.ref p] ∧ SqT K H p [.int x, .int y] ∧ 0 ≤ x ∧ x ≤ 7 ∧ 0 ≤ y ∧ y ≤ 7 ∧ Q (.bl true) H
def spWo : Sp := fun vs H Q _ => ∃ x : Str, vs = [.str x] ∧ x ∈ L5 ∧ ∀ H', Same H H' → Q (.bl true) H'
def spRd (K : PySem.W.Frag) : Sp := fun vs H Q _ => ∃ (r : Addr) (xs : List V) (v : Int), vs = [.ref r, .int v] ∧ SqT K H r xs ∧ 0 ≤ v ∧ v < (xs.length : Nat) ∧ Q (.bl true) H
/-- a label's place in labels; what is no text is none -/
def spLb (K : PySem.W.Frag) : Sp := fun vs H Q _ => ∃ (l : Addr) (ls : List Str) (x : V), vs = [.ref l, x] ∧ SqT K H l (ls.map V.str) ∧ ((∃ y, x = .str y ∧ Q (.bl (decide (y ∈ ls))) H) ∨ ((∃ i : Int, x = .int i) ∨ ∃ p xs, x = .ref p ∧ SqT K H p xs) ∧ Q (.bl false) H)
theorem inV_strs (y : Str) : ∀ ls : List Str, inV (V.str y) (ls.map V.str) = decide (y ∈ ls)
  | [] => rfl
  | l :: ls => by
    have ih := inV_strs y ls
    unfold inV at ih ⊢
    rw [List.map_cons, List.any_cons, ih]
    by_cases e : l = y
    · subst e
      have z : eqV (V.str l) (V.str l) = true := by
        simp [eqV]
      rw [z]
      simp
    · have z : eqV (V.str l) (V.str y) = false := by
        simp [eqV, e]
      have e' : y ≠ l := fun k => e k.symm
      rw [z]
      simp [e']
theorem flat_strs : ∀ ls : List Str, (ls.map V.str).all flatV = true
  | [] => rfl
  | l :: ls => by
    rw [List.map_cons, List.all_cons, flat_strs ls]
    rfl
def L5ok : Bool := L5.all fun x => decide (1 ≤ x.length) && decide (x.length ≤ 8) && x.cps.toList.all (fun c => c == 97 || c == 98 || c == 99) && !(x == "any") && !(x == "all") && !(x == "") && !(x == "zz")
theorem L5_ok : L5ok = true := by decide +kernel
theorem L5_of {x : Str} (h : x ∈ L5) : 1 ≤ x.length ∧ x.length ≤ 8 ∧ (∀ c ∈ x.cps.toList, c = 97 ∨ c = 98 ∨ c = 99) ∧ x ≠ "any" ∧ x ≠ "all" ∧ x ≠ "" ∧ x ≠ "zz" := by
  have z := List.all_eq_true.mp L5_ok x h
  simp only [Bool.and_eq_true, decide_eq_true_eq, List.all_eq_true, Bool.or_eq_true, beq_iff_eq, Bool.not_eq_true', beq_eq_false_iff_ne] at z
  obtain ⟨⟨⟨⟨⟨⟨z1, z2⟩, z3⟩, z4⟩, z5⟩, z6⟩, z7⟩ := z
  refine ⟨z1, z2, fun c hc => ?_, z4, z5, z6, z7⟩
  rcases z3 c hc with (e | e) | e
  · exact .inl e
  · exact .inr (.inl e)
  · exact .inr (.inr e)
section
variable {P : Program} {w : World} {K : PySem.W.Frag} {mg : Str → Option Value} {base : Heap}
theorem scNu : FnScope ["value", "least", "greatest"] ["value", "least", "greatest"] (defScope sNu) := ⟨rfl, rfl, rfl, by decide +kernel, rfl, by decide +kernel, by decide +kernel⟩
theorem scTu : FnScope ["value", "least", "greatest"] ["value", "least", "greatest"] (defScope sTu) := ⟨rfl, rfl, rfl, by decide +kernel, rfl, by decide +kernel, by decide +kernel⟩
theorem scPa : FnScope ["value"] ["value"] (defScope sPa) := ⟨rfl, rfl, rfl, by decide +kernel, rfl, by decide +kernel, by decide +kernel⟩
theorem scWo : FnScope ["value", "letter"] ["value"] (defScope sWo) := ⟨rfl, rfl, rfl, by decide +kernel, rfl, by decide +kernel, by decide +kernel⟩
theorem scHo : FnScope ["value"] ["value"] (defScope sHo) := ⟨rfl, rfl, rfl, by decide +kernel, rfl, by decide +kernel, by decide +kernel⟩
theorem scHp : FnScope ["value"] ["value"] (defScope sHp) := ⟨rfl, rfl, rfl, by decide +kernel, rfl, by decide +kernel, by decide +kernel⟩
theorem scLa : FnScope ["value"] ["value"] (defScope sLa) := ⟨rfl, rfl, rfl, by decide +kernel, rfl, by decide +kernel, by decide +kernel⟩
theorem scRd : FnScope ["roads", "value"] ["roads", "value"] (defScope sRd) := ⟨rfl, rfl, rfl, by decide +kernel, rfl, by decide +kernel, by decide +kernel⟩
theorem scLb : FnScope ["labels", "value"] ["labels", "value"] (defScope sLb) := ⟨rfl, rfl, rfl, by decide +kernel, rfl, by decide +kernel, by decide +kernel⟩
theorem ok_Nu {f : Addr} {fd : FuncData} (F : Fun K "is_number" "is_number" sNu f fd) (T : Bt mg) : FnOk P w K mg base CX0 1 f fd ["value", "least", "greatest"] spNu := by
  refine F.ok scNu (fun vs H Q E h => ?_) (fun cdv A outer s H vs Q E hr h => ?_)
  · obtain ⟨v, lo, hi, rfl, h0, h1, k⟩ := h
    rfl
  · obtain ⟨v, lo, hi, rfl, h0, h1, k⟩ := h
    refine ⟨_, pss_one (ps_ret (pe_and (pe_callB call_isi (by rfl) T.isi (by decide +kernel) (pa_cons (pv 0) (pa_cons (pe_bltn (v := V.ty "int") (by rfl) T.int (by decide +kernel) rfl) pa_nil))) (pe_and (pe_not (pe_callB call_isi (by rfl) T.isi (by decide +kernel) (pa_cons (pv 0) (pa_cons (pe_bltn (v := V.ty "bool") (by rfl) T.bool (by decide +kernel) rfl) pa_nil)))) (pe_one (pe_chain op_le op_le (pv 1) (pv 0) (pv 2)))))), ?_⟩
    refine ⟨_, rfl, .int v, .ty "int", _, _, true, rfl, .ty _, .base (.int v), kit_ty (by decide +kernel), _, rfl, iteT ?_⟩
    refine ⟨_, rfl, .int v, .ty "bool", _, _, false, rfl, .ty _, .base (.int v), kit_ty (by decide +kernel), _, rfl, _, rfl, iteT ?_⟩
    refine ⟨_, rfl, _, rfl, _, _, rfl, rfl, _, rfl, ifT (decide_eq_true h0) ⟨_, rfl, _, _, rfl, rfl, ?_⟩⟩
    show Q (.bl (decide (v ≤ hi))) H
    rw [decide_eq_true h1]
    exact k
theorem ok_Tu {f : Addr} {fd : FuncData} (F : Fun K "is_tuple" "is_tuple" sTu f fd) (T : Bt mg) : FnOk P w K mg base CX0 1 f fd ["value", "least", "greatest"] (spTu K) := by
  refine F.ok scTu (fun vs H Q E h => ?_) (fun cdv A outer s H vs Q E hr h => ?_)
  · obtain ⟨x, lo, hi, rfl, h⟩ := h
    rfl
  · obtain ⟨x, lo, hi, rfl, h⟩ := h
    refine ⟨_, pss_one (ps_ret (pe_and (pe_callB call_isi (by rfl) T.isi (by decide +kernel) (pa_cons (pv 0) (pa_cons (pe_bltn (v := V.ty "tuple") (by rfl) T.tuple (by decide +kernel) rfl) pa_nil))) (pe_one (pe_chain op_le op_le (pv 1) (pe_callB call_len_seq (by rfl) T.len PySem.boot_len (pa_cons (pv 0) pa_nil)) (pv 2))))), ?_⟩
    rcases h with ⟨p, xs, rfl, ep, h0, k⟩ | ⟨⟨ty, mem, tx⟩, k⟩
    · refine ⟨_, rfl, .ref p, .ty "tuple", _, _, true, rfl, .ty _, ty_tup ep, kit_ty (by decide +kernel), _, rfl, iteT ?_⟩
      refine ⟨_, rfl, _, rfl, p, _, rfl, .inr ep, _, _, rfl, rfl, _, rfl, ifT (decide_eq_true h0) ⟨_, rfl, _, _, rfl, rfl, ?_⟩⟩
      exact k
    · refine ⟨_, rfl, x, .ty "tuple", _, _, false, rfl, .ty _, tx, kit_not mem, _, rfl, iteF ?_⟩
      exact k
theorem ok_Pa {f : Addr} {fd : FuncData} {fTu : Addr} {fdTu : FuncData} (F : Fun K "is_pair" "is_pair" sPa f fd) (T : Bt mg) (CTu : Cal K mg "is_tuple" fTu fdTu ["value", "least", "greatest"]) (GTu : FnOk P w K mg base CX0 1 fTu fdTu ["value", "least", "greatest"] (spTu K)) : FnOk P w K mg base CX0 2 f fd ["value"] (spPa K) := by
  refine F.ok scPa (fun vs H Q E h => ?_) (fun cdv A outer s H vs Q E hr h => ?_)
  · obtain ⟨p, x, y, rfl, ep, k⟩ := h
    rfl
  · obtain ⟨p, x, y, rfl, ep, k⟩ := h
    have hr1 : Room 1 (A.deeper (envOfC "is_pair" (defScope sPa) s.heap.objs.size f cdv)) := Room.mono hr (by decide)
    refine ⟨_, pss_one (ps_ret (pe_call GTu hr1 (by rfl) CTu.g CTu.k CTu.b .nil pass0 (pa_cons (pv 0) (pa_cons pe_int (pa_cons pe_int pa_nil))))), ?_⟩
    exact ⟨_, rfl, .ref p, _, _, rfl, .inl ⟨p, _, rfl, ep, by show (2 : Int) ≤ 2; decide, k⟩⟩
theorem ok_Wo {f : Addr} {fd : FuncData} (F : Fun K "is_word" "is_word" sWo f fd) (T : Bt mg) : FnOk P w K mg base CX0 1 f fd ["value"] spWo := by
  refine F.ok scWo (fun vs H Q E h => ?_) (fun cdv A outer s H vs Q E hr h => ?_)
  · obtain ⟨x, rfl, mem, k⟩ := h
    rfl
  · obtain ⟨x, rfl, mem, k⟩ := h
    obtain ⟨t8, e8⟩ := T.l8
    refine ⟨_, pss_cons (ps_if (PW.pt (pw_or (pt_not (pt_val (pe_callB call_isi (by rfl) T.isi (by decide +kernel) (pa_cons (pv 0) (pa_cons (pe_bltn (v := V.ty "str") (by rfl) T.str (by decide +kernel) rfl) pa_nil))))) (pw_or1 (pt_not (pt_chain op_le op_le pe_int (pe_callB call_len_str (by rfl) T.len PySem.boot_len (pa_cons (pv 0) pa_nil)) (pe_glob (v := V.int 8) (by rfl) e8 ⟨_, rfl⟩)))))) (pss_one (ps_ret pe_bl)) pss_nil)
      (pss_one (ps_ret (pe_callB (cr_all rfl) (by rfl) T.all (by decide +kernel) (pa_cons (pe_lc (own := [("letter", 1)]) (g := gName 1) (tt := tYes) rfl scWo.nd (pi_str (pv 0)) (blkOk_by (N := ["value", "letter"]) (sc := defScope sWo) (by decide +kernel)) (fun _ _ _ _ _ => pg_name (i := 1) scWo.nd rfl (.inl rfl)) (fun _ _ _ _ _ => pts_nil)
        (fun _ _ _ _ _ => pe_chain op_le_str op_le_str pe_str (pv 1) pe_str)) pa_nil)))), ?_⟩
    obtain ⟨w1, w2, w3, _⟩ := L5_of mem
    have wz : x.cps.size ≤ 8 := w2
    refine ⟨_, rfl, .str x, .ty "str", _, _, true, rfl, .ty _, .base (.str _), kit_ty (by decide +kernel), _, rfl, iteF ?_⟩
    refine ⟨_, rfl, _, rfl, by rw [sizeLine_eq]; omega, _, _, rfl, rfl, _, rfl, ifT (decide_eq_true (by show (1 : Int) ≤ (x.length : Nat); omega)) ⟨_, _, rfl, rfl, _, rfl, ifF (by rw [decide_eq_true (by show ((x.length : Nat) : Int) ≤ 8; omega)]; rfl) ?_⟩⟩
    refine ⟨_, rfl, _, rfl, fun D nD => ?_⟩
    refine lc_it walk_str (fun i H' => H' D = some (.lst ((List.replicate i true).map V.bl)) ∧ Same H H' ∧ i ≤ x.cps.size) ⟨upd_same, same_upd nD, Nat.zero_le _⟩ (fun _ _ _ _ => trivial) ?_ ?_
    · rintro i y H' H2 hi ⟨eD, sm, il⟩ ⟨rfl, c, hc, rfl⟩
      have cm : c = 97 ∨ c = 98 ∨ c = 99 := w3 c (List.mem_of_getElem? (by rw [Array.getElem?_toList]; exact hc))
      have e1 : (!decide ((⟨#[c]⟩ : Str).cps.toList < ("a" : Str).cps.toList)) = true := by rcases cm with rfl | rfl | rfl <;> decide +kernel
      have e2 : (!decide (("z" : Str).cps.toList < (⟨#[c]⟩ : Str).cps.toList)) = true := by rcases cm with rfl | rfl | rfl <;> decide +kernel
      refine ⟨rfl, yes_of ?_⟩
      refine ⟨_, rfl, _, _, rfl, rfl, _, rfl, ifT e1 ⟨_, _, rfl, rfl, _, eD, by rw [List.length_map, List.length_replicate, sizeLine_eq]; omega, ?_, fun b o e => by rw [upd_ne (ne_of_none e nD)]; exact sm b o e, by omega⟩⟩
      rw [upd_same, e2]
      have z : (List.replicate (i + 1) true).map V.bl = (List.replicate i true).map V.bl ++ [V.bl true] := by
        rw [List.replicate_succ', List.map_append]
        rfl
      rw [z]
    rintro H' ⟨eD, sm, _⟩
    refine ⟨D, _, rfl, SqL.of eD, ?_⟩
    have z : (List.replicate x.cps.size true).all id = true := by
      rw [List.all_eq_true]
      intro b hb
      rw [List.eq_of_mem_replicate hb]
      rfl
    show Q (V.bl ((List.replicate x.cps.size true).all id)) H'
    rw [z]
    exact k _ sm
theorem ok_Ho {f : Addr} {fd : FuncData} {fNu : Addr} {fdNu : FuncData} (F : Fun K "is_house" "is_house" sHo f fd) (T : Bt mg) (CNu : Cal K mg "is_number" fNu fdNu ["value", "least", "greatest"]) (GNu : FnOk P w K mg base CX0 1 fNu fdNu ["value", "least", "greatest"] spNu) : FnOk P w K mg base CX0 2 f fd ["value"] spHo := by
  refine F.ok scHo (fun vs H Q E h => ?_) (fun cdv A outer s H vs Q E hr h => ?_)
  · obtain ⟨v, rfl, h0, h1, k⟩ := h
    rfl
  · obtain ⟨v, rfl, h0, h1, k⟩ := h
    have hr1 : Room 1 (A.deeper (envOfC "is_house" (defScope sHo) s.heap.objs.size f cdv)) := Room.mono hr (by decide)
    obtain ⟨t7, e7⟩ := T.h7
    refine ⟨_, pss_one (ps_ret (pe_call GNu hr1 (by rfl) CNu.g CNu.k CNu.b .nil pass0 (pa_cons (pv 0) (pa_cons pe_int (pa_cons (pe_glob (v := V.int 7) (by rfl) e7 ⟨_, rfl⟩) pa_nil))))), ?_⟩
    exact ⟨_, rfl, v, _, _, rfl, h0, h1, k⟩
theorem ok_Hp {f : Addr} {fd : FuncData} {fPa : Addr} {fdPa : FuncData} {fHo : Addr} {fdHo : FuncData} (F : Fun K "is_house_pair" "is_house_pair" sHp f fd) (T : Bt mg) (CPa : Cal K mg "is_pair" fPa fdPa ["value"]) (GPa : FnOk P w K mg base CX0 2 fPa fdPa ["value"] (spPa K)) (CHo : Cal K mg "is_house" fHo fdHo ["value"]) (GHo : FnOk P w K mg base CX0 2 fHo fdHo ["value"] spHo) : FnOk P w K mg base CX0 3 f fd ["value"] (spHp K) := by
  refine F.ok scHp (fun vs H Q E h => ?_) (fun cdv A outer s H vs Q E hr h => ?_)
  · obtain ⟨p, x, y, rfl, ep, x0, x1, y0, y1, k⟩ := h
    rfl
  · obtain ⟨p, x, y, rfl, ep, x0, x1, y0, y1, k⟩ := h
    have hr2 : Room 2 (A.deeper (envOfC "is_house_pair" (defScope sHp) s.heap.objs.size f cdv)) := Room.mono hr (by decide)
    refine ⟨_, pss_one (ps_ret (pe_and (pe_call GPa hr2 (by rfl) CPa.g CPa.k CPa.b .nil pass0 (pa_cons (pv 0) pa_nil)) (pe_and (pe_call GHo hr2 (by rfl) CHo.g CHo.k CHo.b .nil pass0 (pa_cons (pe_ix ix_tup (pv 0) pe_int (fun _ _ => rfl)) pa_nil)) (pe_one (pe_call GHo hr2 (by rfl) CHo.g CHo.k CHo.b .nil pass0 (pa_cons (pe_ix ix_tup (pv 0) pe_int (fun _ _ => rfl)) pa_nil)))))), ?_⟩
    refine ⟨_, rfl, p, _, _, rfl, ep, _, rfl, iteT ?_⟩
    refine ⟨_, rfl, p, _, _, _, rfl, rfl, ep, (show atI [V.int x, V.int y] 0 = some (V.int x) from rfl), x, rfl, x0, x1, _, rfl, iteT ?_⟩
    exact ⟨_, rfl, p, _, _, _, rfl, rfl, ep, (show atI [V.int x, V.int y] 1 = some (V.int y) from rfl), y, rfl, y0, y1, k⟩
theorem ok_La {f : Addr} {fd : FuncData} {fWo : Addr} {fdWo : FuncData} (F : Fun K "can_be_label" "can_be_label" sLa f fd) (T : Bt mg) (CWo : Cal K mg "is_word" fWo fdWo ["value"]) (GWo : FnOk P w K mg base CX0 1 fWo fdWo ["value"] spWo) : FnOk P w K mg base CX0 2 f fd ["value"] spWo := by
  refine F.ok scLa (fun vs H Q E h => ?_) (fun cdv A outer s H vs Q E hr h => ?_)
  · obtain ⟨x, rfl, mem, k⟩ := h
    rfl
  · obtain ⟨x, rfl, mem, k⟩ := h
    have hr1 : Room 1 (A.deeper (envOfC "can_be_label" (defScope sLa) s.heap.objs.size f cdv)) := Room.mono hr (by decide)
    refine ⟨_, pss_one (ps_ret (pe_and (pe_call GWo hr1 (by rfl) CWo.g CWo.k CWo.b .nil pass0 (pa_cons (pv 0) pa_nil)) (pe_one (pe_cmpR op_notIn_seq (pv 0) (pe_tup (pa_cons pe_str (pa_cons pe_str pa_nil))) (by rfl))))), ?_⟩
    obtain ⟨_, _, _, n1, n2, _⟩ := L5_of mem
    refine ⟨_, rfl, x, rfl, mem, fun H1 s1 => ⟨_, rfl, iteT ?_⟩⟩
    refine ⟨_, rfl, by show 2 ≤ sizeLine; rw [sizeLine_eq]; decide, fun t nt => ?_⟩
    refine ⟨t, _, rfl, .inr (SqT.of upd_same), rfl, rfl, ?_⟩
    have z : (if true then !inV (V.str x) [V.str "any", V.str "all"] else inV (V.str x) [V.str "any", V.str "all"]) = true := by
      have e := inV_strs x ["any", "all"]
      show (!inV (V.str x) ((["any", "all"] : List Str).map V.str)) = true
      rw [e, decide_eq_false (by simp [n1, n2])]
      rfl
    rw [z]
    exact k _ (s1.trans (same_upd nt))
theorem ok_Rd {f : Addr} {fd : FuncData} {fNu : Addr} {fdNu : FuncData} (F : Fun K "is_road" "is_road" sRd f fd) (T : Bt mg) (CNu : Cal K mg "is_number" fNu fdNu ["value", "least", "greatest"]) (GNu : FnOk P w K mg base CX0 1 fNu fdNu ["value", "least", "greatest"] spNu) : FnOk P w K mg base CX0 2 f fd ["roads", "value"] (spRd K) := by
  refine F.ok scRd (fun vs H Q E h => ?_) (fun cdv A outer s H vs Q E hr h => ?_)
  · obtain ⟨r, xs, v, rfl, er, h0, h1, k⟩ := h
    rfl
  · obtain ⟨r, xs, v, rfl, er, h0, h1, k⟩ := h
    have hr1 : Room 1 (A.deeper (envOfC "is_road" (defScope sRd) s.heap.objs.size f cdv)) := Room.mono hr (by decide)
    refine ⟨_, pss_one (ps_ret (pe_call GNu hr1 (by rfl) CNu.g CNu.k CNu.b .nil pass0 (pa_cons (pv 1) (pa_cons pe_int (pa_cons (pe_op op_sub (pe_callB call_len_seq (by rfl) T.len PySem.boot_len (pa_cons (pv 0) pa_nil)) pe_int) pa_nil))))), ?_⟩
    exact ⟨_, rfl, _, rfl, r, _, rfl, .inr er, _, _, rfl, rfl, v, _, _, rfl, h0, by omega, k⟩
theorem ok_Lb {f : Addr} {fd : FuncData} (F : Fun K "is_label" "is_label" sLb f fd) (T : Bt mg) : FnOk P w K mg base CX0 1 f fd ["labels", "value"] (spLb K) := by
  refine F.ok scLb (fun vs H Q E h => ?_) (fun cdv A outer s H vs Q E hr h => ?_)
  · obtain ⟨l, ls, x, rfl, el, h⟩ := h
    rfl
  · obtain ⟨l, ls, x, rfl, el, h⟩ := h
    refine ⟨_, pss_one (ps_ret (pe_and (pe_callB call_isi (by rfl) T.isi (by decide +kernel) (pa_cons (pv 1) (pa_cons (pe_bltn (v := V.ty "str") (by rfl) T.str (by decide +kernel) rfl) pa_nil))) (pe_one (pe_cmpR op_in_seq (pv 1) (pv 0) (by rfl))))), ?_⟩
    rcases h with ⟨y, rfl, k⟩ | ⟨⟨i, rfl⟩ | ⟨p, xs, rfl, ep⟩, k⟩
    · refine ⟨_, rfl, .str y, .ty "str", _, _, true, rfl, .ty _, .base (.str _), kit_ty (by decide +kernel), _, rfl, iteT ?_⟩
      refine ⟨_, rfl, _, rfl, l, _, rfl, .inr el, rfl, flat_strs ls, ?_⟩
      show Q (.bl (inV (V.str y) (ls.map V.str))) H
      rw [inV_strs]
      exact k
    · exact ⟨_, rfl, .int i, .ty "str", _, _, false, rfl, .ty _, .base (.int _), kit_ty (by decide +kernel), _, rfl, iteF k⟩
    · exact ⟨_, rfl, .ref p, .ty "str", _, _, false, rfl, .ty _, ty_tup ep, kit_ty (by decide +kernel), _, rfl, iteF k⟩
end
end Lr


namespace Lr
open PySem PySem.Spec PyProof.Rows L2

theorem take_bl {fl : List Bool} {i : Nat} {b : Bool} (h : fl[i]? = some b) : (fl.take (i + 1)).map V.bl = (fl.take i).map V.bl ++ [V.bl b] := by
  rw [List.take_succ, h, List.map_append]
  rfl
def kCh (c : Chc) : NestedKey := .tup [.num c.1, .tup (c.2.map .text)]
theorem datas_text : ∀ w : List Str, NestedKey.datas (w.map .text) = w.map PyData.str
  | [] => rfl
  | x :: w => by
    show NestedKey.data (.text x) :: NestedKey.datas (w.map .text) = _
    rw [datas_text w]
    rfl
theorem kCh_data (c : Chc) : (kCh c).data = dCh c := by
  show PyData.tuple [.int c.1, .tuple (NestedKey.datas (c.2.map .text))] = _
  rw [datas_text]
  rfl
theorem depth_text : ∀ w : List Str, NestedKey.depthAll (w.map .text) = 0
  | [] => rfl
  | x :: w => by
    show max (NestedKey.depth (.text x)) (NestedKey.depthAll (w.map .text)) = 0
    rw [depth_text w]
    rfl
theorem kCh_depth (c : Chc) : (kCh c).depth ≤ 8 := by
  show max (NestedKey.depth (.num c.1)) (max (NestedKey.depthAll (c.2.map .text) + 1) 0) + 1 ≤ 8
  rw [depth_text]
  show max 0 1 + 1 ≤ 8
  decide
theorem kCh_inj {a b : Chc} (h : kCh a = kCh b) : a = b := by
  obtain ⟨i, x⟩ := a
  obtain ⟨j, y⟩ := b
  injection h with h
  injection h with h1 h2
  injection h1 with h1
  injection h2 with h2
  injection h2 with h2
  have inj : ∀ (u v : List Str), u.map NestedKey.text = v.map NestedKey.text → u = v := by
    intro u
    induction u with
    | nil =>
      intro v e
      cases v with
      | nil => rfl
      | cons b v => cases e
    | cons a u ih =>
      intro v e
      cases v with
      | nil => cases e
      | cons b v =>
        rw [List.map_cons, List.map_cons] at e
        injection e with e1 e2
        injection e1 with e1
        rw [e1, ih v e2]
  have h3 : x = y := inj _ _ h2
  have h4 : i = j := h1
  rw [h3, h4]
/-- the parts of a tuple of data: each an object of its own where all are tuples -/
theorem refs_of {K : PySem.W.Frag} {H : Hp} {α : Type} (f : α → PyData) (tup : ∀ a, ∃ ds, f a = .tuple ds) : ∀ {xs : List V} {as : List α}, DpAll K H xs (as.map f) → ∃ ps : List Addr, xs = ps.map V.ref ∧ Paired (fun p a => Dp K H (.ref p) (f a)) ps as
  | _, [], h => by
    cases h
    exact ⟨[], rfl, .nil⟩
  | _, a :: as, h => by
    cases h with
    | cons h1 h2 =>
      obtain ⟨ps, e, pr⟩ := refs_of f tup h2
      obtain ⟨ds, ed⟩ := tup a
      rw [ed] at h1
      obtain ⟨p, xs, rfl, hs, ha⟩ := dp_of_tup h1
      exact ⟨p :: ps, by rw [e]; rfl, .cons (by rw [ed]; exact .tup hs ha) pr⟩
theorem paired_at {α β : Type} {R : α → β → Prop} : ∀ {as : List α} {bs : List β}, Paired R as bs → ∀ (i : Nat) (b : β), bs[i]? = some b → ∃ a, as[i]? = some a ∧ R a b
  | _, _, .nil, i, b, h => by simp at h
  | _, _, .cons x t, 0, b, h => by
    cases Option.some.inj h
    exact ⟨_, rfl, x⟩
  | _, _, .cons x t, i + 1, b, h => paired_at t i b h
def zipK : List Addr → List Chc → List (NestedKey × Addr)
  | p :: ps, c :: cs => (kCh c, p) :: zipK ps cs
  | _, _ => []
theorem zipK_spec {K : PySem.W.Frag} {H : Hp} : ∀ {ps : List Addr} {cs : List Chc}, Paired (fun p c => Dp K H (.ref p) (dCh c)) ps cs →
    (zipK ps cs).map (fun q => V.ref q.2) = ps.map V.ref ∧ (zipK ps cs).map (·.1) = cs.map kCh ∧ (∀ q ∈ zipK ps cs, Dp K H (.ref q.2) q.1.data ∧ q.1.depth ≤ 8) ∧ (zipK ps cs).length = cs.length
  | _, _, .nil => ⟨rfl, rfl, (fun q hq => nomatch hq), rfl⟩
  | p :: ps, c :: cs, .cons x t => by
    obtain ⟨h1, h2, h3, h4⟩ := zipK_spec t
    refine ⟨?_, ?_, fun q hq => ?_, ?_⟩
    · show V.ref p :: (zipK ps cs).map (fun q => V.ref q.2) = _
      rw [h1]
      rfl
    · show kCh c :: (zipK ps cs).map (·.1) = _
      rw [h2]
      rfl
    · cases hq with
      | head =>
        refine ⟨?_, kCh_depth c⟩
        show Dp K H (.ref p) (kCh c).data
        rw [kCh_data]
        exact x
      | tail _ hq => exact h3 q hq
    · show (zipK ps cs).length + 1 = _
      rw [h4]
      rfl
/-- a label's list by its data -/
def LbAt (K : PySem.W.Frag) (H : Hp) (l : Addr) (ls : List Str) : Prop := SqT K H l (ls.map V.str)
/-- the roads at r -/
def RdAt (K : PySem.W.Frag) (H : Hp) (r : Addr) (rd : List (Int × Int)) : Prop := Dp K H (.ref r) (.tuple (rd.map dPr))
theorem RdAt.tk {K : PySem.W.Frag} {H H' : Hp} {r : Addr} {rd : List (Int × Int)} (h : RdAt K H r rd) (t : Tk H H') : RdAt K H' r rd := dp_tk t _ _ (flat_map _ flat_pr rd) h
theorem RdAt.sq {K : PySem.W.Frag} {H : Hp} {r : Addr} {rd : List (Int × Int)} (h : RdAt K H r rd) : ∃ ps : List Addr, SqT K H r (ps.map V.ref) ∧ ps.length = rd.length ∧ Paired (fun p a => SqT K H p [.int a.1, .int a.2]) ps rd := by
  obtain ⟨p, xs, e, hs, ha⟩ := dp_of_tup h
  cases e
  obtain ⟨ps, rfl, pr⟩ := refs_of dPr (fun a => ⟨_, rfl⟩) ha
  refine ⟨ps, hs, paired_len pr, paired_mono (fun p a x => ?_) pr⟩
  obtain ⟨q, ys, eq, hq, hy⟩ := dp_of_tup x
  cases eq
  cases hy with
  | cons y1 hy =>
    cases hy with
    | cons y2 hy =>
      cases hy
      cases y1
      cases y2
      exact hq
def spLs (K : PySem.W.Frag) : Sp := fun vs H Q _ => ∃ (l : Addr) (ls : List Str) (x : V) (most : Int), vs = [.ref l, x, .int most] ∧ LbAt K H l ls ∧ 1 ≤ most ∧
  ((∃ (p : Addr) (ws : List Str), x = .ref p ∧ SqT K H p (ws.map V.str) ∧ ws.length ≤ 10000 ∧ ∀ H', Same H H' → Q (.bl (decide (((ws.length : Nat) : Int) ≤ most) && ws.all fun y => decide (y ∈ ls))) H') ∨
   (∃ (p : Addr) (i : Int), x = .ref p ∧ SqT K H p [.int i] ∧ ∀ H', Same H H' → Q (.bl false) H') ∨ (NotTup K H x ∧ ∀ H', Same H H' → Q (.bl false) H'))
def spSg (K : PySem.W.Frag) : Sp := fun vs H Q _ => ∃ (l : Addr) (ls : List Str) (y : Str), vs = [.ref l, .str y] ∧ LbAt K H l ls ∧ (y = "" ∨ y ∈ ls) ∧ Q (.bl true) H
def spHd (K : PySem.W.Frag) : Sp := fun vs H Q _ => ∃ (r l h : Addr) (xs : List V) (ls : List Str) (i : Int) (y : Str), vs = [.ref r, .ref l, .ref h] ∧ SqT K H r xs ∧ LbAt K H l ls ∧ SqT K H h [.int i, .str y] ∧ 0 ≤ i ∧ i < (xs.length : Nat) ∧ (y = "" ∨ y ∈ ls) ∧ Q (.bl true) H
def spCh (K : PySem.W.Frag) : Sp := fun vs H Q _ => ∃ (r l : Addr) (road : Int) (x : V) (rd : List (Int × Int)) (ls : List Str) (c : Chc), vs = [.ref r, .ref l, .int road, x] ∧ RdAt K H r rd ∧ LbAt K H l ls ∧ 0 ≤ road ∧ road < (rd.length : Nat) ∧ Dp K H x (dCh c) ∧ ChOk rd ls road c ∧ ∀ H', Same H H' → Q (.bl true) H'
def spGr (K : PySem.W.Frag) : Sp := fun vs H Q _ => ∃ (r l : Addr) (road : Int) (x : V) (rd : List (Int × Int)) (ls : List Str) (g : Gr), vs = [.ref r, .ref l, .int road, x] ∧ RdAt K H r rd ∧ LbAt K H l ls ∧ 0 ≤ road ∧ road < (rd.length : Nat) ∧ Dp K H x (dGr g) ∧ GrOk rd ls road g ∧ ∀ H', Same H H' → Q (.bl true) H'
def spGs (K : PySem.W.Frag) : Sp := fun vs H Q _ => ∃ (r l : Addr) (road : Int) (x : V) (rd : List (Int × Int)) (ls : List Str) (g : Gs), vs = [.ref r, .ref l, .int road, x] ∧ RdAt K H r rd ∧ LbAt K H l ls ∧ 0 ≤ road ∧ road < (rd.length : Nat) ∧ Dp K H x (dGs g) ∧ GsOk rd ls road g ∧ ∀ H', Same H H' → Q (.bl true) H'
def spRw (K : PySem.W.Frag) : Sp := fun vs H Q _ => ∃ (r l : Addr) (x : V) (rd : List (Int × Int)) (ls : List Str) (g : Rwt), vs = [.ref r, .ref l, x] ∧ RdAt K H r rd ∧ LbAt K H l ls ∧ Dp K H x (dRw g) ∧ RwOk rd ls g ∧ ∀ H', Same H H' → Q (.bl true) H'
def spSh (K : PySem.W.Frag) : Sp := fun vs H Q _ => ∃ (l : Addr) (ls : List Str) (x : V), vs = [.ref l, x] ∧ LbAt K H l ls ∧ ls.length ≤ 100 ∧
  ((∃ (p : Addr) (ws : List Str), x = .ref p ∧ SqT K H p (ws.map V.str) ∧ ∀ H', Same H H' → Q (.bl (decide (ws.length ≤ 6) && ws.all fun y => decide (y ∈ (("any" :: "all" :: ls) : List Str)))) H') ∨
   (∃ (p : Addr) (z : V), x = .ref p ∧ SqT K H p [z] ∧ ((∃ i : Int, z = .int i) ∨ ∃ p xs, z = .ref p ∧ SqT K H p xs) ∧ ∀ H', Same H H' → Q (.bl false) H') ∨ (NotTup K H x ∧ ∀ H', Same H H' → Q (.bl false) H'))
end Lr


namespace Lr
open PySem PySem.Spec PyProof.Rows L2

section
variable {P : Program} {w : World} {K : PySem.W.Frag} {mg : Str → Option Value} {base : Heap}
theorem scLs : FnScope ["labels", "value", "most", "label"] ["labels", "value", "most"] (defScope sLs) := ⟨rfl, rfl, rfl, by decide +kernel, rfl, by decide +kernel, by decide +kernel⟩
theorem scSg : FnScope ["labels", "value"] ["labels", "value"] (defScope sSg) := ⟨rfl, rfl, rfl, by decide +kernel, rfl, by decide +kernel, by decide +kernel⟩
theorem scHd : FnScope ["roads", "labels", "value"] ["roads", "labels", "value"] (defScope sHd) := ⟨rfl, rfl, rfl, by decide +kernel, rfl, by decide +kernel, by decide +kernel⟩
theorem scCh : FnScope ["roads", "labels", "road", "value", "out", "word"] ["roads", "labels", "road", "value"] (defScope sCh) := ⟨rfl, rfl, rfl, by decide +kernel, rfl, by decide +kernel, by decide +kernel⟩
theorem ok_Ls {f : Addr} {fd : FuncData} {fTu : Addr} {fdTu : FuncData} {fLb : Addr} {fdLb : FuncData} (F : Fun K "is_labels" "is_labels" sLs f fd) (T : Bt mg) (CTu : Cal K mg "is_tuple" fTu fdTu ["value", "least", "greatest"]) (GTu : FnOk P w K mg base CX0 1 fTu fdTu ["value", "least", "greatest"] (spTu K)) (CLb : Cal K mg "is_label" fLb fdLb ["labels", "value"]) (GLb : FnOk P w K mg base CX0 1 fLb fdLb ["labels", "value"] (spLb K)) : FnOk P w K mg base CX0 2 f fd ["labels", "value", "most"] (spLs K) := by
  refine F.ok scLs (fun vs H Q E h => ?_) (fun cdv A outer s H vs Q E hr h => ?_)
  · obtain ⟨l, ls, x, most, rfl, el, m1, h⟩ := h
    rfl
  · obtain ⟨l, ls, x, most, rfl, el, m1, h⟩ := h
    have hr1 : Room 1 (A.deeper (envOfC "is_labels" (defScope sLs) s.heap.objs.size f cdv)) := Room.mono hr (by decide)
    refine ⟨_, pss_one (ps_ret (pe_and (pe_call GTu hr1 (by rfl) CTu.g CTu.k CTu.b .nil pass0 (pa_cons (pv 1) (pa_cons pe_int (pa_cons (pv 2) pa_nil)))) (pe_one (pe_callB (cr_all rfl) (by rfl) T.all (by decide +kernel) (pa_cons (pe_lc (own := [("label", 3)]) (g := gName 3) (tt := tYes) rfl scLs.nd (pi_tup (pv 1)) (blkOk_by (N := ["labels", "value", "most", "label"]) (sc := defScope sLs) (by decide +kernel)) (fun _ _ _ _ _ => pg_name (i := 3) scLs.nd rfl (.inl rfl)) (fun _ _ _ _ _ => pts_nil)
        (fun _ _ _ _ _ => (pe_call GLb hr1 (by rfl) CLb.g CLb.k CLb.b .nil pass0 (pa_cons (pv 0) (pa_cons (pv 3) pa_nil))))) pa_nil))))), ?_⟩
    have items : (∃ (p : Addr) (xs : List V) (fl : List Bool), x = .ref p ∧ SqT K H p xs ∧ xs.length = fl.length ∧ fl.length ≤ 10000 ∧ (∀ (i : Nat) (z : V), xs[i]? = some z → ∃ b, fl[i]? = some b ∧ ((∃ y, z = .str y ∧ b = decide (y ∈ ls)) ∨ (∃ j : Int, z = .int j) ∧ b = false)) ∧
        ∀ H', Same H H' → Q (.bl (decide (((xs.length : Nat) : Int) ≤ most) && fl.all id)) H') ∨ (NotTup K H x ∧ ∀ H', Same H H' → Q (.bl false) H') := by
      rcases h with ⟨p, ws, rfl, ep, small, k⟩ | ⟨p, i, rfl, ep, k⟩ | ⟨nt, k⟩
      · refine .inl ⟨p, _, ws.map fun y => decide (y ∈ ls), rfl, ep, by simp, by simpa using small, fun i z hz => ?_, fun H' sm => ?_⟩
        · rw [List.getElem?_map, Option.map_eq_some_iff] at hz
          obtain ⟨y, hy, rfl⟩ := hz
          exact ⟨decide (y ∈ ls), by rw [List.getElem?_map, hy]; rfl, .inl ⟨y, rfl, rfl⟩⟩
        · have z := k H' sm
          rw [List.length_map, List.all_map]
          exact z
      · refine .inl ⟨p, _, [false], rfl, ep, rfl, by decide, fun i z hz => ?_, fun H' sm => ?_⟩
        · match i, hz with
          | 0, hz =>
            cases Option.some.inj hz
            exact ⟨false, rfl, .inr ⟨⟨_, rfl⟩, rfl⟩⟩
          | i + 1, hz => simp at hz
        · have z := k H' sm
          show Q (.bl (decide (((1 : Nat) : Int) ≤ most) && false)) H'
          rw [Bool.and_false]
          exact z
      · exact .inr ⟨nt, k⟩
    rcases items with ⟨p, xs, fl, rfl, ep, len, small, ans, k⟩ | ⟨nt, k⟩
    · refine ⟨_, rfl, _, rfl, .ref p, _, _, rfl, .inl ⟨p, xs, rfl, ep, by show (0 : Int) ≤ _; omega, _, rfl, ?_⟩⟩
      refine ite2 (fun big => ?_) (fun big => ?_)
      · refine ⟨_, rfl, p, rfl, ⟨_, ep⟩, fun D nD => ?_⟩
        refine lc_tup (K := K) (a := p) (xs := xs) (fun i H' => H' D = some (.lst ((fl.take i).map V.bl)) ∧ Same H H') ⟨upd_same, same_upd nD⟩ (fun i H' _ ⟨_, sm⟩ => (Tk.of sm).seq ep) ?_ ?_
        · rintro i z H' hi ⟨eD, sm⟩
          obtain ⟨b, hb, an⟩ := ans i z hi
          have done : ∃ acc, H' D = some (.lst acc) ∧ acc.length < sizeLine ∧ (upd H' D (.lst (acc ++ [V.bl b]))) D = some (.lst ((fl.take (i + 1)).map V.bl)) ∧ Same H (upd H' D (.lst (acc ++ [V.bl b]))) := by
            refine ⟨_, eD, ?_, ?_, fun c o e => by rw [upd_ne (ne_of_none e nD)]; exact sm c o e⟩
            · rw [List.length_map, List.length_take, sizeLine_eq]
              omega
            · rw [upd_same, take_bl hb]
          refine ⟨rfl, yes_of ?_⟩
          refine ⟨_, rfl, _, rfl, l, ls, z, rfl, (Tk.of sm).seq el, ?_⟩
          rcases an with ⟨y, rfl, rfl⟩ | ⟨⟨j, rfl⟩, rfl⟩
          · exact .inl ⟨y, rfl, done⟩
          · exact .inr ⟨.inl ⟨j, rfl⟩, done⟩
        rintro H' ⟨eD, sm⟩
        rw [len, List.take_length] at eD
        refine ⟨D, fl, rfl, SqL.of eD, ?_⟩
        have z := k H' sm
        rw [big, Bool.true_and] at z
        exact z
      · have z := k H (Same.refl H)
        rw [Bool.eq_false_iff.mpr big, Bool.false_and] at z
        exact z
    · refine ⟨_, rfl, _, rfl, x, _, _, rfl, .inr ⟨nt, _, rfl, iteF ?_⟩⟩
      exact k H (Same.refl H)
theorem ok_Sg {f : Addr} {fd : FuncData} (F : Fun K "is_sign" "is_sign" sSg f fd) (T : Bt mg) : FnOk P w K mg base CX0 1 f fd ["labels", "value"] (spSg K) := by
  refine F.ok scSg (fun vs H Q E h => ?_) (fun cdv A outer s H vs Q E hr h => ?_)
  · obtain ⟨l, ls, y, rfl, el, ok, k⟩ := h
    rfl
  · obtain ⟨l, ls, y, rfl, el, ok, k⟩ := h
    refine ⟨_, pss_one (ps_ret (pe_and (pe_callB call_isi (by rfl) T.isi (by decide +kernel) (pa_cons (pv 1) (pa_cons (pe_bltn (v := V.ty "str") (by rfl) T.str (by decide +kernel) rfl) pa_nil))) (pe_one (pe_or (pe_cmpR op_eq (pv 1) pe_str (nomark _)) (pe_one (pe_cmpR op_in_seq (pv 1) (pv 0) (by rfl))))))), ?_⟩
    refine ⟨_, rfl, .str y, .ty "str", _, _, true, rfl, .ty _, .base (.str _), kit_ty (by decide +kernel), _, rfl, iteT ?_⟩
    refine ⟨_, rfl, rfl, _, rfl, ?_⟩
    by_cases e : y = ""
    · subst e
      exact ifT (decide_eq_true rfl) k
    · refine ifF (decide_eq_false (fun z => e (by injection z))) ?_
      refine ⟨_, rfl, _, rfl, l, _, rfl, .inr el, rfl, flat_strs ls, ?_⟩
      show Q (.bl (inV (V.str y) (ls.map V.str))) H
      rw [inV_strs, decide_eq_true (ok.resolve_left e)]
      exact k
theorem ok_Hd {f : Addr} {fd : FuncData} {fPa : Addr} {fdPa : FuncData} {fRd : Addr} {fdRd : FuncData} {fSg : Addr} {fdSg : FuncData} (F : Fun K "is_head" "is_head" sHd f fd) (T : Bt mg) (CPa : Cal K mg "is_pair" fPa fdPa ["value"]) (GPa : FnOk P w K mg base CX0 2 fPa fdPa ["value"] (spPa K)) (CRd : Cal K mg "is_road" fRd fdRd ["roads", "value"]) (GRd : FnOk P w K mg base CX0 2 fRd fdRd ["roads", "value"] (spRd K)) (CSg : Cal K mg "is_sign" fSg fdSg ["labels", "value"]) (GSg : FnOk P w K mg base CX0 1 fSg fdSg ["labels", "value"] (spSg K)) : FnOk P w K mg base CX0 3 f fd ["roads", "labels", "value"] (spHd K) := by
  refine F.ok scHd (fun vs H Q E h => ?_) (fun cdv A outer s H vs Q E hr h => ?_)
  · obtain ⟨r, l, h, xs, ls, i, y, rfl, er, el, eh, i0, i1, ok, k⟩ := h
    rfl
  · obtain ⟨r, l, h, xs, ls, i, y, rfl, er, el, eh, i0, i1, ok, k⟩ := h
    have hr1 : Room 1 (A.deeper (envOfC "is_head" (defScope sHd) s.heap.objs.size f cdv)) := Room.mono hr (by decide)
    have hr2 : Room 2 (A.deeper (envOfC "is_head" (defScope sHd) s.heap.objs.size f cdv)) := Room.mono hr (by decide)
    refine ⟨_, pss_one (ps_ret (pe_and (pe_call GPa hr2 (by rfl) CPa.g CPa.k CPa.b .nil pass0 (pa_cons (pv 2) pa_nil)) (pe_and (pe_call GRd hr2 (by rfl) CRd.g CRd.k CRd.b .nil pass0 (pa_cons (pv 0) (pa_cons (pe_ix ix_tup (pv 2) pe_int (fun _ _ => rfl)) pa_nil))) (pe_one (pe_call GSg hr1 (by rfl) CSg.g CSg.k CSg.b .nil pass0 (pa_cons (pv 1) (pa_cons (pe_ix ix_tup (pv 2) pe_int (fun _ _ => rfl)) pa_nil))))))), ?_⟩
    refine ⟨_, rfl, h, _, _, rfl, eh, _, rfl, iteT ?_⟩
    refine ⟨_, rfl, _, rfl, h, _, _, _, rfl, rfl, eh, (show atI [V.int i, V.str y] 0 = some (V.int i) from rfl), r, xs, i, rfl, er, i0, i1, _, rfl, iteT ?_⟩
    exact ⟨_, rfl, _, rfl, h, _, _, _, rfl, rfl, eh, (show atI [V.int i, V.str y] 1 = some (V.str y) from rfl), l, ls, y, rfl, el, ok, k⟩
theorem ok_Ch {f : Addr} {fd : FuncData} {fPa : Addr} {fdPa : FuncData} {fRd : Addr} {fdRd : FuncData} {fLs : Addr} {fdLs : FuncData} (F : Fun K "is_choice" "is_choice" sCh f fd) (T : Bt mg) (CPa : Cal K mg "is_pair" fPa fdPa ["value"]) (GPa : FnOk P w K mg base CX0 2 fPa fdPa ["value"] (spPa K)) (CRd : Cal K mg "is_road" fRd fdRd ["roads", "value"]) (GRd : FnOk P w K mg base CX0 2 fRd fdRd ["roads", "value"] (spRd K)) (CLs : Cal K mg "is_labels" fLs fdLs ["labels", "value", "most"]) (GLs : FnOk P w K mg base CX0 2 fLs fdLs ["labels", "value", "most"] (spLs K)) : FnOk P w K mg base CX0 3 f fd ["roads", "labels", "road", "value"] (spCh K) := by
  refine F.ok scCh (fun vs H Q E h => ?_) (fun cdv A outer s H vs Q E hr h => ?_)
  · obtain ⟨r, l, road, x, rd, ls, c, rfl, er, el, h0, h1, dc, ok, k⟩ := h
    rfl
  · obtain ⟨r, l, road, x, rd, ls, c, rfl, er, el, h0, h1, dc, ok, k⟩ := h
    have hr2 : Room 2 (A.deeper (envOfC "is_choice" (defScope sCh) s.heap.objs.size f cdv)) := Room.mono hr (by decide)
    obtain ⟨t3, e3⟩ := T.w3
    refine ⟨_, pss_cons (ps_if (PW.pt (pw_or (pt_not (pt_val (pe_call GPa hr2 (by rfl) CPa.g CPa.k CPa.b .nil pass0 (pa_cons (pv 3) pa_nil)))) (pw_or1 (pt_not (pt_val (pe_call GRd hr2 (by rfl) CRd.g CRd.k CRd.b .nil pass0 (pa_cons (pv 0) (pa_cons (pe_ix ix_tup (pv 3) pe_int (fun _ _ => rfl)) pa_nil)))))))) (pss_one (ps_ret pe_bl)) pss_nil)
      (pss_cons (ps_asg (pv 3) (pg_tup (by rfl) (pgs_cons (pg_name (i := 4) scCh.nd rfl (.inl rfl)) (pgs_cons (pg_name (i := 5) scCh.nd rfl (.inl rfl)) pgs_nil))))
      (pss_one (ps_ret (pe_and (pe_cmpR op_eq (pe_ix ix_tup (pe_ix ix_tup (pv 0) (pv 4) (fun _ _ => rfl)) pe_int (fun _ _ => rfl)) (pe_ix ix_tup (pe_ix ix_tup (pv 0) (pv 2) (fun _ _ => rfl)) pe_int (fun _ _ => rfl)) (nomark _)) (pe_one (pe_call GLs hr2 (by rfl) CLs.g CLs.k CLs.b .nil pass0 (pa_cons (pv 1) (pa_cons (pv 5) (pa_cons (pe_glob (v := V.int 3) (by rfl) e3 ⟨_, rfl⟩) pa_nil))))))))), ?_⟩
    obtain ⟨p, xs, rfl, ep, dx⟩ := dp_of_tup dc
    cases dx with
    | cons d1 dx =>
      cases dx with
      | cons d2 dx =>
        cases dx
        cases d1
        obtain ⟨q, ys, rfl, eq, dy⟩ := dp_of_tup d2
        have eys := strs_dp dy
        subst eys
        obtain ⟨i, word⟩ := c
        obtain ⟨c0, c1, c2, c3, c4⟩ := ok
        have c3 : word.length ≤ 3 := c3
        obtain ⟨ps, hr_, lp, pr⟩ := er.sq
        refine ⟨_, rfl, p, _, _, rfl, ep, _, rfl, iteF ?_⟩
        refine ⟨_, rfl, _, rfl, p, _, _, _, rfl, rfl, ep, (show atI [V.int i, V.ref q] 0 = some (V.int i) from rfl), r, _, i, rfl, hr_, c0, by rw [List.length_map, lp]; exact c1, _, rfl, iteF ?_⟩
        refine ⟨_, rfl, p, _, rfl, ep, rfl, _, _, rfl, _, _, rfl, rfl, ?_⟩
        have at1 : ∀ j : Int, 0 ≤ j → j < (rd.length : Nat) → ∃ a : Addr, atI (ps.map V.ref) j = some (V.ref a) ∧ SqT K H a [.int (rd.getD j.toNat (0, 0)).1, .int (rd.getD j.toNat (0, 0)).2] := fun j j0 j1 => by
          have jn : j.toNat < rd.length := by omega
          obtain ⟨a, ha, hs⟩ := paired_at pr j.toNat (rd.getD j.toNat (0, 0)) (by rw [List.getD_eq_getElem?_getD, List.getElem?_eq_getElem jn]; rfl)
          refine ⟨a, ?_, hs⟩
          have ej : j = ((j.toNat : Nat) : Int) := by omega
          rw [ej]
          exact atI_nat (by rw [List.getElem?_map, ha]; rfl)
        obtain ⟨a1, b1, s1⟩ := at1 i c0 c1
        obtain ⟨a2, b2, s2⟩ := at1 road h0 h1
        refine ⟨_, rfl, _, rfl, r, _, _, _, rfl, rfl, hr_, b1, a1, _, _, _, rfl, rfl, s1, (show atI [V.int (rd.getD i.toNat (0, 0)).1, V.int (rd.getD i.toNat (0, 0)).2] 0 = some (V.int (rd.getD i.toNat (0, 0)).1) from rfl), ?_⟩
        refine ⟨_, rfl, _, rfl, r, _, _, _, rfl, rfl, hr_, b2, a2, _, _, _, rfl, rfl, s2, (show atI [V.int (rd.getD road.toNat (0, 0)).1, V.int (rd.getD road.toNat (0, 0)).2] 1 = some (V.int (rd.getD road.toNat (0, 0)).2) from rfl), ?_⟩
        refine ⟨rfl, _, rfl, ifT (decide_eq_true (by rw [c2])) ?_⟩
        refine ⟨_, rfl, _, rfl, l, ls, _, 3, rfl, el, by decide, .inl ⟨q, word, rfl, eq, by omega, fun H' sm => ?_⟩⟩
        have z : (decide (((word.length : Nat) : Int) ≤ 3) && word.all fun y => decide (y ∈ ls)) = true := by
          rw [Bool.and_eq_true, decide_eq_true_eq, List.all_eq_true]
          exact ⟨by omega, fun y hy => decide_eq_true (c4 y hy)⟩
        rw [z]
        exact k H' sm
end
end Lr


namespace Lr
open PySem PySem.Spec PyProof.Rows L2

section
variable {P : Program} {w : World} {K : PySem.W.Frag} {mg : Str → Option Value} {base : Heap}
theorem scGr : FnScope ["roads", "labels", "road", "value", "choice"] ["roads", "labels", "road", "value"] (defScope sGr) := ⟨rfl, rfl, rfl, by decide +kernel, rfl, by decide +kernel, by decide +kernel⟩
theorem scGs : FnScope ["roads", "labels", "road", "value", "group"] ["roads", "labels", "road", "value"] (defScope sGs) := ⟨rfl, rfl, rfl, by decide +kernel, rfl, by decide +kernel, by decide +kernel⟩
theorem scRw : FnScope ["roads", "labels", "value"] ["roads", "labels", "value"] (defScope sRw) := ⟨rfl, rfl, rfl, by decide +kernel, rfl, by decide +kernel, by decide +kernel⟩
theorem ok_Gr {f : Addr} {fd : FuncData} {fTu : Addr} {fdTu : FuncData} {fCh : Addr} {fdCh : FuncData} (F : Fun K "is_group" "is_group" sGr f fd) (T : Bt mg) (CTu : Cal K mg "is_tuple" fTu fdTu ["value", "least", "greatest"]) (GTu : FnOk P w K mg base CX0 1 fTu fdTu ["value", "least", "greatest"] (spTu K)) (CCh : Cal K mg "is_choice" fCh fdCh ["roads", "labels", "road", "value"]) (GCh : FnOk P w K mg base CX0 3 fCh fdCh ["roads", "labels", "road", "value"] (spCh K)) : FnOk P w K mg base CX0 4 f fd ["roads", "labels", "road", "value"] (spGr K) := by
  refine F.ok scGr (fun vs H Q E h => ?_) (fun cdv A outer s H vs Q E hr h => ?_)
  · obtain ⟨r, l, road, x, rd, ls, g, rfl, er, el, h0, h1, dg, ok, k⟩ := h
    rfl
  · obtain ⟨r, l, road, x, rd, ls, g, rfl, er, el, h0, h1, dg, ok, k⟩ := h
    have hr1 : Room 1 (A.deeper (envOfC "is_group" (defScope sGr) s.heap.objs.size f cdv)) := Room.mono hr (by decide)
    have hr3 : Room 3 (A.deeper (envOfC "is_group" (defScope sGr) s.heap.objs.size f cdv)) := Room.mono hr (by decide)
    obtain ⟨t3, e3⟩ := T.c3
    have hu : (A.deeper (envOfC "is_group" (defScope sGr) s.heap.objs.size f cdv)).units + 20 < cLine := by
      have z := hr.un
      omega
    refine ⟨_, pss_cons (ps_if (pt_not (pt_val (pe_call GTu hr1 (by rfl) CTu.g CTu.k CTu.b .nil pass0 (pa_cons (pv 3) (pa_cons pe_int (pa_cons (pe_glob (v := V.int 3) (by rfl) e3 ⟨_, rfl⟩) pa_nil)))))) (pss_one (ps_ret pe_bl)) pss_nil)
      (pss_one (ps_ret (pe_and (pe_callB (cr_all rfl) (by rfl) T.all (by decide +kernel) (pa_cons (pe_lc (own := [("choice", 4)]) (g := gName 4) (tt := tYes) rfl scGr.nd (pi_tup (pv 3)) (blkOk_by (N := ["roads", "labels", "road", "value", "choice"]) (sc := defScope sGr) (by decide +kernel)) (fun _ _ _ _ _ => pg_name (i := 4) scGr.nd rfl (.inl rfl)) (fun _ _ _ _ _ => pts_nil)
        (fun _ _ _ _ _ => (pe_call GCh hr3 (by rfl) CCh.g CCh.k CCh.b .nil pass0 (pa_cons (pv 0) (pa_cons (pv 1) (pa_cons (pv 2) (pa_cons (pv 4) pa_nil))))))) pa_nil)) (pe_one (pe_cmpR op_eq (pe_lenNst rfl hu (by rfl) T.len (by rfl) T.set (pv 3)) (pe_callB call_len_seq (by rfl) T.len PySem.boot_len (pa_cons (pv 3) pa_nil)) (nomark _)))))), ?_⟩
    obtain ⟨p, xs, rfl, ep, dx⟩ := dp_of_tup dg
    obtain ⟨g1, g3, gc, gn⟩ := ok
    obtain ⟨ps, rfl, pr⟩ := refs_of dCh (fun a => ⟨_, rfl⟩) dx
    have lp := paired_len pr
    obtain ⟨z1, z2, z3, z4⟩ := zipK_spec pr
    refine ⟨_, rfl, .ref p, _, _, rfl, .inl ⟨p, _, rfl, ep, by rw [List.length_map]; show (1 : Int) ≤ _; omega, _, rfl, ?_⟩⟩
    rw [decide_eq_true (by rw [List.length_map]; show ((ps.length : Nat) : Int) ≤ 3; omega)]
    refine iteF ?_
    refine ⟨_, rfl, p, rfl, ⟨_, ep⟩, fun D nD => ?_⟩
    refine lc_tup (K := K) (a := p) (xs := ps.map V.ref) (fun i H' => H' D = some (.lst ((List.replicate i true).map V.bl)) ∧ Same H H' ∧ i ≤ 3) ⟨upd_same, same_upd nD, by decide⟩ (fun i H' _ ⟨_, sm, _⟩ => (Tk.of sm).seq ep) ?_ ?_
    · rintro i z H' hi ⟨eD, sm, i3⟩
      have il : i < (ps.map V.ref).length := (List.getElem?_eq_some_iff.mp hi).1
      rw [List.length_map] at il
      obtain ⟨d, hd, dz⟩ := dpAll_get dx i z hi
      rw [List.getElem?_map, Option.map_eq_some_iff] at hd
      obtain ⟨c, hc, rfl⟩ := hd
      refine ⟨rfl, yes_of ?_⟩
      refine ⟨_, rfl, _, rfl, _, rfl, _, rfl, r, l, road, z, rd, ls, c, rfl, er.tk (Tk.of sm), (Tk.of sm).seq el, h0, h1, dp_tk (Tk.of sm) _ _ (flat_ch c) dz, gc c (List.mem_of_getElem? hc), fun H2 s2 => ?_⟩
      refine ⟨_, s2 _ _ eD, by rw [List.length_map, List.length_replicate, sizeLine_eq]; omega, ?_, fun b o e => by rw [upd_ne (ne_of_none e nD)]; exact s2 _ _ (sm b o e), by omega⟩
      rw [upd_same, List.replicate_succ', List.map_append]
      rfl
    rintro H' ⟨eD, sm, _⟩
    refine ⟨D, _, rfl, SqL.of eD, ?_⟩
    have z : (List.replicate (ps.map V.ref).length true).all id = true := by
      rw [List.all_eq_true]
      intro b hb
      rw [List.eq_of_mem_replicate hb]
      rfl
    rw [z]
    refine ⟨_, rfl, iteT ?_⟩
    refine ⟨_, rfl, p, zipK ps g, rfl, by rw [z1]; exact (Tk.of sm).seq ep, fun q hq => ⟨dp_tk (Tk.of sm) _ _ ?_ (z3 q hq).1, (z3 q hq).2⟩, by omega, ?_, ?_⟩
    · have mem : q.1 ∈ g.map kCh := by
        rw [← z2]
        exact List.mem_map.mpr ⟨q, hq, rfl⟩
      obtain ⟨c, _, ec⟩ := List.mem_map.mp mem
      rw [← ec, kCh_data]
      exact flat_ch c
    · rw [z2]
      exact List.Pairwise.map kCh (fun a b ne e => ne (kCh_inj e)) gn
    refine ⟨_, rfl, p, _, rfl, .inr ((Tk.of sm).seq ep), rfl, ?_⟩
    have e : decide (V.int ((zipK ps g).length : Nat) = V.int (((ps.map V.ref).length : Nat) : Int)) = true := by
      rw [z4, List.length_map, lp]
      exact decide_eq_true rfl
    rw [e]
    exact k H' sm
theorem ok_Gs {f : Addr} {fd : FuncData} {fTu : Addr} {fdTu : FuncData} {fGr : Addr} {fdGr : FuncData} (F : Fun K "is_groups" "is_groups" sGs f fd) (T : Bt mg) (CTu : Cal K mg "is_tuple" fTu fdTu ["value", "least", "greatest"]) (GTu : FnOk P w K mg base CX0 1 fTu fdTu ["value", "least", "greatest"] (spTu K)) (CGr : Cal K mg "is_group" fGr fdGr ["roads", "labels", "road", "value"]) (GGr : FnOk P w K mg base CX0 4 fGr fdGr ["roads", "labels", "road", "value"] (spGr K)) : FnOk P w K mg base CX0 5 f fd ["roads", "labels", "road", "value"] (spGs K) := by
  refine F.ok scGs (fun vs H Q E h => ?_) (fun cdv A outer s H vs Q E hr h => ?_)
  · obtain ⟨r, l, road, x, rd, ls, g, rfl, er, el, h0, h1, dg, ok, k⟩ := h
    rfl
  · obtain ⟨r, l, road, x, rd, ls, g, rfl, er, el, h0, h1, dg, ok, k⟩ := h
    have hr1 : Room 1 (A.deeper (envOfC "is_groups" (defScope sGs) s.heap.objs.size f cdv)) := Room.mono hr (by decide)
    have hr4 : Room 4 (A.deeper (envOfC "is_groups" (defScope sGs) s.heap.objs.size f cdv)) := Room.mono hr (by decide)
    obtain ⟨t3, e3⟩ := T.g3
    refine ⟨_, pss_cons (ps_if (pt_val (pe_callB call_isi (by rfl) T.isi (by decide +kernel) (pa_cons (pv 3) (pa_cons (pe_bltn (v := V.ty "str") (by rfl) T.str (by decide +kernel) rfl) pa_nil)))) (pss_one (ps_ret (pe_cmpR op_eq (pv 3) pe_str (nomark _)))) pss_nil)
      (pss_one (ps_ret (pe_and (pe_call GTu hr1 (by rfl) CTu.g CTu.k CTu.b .nil pass0 (pa_cons (pv 3) (pa_cons pe_int (pa_cons (pe_glob (v := V.int 3) (by rfl) e3 ⟨_, rfl⟩) pa_nil)))) (pe_one (pe_callB (cr_all rfl) (by rfl) T.all (by decide +kernel) (pa_cons (pe_lc (own := [("group", 4)]) (g := gName 4) (tt := tYes) rfl scGs.nd (pi_tup (pv 3)) (blkOk_by (N := ["roads", "labels", "road", "value", "group"]) (sc := defScope sGs) (by decide +kernel)) (fun _ _ _ _ _ => pg_name (i := 4) scGs.nd rfl (.inl rfl)) (fun _ _ _ _ _ => pts_nil)
        (fun _ _ _ _ _ => (pe_call GGr hr4 (by rfl) CGr.g CGr.k CGr.b .nil pass0 (pa_cons (pv 0) (pa_cons (pv 1) (pa_cons (pv 2) (pa_cons (pv 4) pa_nil))))))) pa_nil)))))), ?_⟩
    cases g with
    | none =>
      cases dg
      refine ⟨_, rfl, .str "home", .ty "str", _, _, true, rfl, .ty _, .base (.str _), kit_ty (by decide +kernel), _, rfl, iteT ?_⟩
      refine ⟨_, rfl, rfl, ?_⟩
      rw [decide_eq_true (rfl : V.str "home" = V.str "home")]
      exact k H (Same.refl H)
    | some gs =>
      obtain ⟨p, xs, rfl, ep, dx⟩ := dp_of_tup dg
      obtain ⟨g1, g3, gg⟩ := ok
      have lp := dpAll_len dx
      rw [List.length_map] at lp
      refine ⟨_, rfl, .ref p, .ty "str", _, _, false, rfl, .ty _, ty_tup ep, kit_ty (by decide +kernel), _, rfl, iteF ?_⟩
      refine ⟨_, rfl, .ref p, _, _, rfl, .inl ⟨p, _, rfl, ep, by show (1 : Int) ≤ _; omega, _, rfl, ?_⟩⟩
      rw [decide_eq_true (by show ((xs.length : Nat) : Int) ≤ 3; omega)]
      refine iteT ?_
      refine ⟨_, rfl, p, rfl, ⟨_, ep⟩, fun D nD => ?_⟩
      refine lc_tup (K := K) (a := p) (xs := xs) (fun i H' => H' D = some (.lst ((List.replicate i true).map V.bl)) ∧ Same H H' ∧ i ≤ 3) ⟨upd_same, same_upd nD, by decide⟩ (fun i H' _ ⟨_, sm, _⟩ => (Tk.of sm).seq ep) ?_ ?_
      · rintro i z H' hi ⟨eD, sm, i3⟩
        have il : i < xs.length := (List.getElem?_eq_some_iff.mp hi).1
        obtain ⟨d, hd, dz⟩ := dpAll_get dx i z hi
        rw [List.getElem?_map, Option.map_eq_some_iff] at hd
        obtain ⟨c, hc, rfl⟩ := hd
        refine ⟨rfl, yes_of ?_⟩
        refine ⟨_, rfl, _, rfl, _, rfl, _, rfl, r, l, road, z, rd, ls, c, rfl, er.tk (Tk.of sm), (Tk.of sm).seq el, h0, h1, dp_tk (Tk.of sm) _ _ (flat_gr c) dz, gg c (List.mem_of_getElem? hc), fun H2 s2 => ?_⟩
        refine ⟨_, s2 _ _ eD, by rw [List.length_map, List.length_replicate, sizeLine_eq]; omega, ?_, fun b o e => by rw [upd_ne (ne_of_none e nD)]; exact s2 _ _ (sm b o e), by omega⟩
        rw [upd_same, List.replicate_succ', List.map_append]
        rfl
      rintro H' ⟨eD, sm, _⟩
      refine ⟨D, _, rfl, SqL.of eD, ?_⟩
      have z : (List.replicate xs.length true).all id = true := by
        rw [List.all_eq_true]
        intro b hb
        rw [List.eq_of_mem_replicate hb]
        rfl
      rw [z]
      exact k H' sm
theorem ok_Rw {f : Addr} {fd : FuncData} {fPa : Addr} {fdPa : FuncData} {fHd : Addr} {fdHd : FuncData} {fGs : Addr} {fdGs : FuncData} (F : Fun K "is_row" "is_row" sRw f fd) (T : Bt mg) (CPa : Cal K mg "is_pair" fPa fdPa ["value"]) (GPa : FnOk P w K mg base CX0 2 fPa fdPa ["value"] (spPa K)) (CHd : Cal K mg "is_head" fHd fdHd ["roads", "labels", "value"]) (GHd : FnOk P w K mg base CX0 3 fHd fdHd ["roads", "labels", "value"] (spHd K)) (CGs : Cal K mg "is_groups" fGs fdGs ["roads", "labels", "road", "value"]) (GGs : FnOk P w K mg base CX0 5 fGs fdGs ["roads", "labels", "road", "value"] (spGs K)) : FnOk P w K mg base CX0 6 f fd ["roads", "labels", "value"] (spRw K) := by
  refine F.ok scRw (fun vs H Q E h => ?_) (fun cdv A outer s H vs Q E hr h => ?_)
  · obtain ⟨r, l, x, rd, ls, g, rfl, er, el, dg, ok, k⟩ := h
    rfl
  · obtain ⟨r, l, x, rd, ls, g, rfl, er, el, dg, ok, k⟩ := h
    have hr2 : Room 2 (A.deeper (envOfC "is_row" (defScope sRw) s.heap.objs.size f cdv)) := Room.mono hr (by decide)
    have hr3 : Room 3 (A.deeper (envOfC "is_row" (defScope sRw) s.heap.objs.size f cdv)) := Room.mono hr (by decide)
    have hr5 : Room 5 (A.deeper (envOfC "is_row" (defScope sRw) s.heap.objs.size f cdv)) := Room.mono hr (by decide)
    refine ⟨_, pss_cons (ps_if (PW.pt (pw_or (pt_not (pt_val (pe_call GPa hr2 (by rfl) CPa.g CPa.k CPa.b .nil pass0 (pa_cons (pv 2) pa_nil)))) (pw_or1 (pt_not (pt_val (pe_call GHd hr3 (by rfl) CHd.g CHd.k CHd.b .nil pass0 (pa_cons (pv 0) (pa_cons (pv 1) (pa_cons (pe_ix ix_tup (pv 2) pe_int (fun _ _ => rfl)) pa_nil))))))))) (pss_one (ps_ret pe_bl)) pss_nil)
      (pss_one (ps_ret (pe_call GGs hr5 (by rfl) CGs.g CGs.k CGs.b .nil pass0 (pa_cons (pv 0) (pa_cons (pv 1) (pa_cons (pe_ix ix_tup (pe_ix ix_tup (pv 2) pe_int (fun _ _ => rfl)) pe_int (fun _ _ => rfl)) (pa_cons (pe_ix ix_tup (pv 2) pe_int (fun _ _ => rfl)) pa_nil))))))), ?_⟩
    obtain ⟨p, xs, rfl, ep, dx⟩ := dp_of_tup dg
    obtain ⟨⟨i, y⟩, gs⟩ := g
    obtain ⟨o0, o1, o2, o3⟩ := ok
    cases dx with
    | cons d1 dx =>
      cases dx with
      | cons d2 dx =>
        cases dx
        obtain ⟨q, ys, rfl, eq, dy⟩ := dp_of_tup d1
        cases dy with
        | cons e1 dy =>
          cases dy with
          | cons e2 dy =>
            cases dy
            cases e1
            cases e2
            rename_i v2
            obtain ⟨ps, hr_, lp, pr⟩ := er.sq
            refine ⟨_, rfl, p, _, _, rfl, ep, _, rfl, iteF ?_⟩
            refine ⟨_, rfl, _, rfl, _, rfl, p, _, _, _, rfl, rfl, ep, (show atI [V.ref q, v2] 0 = some (V.ref q) from rfl), r, l, q, _, ls, i, y, rfl, hr_, el, eq, o0, by rw [List.length_map, lp]; exact o1, o2, _, rfl, iteF ?_⟩
            refine ⟨_, rfl, _, rfl, _, rfl, p, _, _, _, rfl, rfl, ep, (show atI [V.ref q, v2] 0 = some (V.ref q) from rfl), q, _, _, _, rfl, rfl, eq, (show atI [V.int i, V.str y] 0 = some (V.int i) from rfl), _, rfl, p, _, _, _, rfl, rfl, ep, (show atI [V.ref q, v2] 1 = some v2 from rfl), ?_⟩
            exact ⟨r, l, i, v2, rd, ls, gs, rfl, er, el, o0, o1, d2, o3, k⟩
end
end Lr


namespace Lr
open PySem PySem.Spec PyProof.Rows L2

/-top-/
theorem cut_front {n i : Nat} (h : i < n) : ¬ (HT.sIx n 0 none = 0 ∧ HT.sIx n n (some (i : Int)) = n) := by
  rintro ⟨_, h2⟩
  have z : (if (i : Int) < 0 then ((i : Int) + (n : Int)).toNat else min (i : Int).toNat n) = n := h2
  rw [if_neg (by omega)] at z
  omega
theorem cutV_front {xs : List V} {i : Nat} (h : i < xs.length) : cutV xs none (some (i : Int)) = xs.take i := by
  have z0 : HT.sIx xs.length 0 none = 0 := rfl
  have z1 : HT.sIx xs.length xs.length (some (i : Int)) = i := by
    show (if (i : Int) < 0 then ((i : Int) + (xs.length : Int)).toNat else min (i : Int).toNat xs.length) = i
    rw [if_neg (by omega)]
    omega
  unfold cutV
  rw [z0, z1]
  rfl
theorem nodup_front {ls : List Str} (nd : ls.Nodup) {i : Nat} {x : Str} (h : ls[i]? = some x) : x ∉ ls.take i := by
  intro m
  obtain ⟨j, hj, e⟩ := List.getElem_of_mem m
  rw [List.length_take] at hj
  rw [List.getElem_take] at e
  obtain ⟨il, ex⟩ := List.getElem?_eq_some_iff.mp h
  exact (List.pairwise_iff_getElem.mp nd j i (by omega) il (by omega)) (e.trans ex.symm)
def spNR (K : PySem.W.Frag) : Sp := fun vs H Q _ => ∃ (r : Addr) (rd : List (Int × Int)), vs = [.ref r] ∧ RdAt K H r rd ∧ 1 ≤ rd.length ∧ rd.length ≤ 10 ∧ (∀ p ∈ rd, 0 ≤ p.1 ∧ p.1 ≤ 7 ∧ 0 ≤ p.2 ∧ p.2 ≤ 7) ∧ ∀ H', Same H H' → Q .non H'
def spNL (K : PySem.W.Frag) : Sp := fun vs H Q _ => ∃ (l : Addr) (ls : List Str), vs = [.ref l] ∧ LbAt K H l ls ∧ 1 ≤ ls.length ∧ ls.length ≤ 4 ∧ (∀ x ∈ ls, x ∈ L5) ∧ ls.Nodup ∧ ∀ H', Same H H' → Q .non H'
def spNW (K : PySem.W.Frag) : Sp := fun vs H Q _ => ∃ (r l : Addr) (x : V) (n : Nt), vs = [.ref r, .ref l, x] ∧ RdAt K H r n.roads ∧ LbAt K H l n.labels ∧ Dp K H x (.tuple (n.rows.map dRw)) ∧ NtOk n ∧ ∀ H', Same H H' → Q .non H'
def spNN (K : PySem.W.Frag) : Sp := fun vs H Q _ => ∃ (x : V) (n : Nt), vs = [x] ∧ Dp K H x (dNt n) ∧ NtOk n ∧ ∀ H', Same H H' → Q x H'
section
variable {P : Program} {w : World} {K : PySem.W.Frag} {mg : Str → Option Value} {base : Heap}
theorem scNR : FnScope ["roads", "place", "road"] ["roads"] (defScope sNR) := ⟨rfl, rfl, rfl, by decide +kernel, rfl, by decide +kernel, by decide +kernel⟩
theorem scNL : FnScope ["labels", "place", "label"] ["labels"] (defScope sNL) := ⟨rfl, rfl, rfl, by decide +kernel, rfl, by decide +kernel, by decide +kernel⟩
theorem scNW : FnScope ["roads", "labels", "rows", "place", "row"] ["roads", "labels", "rows"] (defScope sNW) := ⟨rfl, rfl, rfl, by decide +kernel, rfl, by decide +kernel, by decide +kernel⟩
theorem scNN : FnScope ["net", "roads", "labels", "rows"] ["net"] (defScope sNN) := ⟨rfl, rfl, rfl, by decide +kernel, rfl, by decide +kernel, by decide +kernel⟩
theorem ok_NR {f : Addr} {fd : FuncData} {fTu : Addr} {fdTu : FuncData} {fHp : Addr} {fdHp : FuncData} (F : Fun K "need_roads" "need_roads" sNR f fd) (T : Bt mg) (CTu : Cal K mg "is_tuple" fTu fdTu ["value", "least", "greatest"]) (GTu : FnOk P w K mg base CX0 1 fTu fdTu ["value", "least", "greatest"] (spTu K)) (CHp : Cal K mg "is_house_pair" fHp fdHp ["value"]) (GHp : FnOk P w K mg base CX0 3 fHp fdHp ["value"] (spHp K)) : FnOk P w K mg base CX0 4 f fd ["roads"] (spNR K) := by
  refine F.ok scNR (fun vs H Q E h => ?_) (fun cdv A outer s H vs Q E hr h => ?_)
  · obtain ⟨r, rd, rfl, er, n1, n2, hh, k⟩ := h
    rfl
  · obtain ⟨r, rd, rfl, er, n1, n2, hh, k⟩ := h
    have hr1 : Room 1 (A.deeper (envOfC "need_roads" (defScope sNR) s.heap.objs.size f cdv)) := Room.mono hr (by decide)
    have hr3 : Room 3 (A.deeper (envOfC "need_roads" (defScope sNR) s.heap.objs.size f cdv)) := Room.mono hr (by decide)
    obtain ⟨t10, e10⟩ := T.r10
    refine ⟨_, pss_cons (ps_if (pt_not (pt_val (pe_call GTu hr1 (by rfl) CTu.g CTu.k CTu.b .nil pass0 (pa_cons (pv 0) (pa_cons pe_int (pa_cons (pe_glob (v := V.int 10) (by rfl) e10 ⟨_, rfl⟩) pa_nil)))))) (pss_one ps_never) pss_nil)
      (pss_one (ps_for PassesOwn.never rfl (pi_enumT (by rfl) T.enum (pa_cons (pv 0) pa_nil)) (pg_tup (by rfl) (pgs_cons (pg_name (i := 1) scNR.nd rfl (.inl rfl)) (pgs_cons (pg_name (i := 2) scNR.nd rfl (.inl rfl)) pgs_nil)))
        (pss_one (ps_if (pt_not (pt_val (pe_call GHp hr3 (by rfl) CHp.g CHp.k CHp.b .nil pass0 (pa_cons (pv 2) pa_nil)))) (pss_one ps_never) pss_nil)))), ?_⟩
    obtain ⟨ps, hr_, lp, pr⟩ := er.sq
    refine ⟨_, rfl, .ref r, _, _, rfl, .inl ⟨r, _, rfl, hr_, by rw [List.length_map]; show (1 : Int) ≤ _; omega, _, rfl, ?_⟩⟩
    rw [decide_eq_true (by rw [List.length_map]; show ((ps.length : Nat) : Int) ≤ 10; omega)]
    refine iteF ?_
    refine ⟨_, rfl, r, _, rfl, hr_, for_it walk_enumT (fun i σ H' => ∃ u v : Option V, σ = [some (.ref r), u, v] ∧ Same H H') ⟨_, _, rfl, Same.refl H⟩ (fun i σ H' _ ⟨_, _, _, sm⟩ => (Tk.of sm).seq hr_) ?_ ?_⟩
    · rintro i x σ H' H2 hi ⟨u, v, rfl, sm⟩ ⟨t, x1, x2, rfl, nt, rfl, e1, e2⟩
      cases e1
      rw [List.length_map, lp] at hi
      obtain ⟨a, ha, hs⟩ := paired_at pr i rd[i] (List.getElem?_eq_getElem hi)
      dsimp only at e2
      rw [List.getElem?_map, ha] at e2
      cases e2
      obtain ⟨g1, g2, g3, g4⟩ := hh rd[i] (List.getElem_mem hi)
      refine ⟨t, _, rfl, SqT.of upd_same, rfl, _, _, rfl, _, _, rfl, rfl, ?_⟩
      refine ⟨_, rfl, a, _, _, rfl, (Tk.of (sm.trans (same_upd nt))).seq hs, g1, g2, g3, g4, _, rfl, iteF ?_⟩
      exact ⟨_, _, rfl, sm.trans (same_upd nt)⟩
    rintro σ H' ⟨u, v, rfl, sm⟩
    exact k _ sm
theorem ok_NL {f : Addr} {fd : FuncData} {fTu : Addr} {fdTu : FuncData} {fLa : Addr} {fdLa : FuncData} (F : Fun K "need_labels" "need_labels" sNL f fd) (T : Bt mg) (CTu : Cal K mg "is_tuple" fTu fdTu ["value", "least", "greatest"]) (GTu : FnOk P w K mg base CX0 1 fTu fdTu ["value", "least", "greatest"] (spTu K)) (CLa : Cal K mg "can_be_label" fLa fdLa ["value"]) (GLa : FnOk P w K mg base CX0 2 fLa fdLa ["value"] spWo) : FnOk P w K mg base CX0 3 f fd ["labels"] (spNL K) := by
  refine F.ok scNL (fun vs H Q E h => ?_) (fun cdv A outer s H vs Q E hr h => ?_)
  · obtain ⟨l, ls, rfl, el, n1, n2, w5, nd, k⟩ := h
    rfl
  · obtain ⟨l, ls, rfl, el, n1, n2, w5, nd, k⟩ := h
    have hr1 : Room 1 (A.deeper (envOfC "need_labels" (defScope sNL) s.heap.objs.size f cdv)) := Room.mono hr (by decide)
    have hr2 : Room 2 (A.deeper (envOfC "need_labels" (defScope sNL) s.heap.objs.size f cdv)) := Room.mono hr (by decide)
    obtain ⟨t4, e4⟩ := T.l4
    refine ⟨_, pss_cons (ps_if (pt_not (pt_val (pe_call GTu hr1 (by rfl) CTu.g CTu.k CTu.b .nil pass0 (pa_cons (pv 0) (pa_cons pe_int (pa_cons (pe_glob (v := V.int 4) (by rfl) e4 ⟨_, rfl⟩) pa_nil)))))) (pss_one ps_never) pss_nil)
      (pss_one (ps_for PassesOwn.never rfl (pi_enumT (by rfl) T.enum (pa_cons (pv 0) pa_nil)) (pg_tup (by rfl) (pgs_cons (pg_name (i := 1) scNL.nd rfl (.inl rfl)) (pgs_cons (pg_name (i := 2) scNL.nd rfl (.inl rfl)) pgs_nil)))
        (pss_one (ps_if (PW.pt (pw_or (pt_not (pt_val (pe_call GLa hr2 (by rfl) CLa.g CLa.k CLa.b .nil pass0 (pa_cons (pv 2) pa_nil)))) (pw_or1 (pt_cmpR op_in_seq (pv 2) (pe_slice sl_tup (pv 0) po_none (po_some (pv 1))) (by rfl))))) (pss_one ps_never) pss_nil)))), ?_⟩
    refine ⟨_, rfl, .ref l, _, _, rfl, .inl ⟨l, _, rfl, el, by rw [List.length_map]; show (1 : Int) ≤ _; omega, _, rfl, ?_⟩⟩
    rw [decide_eq_true (by rw [List.length_map]; show ((ls.length : Nat) : Int) ≤ 4; omega)]
    refine iteF ?_
    refine ⟨_, rfl, l, _, rfl, el, for_it walk_enumT (fun i σ H' => ∃ u v : Option V, σ = [some (.ref l), u, v] ∧ Same H H') ⟨_, _, rfl, Same.refl H⟩ (fun i σ H' _ ⟨_, _, _, sm⟩ => (Tk.of sm).seq el) ?_ ?_⟩
    · rintro i x σ H' H2 hi ⟨u, v, rfl, sm⟩ ⟨t, x1, x2, rfl, nt, rfl, e1, e2⟩
      cases e1
      have hm := hi
      rw [List.length_map] at hi
      dsimp only at e2
      rw [List.getElem?_map, List.getElem?_eq_getElem hi] at e2
      cases e2
      refine ⟨t, _, rfl, SqT.of upd_same, rfl, _, _, rfl, _, _, rfl, rfl, ?_⟩
      refine ⟨_, rfl, _, rfl, w5 _ (List.getElem_mem hi), fun H3 s3 => ⟨_, rfl, iteF ?_⟩⟩
      have sm3 := (sm.trans (same_upd nt)).trans s3
      refine ⟨_, rfl, _, rfl, _, rfl, _, rfl, l, _, rfl, (Tk.of sm3).seq el, cut_front hm, fun p np => ?_⟩
      have flat : (cutV (ls.map V.str) none (some (i : Int))).all flatV = true := by
        rw [cutV_front hm, ← List.map_take]
        exact flat_strs _
      have ans : (if false = true then !inV (V.str ls[i]) (cutV (ls.map V.str) none (some (i : Int))) else inV (V.str ls[i]) (cutV (ls.map V.str) none (some (i : Int)))) = false := by
        show inV (V.str ls[i]) (cutV (ls.map V.str) none (some (i : Int))) = false
        rw [cutV_front hm, ← List.map_take, inV_strs]
        exact decide_eq_false (nodup_front nd (List.getElem?_eq_getElem hi))
      refine ⟨p, _, rfl, .inr (SqT.of upd_same), rfl, flat, _, rfl, ifF ans ?_⟩
      exact ⟨_, _, rfl, sm3.trans (same_upd np)⟩
    rintro σ H' ⟨u, v, rfl, sm⟩
    exact k _ sm
theorem ok_NW {f : Addr} {fd : FuncData} {fTu : Addr} {fdTu : FuncData} {fRw : Addr} {fdRw : FuncData} (F : Fun K "need_rows" "need_rows" sNW f fd) (T : Bt mg) (CTu : Cal K mg "is_tuple" fTu fdTu ["value", "least", "greatest"]) (GTu : FnOk P w K mg base CX0 1 fTu fdTu ["value", "least", "greatest"] (spTu K)) (CRw : Cal K mg "is_row" fRw fdRw ["roads", "labels", "value"]) (GRw : FnOk P w K mg base CX0 6 fRw fdRw ["roads", "labels", "value"] (spRw K)) : FnOk P w K mg base CX0 7 f fd ["roads", "labels", "rows"] (spNW K) := by
  refine F.ok scNW (fun vs H Q E h => ?_) (fun cdv A outer s H vs Q E hr h => ?_)
  · obtain ⟨r, l, x, n, rfl, er, el, dx, ok, k⟩ := h
    rfl
  · obtain ⟨r, l, x, n, rfl, er, el, dx, ok, k⟩ := h
    have hr1 : Room 1 (A.deeper (envOfC "need_rows" (defScope sNW) s.heap.objs.size f cdv)) := Room.mono hr (by decide)
    have hr6 : Room 6 (A.deeper (envOfC "need_rows" (defScope sNW) s.heap.objs.size f cdv)) := Room.mono hr (by decide)
    have hu : (A.deeper (envOfC "need_rows" (defScope sNW) s.heap.objs.size f cdv)).units < cLine := by
      have z := hr.un
      omega
    refine ⟨_, pss_cons (ps_if (pt_not (pt_val (pe_call GTu hr1 (by rfl) CTu.g CTu.k CTu.b .nil pass0 (pa_cons (pv 2) (pa_cons pe_int (pa_cons (pe_op op_mul (pe_callB call_len_seq (by rfl) T.len PySem.boot_len (pa_cons (pv 0) pa_nil)) (pe_op op_add (pe_callB call_len_seq (by rfl) T.len PySem.boot_len (pa_cons (pv 1) pa_nil)) pe_int)) pa_nil)))))) (pss_one ps_never) pss_nil)
      (pss_one (ps_for PassesOwn.never rfl (pi_enumT (by rfl) T.enum (pa_cons (pv 2) pa_nil)) (pg_tup (by rfl) (pgs_cons (pg_name (i := 3) scNW.nd rfl (.inl rfl)) (pgs_cons (pg_name (i := 4) scNW.nd rfl (.inl rfl)) pgs_nil)))
        (pss_one (ps_if (PW.pt (pw_or (pt_not (pt_val (pe_call GRw hr6 (by rfl) CRw.g CRw.k CRw.b .nil pass0 (pa_cons (pv 0) (pa_cons (pv 1) (pa_cons (pv 4) pa_nil)))))) (pw_or1 (PW.pt (pw_and (pt_cmpR op_gt (pv 3) pe_int (nomark _)) (pw_and1 (pt_cmpR (op_leP hu) (pe_ix ix_tup (pv 4) pe_int (fun _ _ => rfl)) (pe_ix ix_tup (pe_ix ix_tup (pv 2) (pe_op op_sub (pv 3) pe_int) (fun _ _ => rfl)) pe_int (fun _ _ => rfl)) (nomark _)))))))) (pss_one ps_never) pss_nil)))), ?_⟩
    obtain ⟨e, xs, rfl, ee, dxs⟩ := dp_of_tup dx
    obtain ⟨rows, hrow, lrow, prow⟩ : ∃ ps : List Addr, xs = ps.map V.ref ∧ ps.length = n.rows.length ∧ Paired (fun p a => Dp K H (.ref p) (dRw a)) ps n.rows := by
      obtain ⟨ps, e1, pr⟩ := refs_of dRw (fun a => ⟨_, rfl⟩) dxs
      exact ⟨ps, e1, paired_len pr, pr⟩
    subst hrow
    obtain ⟨ps, hr_, lp, pr⟩ := er.sq
    have rb := ok.r2
    have lb := ok.l2
    refine ⟨_, rfl, _, rfl, r, _, rfl, .inr hr_, _, rfl, l, _, rfl, .inr el, _, _, rfl, rfl, _, _, rfl, rfl, .inl ⟨by rw [List.length_map]; omega, by rw [List.length_map]; omega⟩, ?_⟩
    refine ⟨.ref e, _, _, rfl, .inl ⟨e, _, rfl, ee, by show (0 : Int) ≤ _; omega, _, rfl, ?_⟩⟩
    rw [decide_eq_true (by rw [List.length_map, List.length_map, List.length_map, lrow, lp]; have z := ok.w1; show ((n.rows.length : Nat) : Int) ≤ ((n.roads.length : Nat) : Int) * (((n.labels.length : Nat) : Int) + 1); exact_mod_cast z)]
    refine iteF ?_
    -- the head of a row
    have head : ∀ (j : Nat) (a : Addr) (q : Rwt), rows[j]? = some a → n.rows[j]? = some q → ∃ (h : Addr) (z : V), SqT K H a [.ref h, z] ∧ SqT K H h [.int q.1.1, .str q.1.2] := fun j a q ha hq => by
      obtain ⟨b, hb, hd⟩ := paired_get prow j a ha
      rw [hq] at hb
      cases hb
      obtain ⟨p, ys, ep, hp, hy⟩ := dp_of_tup hd
      cases ep
      cases hy with
      | cons y1 hy =>
        cases hy with
        | cons y2 hy =>
          cases hy
          obtain ⟨h, zs, eh, hh, hz⟩ := dp_of_tup y1
          subst eh
          cases hz with
          | cons z1 hz =>
            cases hz with
            | cons z2 hz =>
              cases hz
              cases z1
              cases z2
              exact ⟨h, _, hp, hh⟩
    refine ⟨_, rfl, e, _, rfl, ee, for_it walk_enumT (fun i σ H' => ∃ u v : Option V, σ = [some (.ref r), some (.ref l), some (.ref e), u, v] ∧ Same H H') ⟨_, _, rfl, Same.refl H⟩ (fun i σ H' _ ⟨_, _, _, sm⟩ => (Tk.of sm).seq ee) ?_ ?_⟩
    · rintro i x σ H' H2 hi ⟨u, v, rfl, sm⟩ ⟨t, x1, x2, rfl, nt, rfl, e1, e2⟩
      cases e1
      rw [List.length_map, lrow] at hi
      have hq := List.getElem?_eq_getElem hi
      obtain ⟨a, ha, hd⟩ := paired_at prow i n.rows[i] hq
      dsimp only at e2
      rw [List.getElem?_map, ha] at e2
      cases e2
      have sm2 := sm.trans (same_upd (o := .tup [.int (i : Nat), .ref a]) nt)
      refine ⟨t, _, rfl, SqT.of upd_same, rfl, _, _, rfl, _, _, rfl, rfl, ?_⟩
      refine ⟨_, rfl, _, rfl, _, rfl, r, l, .ref a, n.roads, n.labels, n.rows[i], rfl, er.tk (Tk.of sm2), (Tk.of sm2).seq el, dp_tk (Tk.of sm2) _ _ (flat_rw _) hd, ok.ro _ (List.getElem_mem hi), fun H3 s3 => ⟨_, rfl, iteF ?_⟩⟩
      have sm3 := sm2.trans s3
      refine ⟨_, rfl, _, _, rfl, rfl, _, rfl, ?_⟩
      by_cases i0 : i = 0
      · subst i0
        exact ifF (by decide) (iteF ⟨_, _, rfl, sm3⟩)
      · obtain ⟨j, rfl⟩ : ∃ j, i = j + 1 := ⟨i - 1, by omega⟩
        refine ifT (decide_eq_true (by omega)) ?_
        have hj : j < n.rows.length := by omega
        obtain ⟨a0, ha0, hd0⟩ := paired_at prow j n.rows[j] (List.getElem?_eq_getElem hj)
        obtain ⟨h1, z1, s1, t1⟩ := head (j + 1) a _ ha hq
        obtain ⟨h0, z0, s0, t0⟩ := head j a0 _ ha0 (List.getElem?_eq_getElem hj)
        refine ⟨_, rfl, a, _, _, _, rfl, rfl, (Tk.of sm3).seq s1, (show atI [V.ref h1, z1] 0 = some (V.ref h1) from rfl), ?_⟩
        refine ⟨_, rfl, _, rfl, _, _, rfl, rfl, e, _, _, _, rfl, rfl, (Tk.of sm3).seq ee, ?_, a0, _, _, _, rfl, rfl, (Tk.of sm3).seq s0, (show atI [V.ref h0, z0] 0 = some (V.ref h0) from rfl), ?_⟩
        · have ej : (((j + 1 : Nat) : Int) - 1) = ((j : Nat) : Int) := by omega
          rw [ej]
          exact atI_nat (by rw [List.getElem?_map, ha0]; rfl)
        · refine ⟨h1, h0, _, _, rfl, rfl, (Tk.of sm3).seq t1, (Tk.of sm3).seq t0, _, rfl, ?_⟩
          have z := ok.asc j _ _ (List.getElem?_eq_getElem hj) hq
          exact ifF z ⟨_, _, rfl, sm3⟩
    rintro σ H' ⟨u, v, rfl, sm⟩
    exact k _ sm
theorem ok_NN {f : Addr} {fd : FuncData} {fTu : Addr} {fdTu : FuncData} {fNR : Addr} {fdNR : FuncData} {fNL : Addr} {fdNL : FuncData} {fNW : Addr} {fdNW : FuncData} (F : Fun K "need_net" "need_net" sNN f fd) (T : Bt mg) (CTu : Cal K mg "is_tuple" fTu fdTu ["value", "least", "greatest"]) (GTu : FnOk P w K mg base CX0 1 fTu fdTu ["value", "least", "greatest"] (spTu K)) (CNR : Cal K mg "need_roads" fNR fdNR ["roads"]) (GNR : FnOk P w K mg base CX0 4 fNR fdNR ["roads"] (spNR K)) (CNL : Cal K mg "need_labels" fNL fdNL ["labels"]) (GNL : FnOk P w K mg base CX0 3 fNL fdNL ["labels"] (spNL K)) (CNW : Cal K mg "need_rows" fNW fdNW ["roads", "labels", "rows"]) (GNW : FnOk P w K mg base CX0 7 fNW fdNW ["roads", "labels", "rows"] (spNW K)) : FnOk P w K mg base CX0 8 f fd ["net"] (spNN K) := by
  refine F.ok scNN (fun vs H Q E h => ?_) (fun cdv A outer s H vs Q E hr h => ?_)
  · obtain ⟨x, n, rfl, dx, ok, k⟩ := h
    rfl
  · obtain ⟨x, n, rfl, dx, ok, k⟩ := h
    have hr1 : Room 1 (A.deeper (envOfC "need_net" (defScope sNN) s.heap.objs.size f cdv)) := Room.mono hr (by decide)
    have hr3 : Room 3 (A.deeper (envOfC "need_net" (defScope sNN) s.heap.objs.size f cdv)) := Room.mono hr (by decide)
    have hr4 : Room 4 (A.deeper (envOfC "need_net" (defScope sNN) s.heap.objs.size f cdv)) := Room.mono hr (by decide)
    have hr7 : Room 7 (A.deeper (envOfC "need_net" (defScope sNN) s.heap.objs.size f cdv)) := Room.mono hr (by decide)
    refine ⟨_, pss_cons (ps_if (pt_not (pt_val (pe_call GTu hr1 (by rfl) CTu.g CTu.k CTu.b .nil pass0 (pa_cons (pv 0) (pa_cons pe_int (pa_cons pe_int pa_nil)))))) (pss_one ps_never) pss_nil)
      (pss_cons (ps_asg (pv 0) (pg_tup (by rfl) (pgs_cons (pg_name (i := 1) scNN.nd rfl (.inl rfl)) (pgs_cons (pg_name (i := 2) scNN.nd rfl (.inl rfl)) (pgs_cons (pg_name (i := 3) scNN.nd rfl (.inl rfl)) pgs_nil)))))
      (pss_cons (ps_expr (pe_call GNR hr4 (by rfl) CNR.g CNR.k CNR.b .nil pass0 (pa_cons (pv 1) pa_nil)))
      (pss_cons (ps_expr (pe_call GNL hr3 (by rfl) CNL.g CNL.k CNL.b .nil pass0 (pa_cons (pv 2) pa_nil)))
      (pss_cons (ps_expr (pe_call GNW hr7 (by rfl) CNW.g CNW.k CNW.b .nil pass0 (pa_cons (pv 1) (pa_cons (pv 2) (pa_cons (pv 3) pa_nil)))))
      (pss_one (ps_ret (pv 0))))))), ?_⟩
    obtain ⟨p, xs, rfl, ep, dxs⟩ := dp_of_tup dx
    cases dxs with
    | cons d1 dxs =>
      cases dxs with
      | cons d2 dxs =>
        cases dxs with
        | cons d3 dxs =>
          cases dxs
          obtain ⟨r, _, rfl, _, _⟩ := dp_of_tup d1
          obtain ⟨l, ys, rfl, el, dl⟩ := dp_of_tup d2
          have eys := strs_dp dl
          subst eys
          refine ⟨_, rfl, .ref p, _, _, rfl, .inl ⟨p, _, rfl, ep, by show (3 : Int) ≤ 3; decide, _, rfl, iteF ?_⟩⟩
          refine ⟨_, rfl, p, _, rfl, ep, rfl, _, _, rfl, _, _, rfl, _, _, rfl, rfl, ?_⟩
          refine ⟨_, rfl, r, n.roads, rfl, d1, ok.r1, ok.r2, ok.rh, fun H1 s1 => ?_⟩
          refine ⟨_, rfl, l, n.labels, rfl, (Tk.of s1).seq el, ok.l1, ok.l2, ok.lw, ok.ln, fun H2 s2 => ?_⟩
          have s12 := s1.trans s2
          refine ⟨_, rfl, _, rfl, _, rfl, r, l, _, n, rfl, RdAt.tk d1 (Tk.of s12), (Tk.of s12).seq el, dp_tk (Tk.of s12) _ _ (flat_map _ flat_rw _) d3, ok, fun H3 s3 => ?_⟩
          exact ⟨_, rfl, k _ (s12.trans s3)⟩
end
end Lr

namespace Lr
open PySem PySem.Spec PyProof.Rows L2

/-- a row of a table: states and the weights of the edges that lead there -/
abbrev Row := List (Int × Int)
def rK (r : Row) : List (Key × V) := r.map fun p => (Sum.inl p.1, V.int p.2)
def getR (r : Row) (x : Int) : Option Int := (r.find? fun p => decide (p.1 = x)).map (·.2)
def putR (r : Row) (x w : Int) : Row := if (r.any fun p => decide (p.1 = x)) = true then r.map (fun p => if p.1 = x then (p.1, w) else p) else r ++ [(x, w)]
theorem rK_get (x : Int) : ∀ r : Row, valV (rK r) (Sum.inl x) = (getR r x).map V.int
  | [] => rfl
  | p :: r => by
    have ih := rK_get x r
    by_cases e : p.1 = x
    · have h1 : valV (rK (p :: r)) (Sum.inl x) = some (V.int p.2) := valV_pos (p := (Sum.inl p.1, V.int p.2)) (by rw [e])
      have h2 : getR (p :: r) x = some p.2 := by simp [getR, List.find?_cons, e]
      rw [h1, h2]
      rfl
    · have h1 : valV (rK (p :: r)) (Sum.inl x) = valV (rK r) (Sum.inl x) := valV_neg (p := (Sum.inl p.1, V.int p.2)) (fun z => e (by injection z))
      have h2 : getR (p :: r) x = getR r x := by simp [getR, List.find?_cons, e]
      rw [h1, h2, ih]
theorem any_get (x : Int) : ∀ r : Row, (r.any fun p => decide (p.1 = x)) = (getR r x).isSome
  | [] => rfl
  | p :: r => by
    rw [List.any_cons]
    by_cases e : p.1 = x
    · simp [getR, List.find?_cons, e]
    · have ih := any_get x r
      rw [decide_eq_false e, Bool.false_or, ih]
      simp [getR, List.find?_cons, e]
theorem rK_put (r : Row) (x w : Int) : putK (rK r) (Sum.inl x) (V.int w) = rK (putR r x w) := by
  unfold putK putR
  have e : ((rK r).any fun kv => decide (kv.1 = Sum.inl x)) = (r.any fun p => decide (p.1 = x)) := by
    unfold rK
    rw [List.any_map]
    congr 1
    funext p
    exact decide_eq_decide.mpr ⟨fun z => by injection z, fun z => by show (Sum.inl p.1 : Key) = _; rw [z]⟩
  rw [e]
  by_cases c : (r.any fun p => decide (p.1 = x)) = true
  · rw [if_pos c, if_pos c]
    unfold rK
    rw [List.map_map, List.map_map]
    refine List.map_congr_left fun p _ => ?_
    show (if (Sum.inl p.1 : Key) = Sum.inl x then ((Sum.inl p.1 : Key), V.int w) else (Sum.inl p.1, V.int p.2)) = ((Sum.inl (if p.1 = x then (p.1, w) else p).1 : Key), V.int (if p.1 = x then (p.1, w) else p).2)
    by_cases z : p.1 = x
    · rw [if_pos (by rw [z]), if_pos z]
    · rw [if_neg (fun q => z (by injection q)), if_neg z]
  · rw [if_neg c, if_neg c]
    unfold rK
    rw [List.map_append]
    rfl
theorem putR_len (r : Row) (x w : Int) : (putR r x w).length ≤ r.length + 1 := by
  unfold putR
  split
  · rw [List.length_map]
    omega
  · rw [List.length_append]
    exact Nat.le_refl _
/-- an edge more in a layer, if it is lighter -/
def relax (f : Row) (x w : Int) : Row := match getR f x with
  | none => putR f x w
  | some v => if w < v then putR f x w else f
theorem relax_len (f : Row) (x w : Int) : (relax f x w).length ≤ f.length + 1 := by
  unfold relax
  split
  · exact putR_len f x w
  · split
    · exact putR_len f x w
    · omega
theorem rK_entry {r : Row} {i : Nat} {kx vx : V} (hk : ((rK r)[i]?.map fun kv => kV kv.1) = some kx) (hv : ((rK r)[i]?.map Prod.snd) = some vx) : ∃ p, r[i]? = some p ∧ kx = .int p.1 ∧ vx = .int p.2 := by
  unfold rK at hk hv
  rw [List.getElem?_map] at hk hv
  cases e : r[i]? with
  | none => rw [e] at hk; cases hk
  | some p =>
    rw [e] at hk hv
    injection hk with hk
    injection hv with hv
    exact ⟨p, rfl, hk.symm, hv.symm⟩
/-- a table: keys, where their rows are, the rows -/
abbrev Tbl := List ((Int × Str) × Addr × Row)
def tK (tb : Tbl) : List (List Key × V) := tb.map fun e => ([Sum.inl e.1.1, Sum.inr e.1.2], V.ref e.2.1)
structure TbAt (H : Hp) (a : Addr) (tb : Tbl) : Prop where
  tab : H a = some (.dT (tK tb))
  rows : ∀ e ∈ tb, H e.2.1 = some (.dK (rK e.2.2))
  keys : (tb.map (·.1)).Nodup
  adr : (tb.map (·.2.1)).Nodup
theorem TbAt.same {H H' : Hp} {a : Addr} {tb : Tbl} (t : TbAt H a tb) (s : Same H H') : TbAt H' a tb := ⟨s _ _ t.tab, fun e he => s _ _ (t.rows e he), t.keys, t.adr⟩
def findT (tb : Tbl) (s : Int) (g : Str) : Option (Addr × Row) := (tb.find? fun e => decide (e.1 = (s, g))).map (·.2)
def lookT (tb : Tbl) (s : Int) (g : Str) : Row := ((findT tb s g).map (·.2)).getD []
theorem tK_get (s : Int) (g : Str) : ∀ tb : Tbl, valV (tK tb) [Sum.inl s, Sum.inr g] = (findT tb s g).map fun e => V.ref e.1
  | [] => rfl
  | e :: r => by
    have ih := tK_get s g r
    by_cases c : e.1 = (s, g)
    · have h1 : valV (tK (e :: r)) [Sum.inl s, Sum.inr g] = some (V.ref e.2.1) := valV_pos (p := ([Sum.inl e.1.1, Sum.inr e.1.2], V.ref e.2.1)) (by rw [c])
      have h2 : findT (e :: r) s g = some e.2 := by simp [findT, List.find?_cons, c]
      rw [h1, h2]
      rfl
    · have h1 : valV (tK (e :: r)) [Sum.inl s, Sum.inr g] = valV (tK r) [Sum.inl s, Sum.inr g] := valV_neg (p := ([Sum.inl e.1.1, Sum.inr e.1.2], V.ref e.2.1)) (fun z => c (by
        injection z with z1 z2
        injection z2 with z2 _
        injection z1 with z1
        injection z2 with z2
        exact Prod.ext z1 z2))
      have h2 : findT (e :: r) s g = findT r s g := by simp [findT, List.find?_cons, c]
      rw [h1, h2, ih]
theorem findT_in {tb : Tbl} {s : Int} {g : Str} {e : Addr × Row} (h : findT tb s g = some e) : ((s, g), e) ∈ tb := by
  unfold findT at h
  rw [Option.map_eq_some_iff] at h
  obtain ⟨x, hx, rfl⟩ := h
  have m := List.mem_of_find?_eq_some hx
  have p := List.find?_some hx
  have q : x.1 = (s, g) := of_decide_eq_true p
  rw [← q]
  exact m
/-- what lies behind a layer by edges with a sign -/
def edgeL (row : Row) (w : Int) (f : Row) : Row := row.foldl (fun f q => relax f q.1 (w + q.2)) f
def nextL (tb : Tbl) (g : Str) (layer : Row) : Row := layer.foldl (fun f p => edgeL (lookT tb p.1 g) p.2 f) []
theorem edgeL_len : ∀ (row : Row) (w : Int) (f : Row), (edgeL row w f).length ≤ f.length + row.length
  | [], _, f => Nat.le_refl _
  | q :: r, w, f => by
    have z := edgeL_len r w (relax f q.1 (w + q.2))
    have z2 := relax_len f q.1 (w + q.2)
    show (edgeL r w (relax f q.1 (w + q.2))).length ≤ _
    rw [List.length_cons]
    omega
theorem edgeL_snoc (row : Row) (q : Int × Int) (w : Int) (f : Row) : edgeL (row ++ [q]) w f = relax (edgeL row w f) q.1 (w + q.2) := by
  unfold edgeL
  rw [List.foldl_append]
  rfl
def nextGo (tb : Tbl) (g : Str) (layer f : Row) : Row := layer.foldl (fun f p => edgeL (lookT tb p.1 g) p.2 f) f
theorem nextGo_snoc (tb : Tbl) (g : Str) (layer : Row) (p : Int × Int) (f : Row) : nextGo tb g (layer ++ [p]) f = edgeL (lookT tb p.1 g) p.2 (nextGo tb g layer f) := by
  unfold nextGo
  rw [List.foldl_append]
  rfl
def costL (tb : Tbl) (g : Str) (layer : Row) : Nat := (layer.map fun p => (lookT tb p.1 g).length).sum
theorem nextGo_len (tb : Tbl) (g : Str) : ∀ (layer f : Row), (nextGo tb g layer f).length ≤ f.length + costL tb g layer
  | [], f => Nat.le_refl _
  | p :: r, f => by
    have z := nextGo_len tb g r (edgeL (lookT tb p.1 g) p.2 f)
    have z2 := edgeL_len (lookT tb p.1 g) p.2 f
    show (nextGo tb g r (edgeL (lookT tb p.1 g) p.2 f)).length ≤ f.length + ((lookT tb p.1 g).length + costL tb g r)
    omega
theorem costL_take (tb : Tbl) (g : Str) (layer : Row) (i : Nat) : costL tb g (layer.take i) ≤ costL tb g layer := by
  unfold costL
  rw [← List.take_append_drop i layer, List.map_append, List.sum_append, List.take_append_drop]
  omega
def spNxL (K : PySem.W.Frag) : Sp := fun vs H Q _ => ∃ (a l : Addr) (g : Str) (tb : Tbl) (layer : Row), vs = [.ref a, .ref l, .str g] ∧ TbAt H a tb ∧ H l = some (.dK (rK layer)) ∧ (∀ e ∈ tb, e.2.1 ≠ l) ∧ costL tb g layer < 1000000 ∧
  ∀ H' F, Same H H' → H F = none → H' F = some (.dK (rK (nextL tb g layer))) → Q (.ref F) H'

section
variable {P : Program} {w : World} {K : PySem.W.Frag} {mg : Str → Option Value} {base : Heap}
theorem scNxL : FnScope ["table", "layer", "sign", "found", "state", "weight", "other", "more"] ["table", "layer", "sign"] (defScope sNxL) := ⟨rfl, rfl, rfl, by decide +kernel, rfl, by decide +kernel, by decide +kernel⟩
theorem ok_NxL {f : Addr} {fd : FuncData} (F : Fun K "next_layer" "next_layer" sNxL f fd) (T : Bt mg) : FnOk P w K mg base CX0 1 f fd ["table", "layer", "sign"] (spNxL K) := by
  refine F.ok scNxL (fun vs H Q E h => ?_) (fun cdv A outer s H vs Q E hr h => ?_)
  · obtain ⟨a, l, g, tb, layer, rfl, _⟩ := h
    rfl
  · obtain ⟨a, l, g, tb, layer, rfl, ta, el, nl, cost, k⟩ := h
    have hu1 : (A.deeper (envOfC "next_layer" (defScope sNxL) s.heap.objs.size f cdv)).units + 1 < cLine := by
      have z := hr.un
      omega
    refine ⟨_, (pss_cons (ps_set (i := 3) scNxL.nd rfl (.inl rfl) pe_dnewK)
      (pss_cons (ps_lock (ps_for PassesOwn.never rfl (pi_items (pv 1)) (pg_tup (by rfl) (pgs_cons (pg_name (i := 4) scNxL.nd rfl (.inl rfl)) (pgs_cons (pg_name (i := 5) scNxL.nd rfl (.inl rfl)) pgs_nil)))
        (pss_one (ps_or
          (ps_lock (ps_for PassesOwn.never rfl (pi_items (pe_dget2 hu1 (pv 0) (pe_tup (pa_cons (pv 4) (pa_cons (pv 2) pa_nil))) pe_dnewK ⟨rfl, rfl, rfl, rfl⟩)) (pg_tup (by rfl) (pgs_cons (pg_name (i := 6) scNxL.nd rfl (.inl rfl)) (pgs_cons (pg_name (i := 7) scNxL.nd rfl (.inl rfl)) pgs_nil)))
            (pss_one (ps_if (PW.pt (pw_or (pt_cmp (pc_dnotin hu1 (pv 6) (pv 3))) (pw_or1 (pt_cmpR op_lt (pe_op op_add (pv 5) (pv 7)) (pe_dget hu1 (pv 3) (pv 6) (fun _ _ => rfl)) (nomark _))))) (pss_one (ps_dput hu1 (pv 3) (pv 6) (pe_op op_add (pv 5) (pv 7)) rfl)) pss_nil))))
          (ps_for PassesOwn.never rfl (pi_items (pe_fz (pe_dget2 hu1 (pv 0) (pe_tup (pa_cons (pv 4) (pa_cons (pv 2) pa_nil))) pe_dnewK ⟨rfl, rfl, rfl, rfl⟩))) (pg_tup (by rfl) (pgs_cons (pg_name (i := 6) scNxL.nd rfl (.inl rfl)) (pgs_cons (pg_name (i := 7) scNxL.nd rfl (.inl rfl)) pgs_nil)))
            (pss_one (ps_if (PW.pt (pw_or (pt_cmp (pc_dnotin hu1 (pv 6) (pv 3))) (pw_or1 (pt_cmpR op_lt (pe_op op_add (pv 5) (pv 7)) (pe_dget hu1 (pv 3) (pv 6) (fun _ _ => rfl)) (nomark _))))) (pss_one (ps_dput hu1 (pv 3) (pv 6) (pe_op op_add (pv 5) (pv 7)) rfl)) pss_nil)))))))
      (pss_one (ps_ret (pv 3))))), ?_⟩
    intro F nF
    have sF : Same H (upd H F (.dK [])) := same_upd nF
    have eF : (upd H F (.dK [])) F = some (.dK []) := upd_same
    revert sF eF
    generalize upd H F (.dK []) = HF
    intro sF eF
    have elF := sF _ _ el
    have taF := ta.same sF
    have nFl : F ≠ l := fun z => by rw [← z, nF] at el; cases el
    have nFa : F ≠ a := fun z => by have := ta.tab; rw [← z, nF] at this; cases this
    refine ⟨l, _, elF, trivial, fun od => ?_⟩
    have kL : ∀ b o, HF b = some o → b ≠ l → (upd HF l (.frz od (.dK (rK layer)))) b = some o := fun b o e n => by rw [upd_ne n]; exact e
    have eL : (upd HF l (.frz od (.dK (rK layer)))) l = some (.frz od (.dK (rK layer))) := upd_same
    revert kL eL
    generalize upd HF l (.frz od (.dK (rK layer))) = HL
    intro kL eL
    have nal : a ≠ l := fun z => by have := ta.tab; rw [z, el] at this; cases this
    refine ⟨_, rfl, l, od, rK layer, rfl, eL, ?_⟩
    refine for_it walk_items (fun i σ H' => ∃ (u4 u5 u6 u7 : Option V), σ = [some (.ref a), some (.ref l), some (.str g), some (.ref F), u4, u5, u6, u7] ∧ H' l = some (.frz od (.dK (rK layer))) ∧ (∀ b o, HF b = some o → b ≠ l → b ≠ F → H' b = some o) ∧ H' F = some (.dK (rK (nextGo tb g (layer.take i) [])))) ⟨_, _, _, _, rfl, eL, fun b o e n _ => kL b o e n, kL _ _ eF nFl⟩ (fun i σ H' _ ⟨_, _, _, _, _, e, _, _⟩ => e) ?_ ?_
    · rintro i x σ H1 H2 hi ⟨u4, u5, u6, u7, rfl, el1, k1, eF1⟩ ⟨T0, kx, vx, rfl, nT, rfl, hk, hv⟩
      obtain ⟨p, hp, rfl, rfl⟩ := rK_entry hk hv
      have nTF : F ≠ T0 := ne_of_none eF1 nT
      have nTl : l ≠ T0 := ne_of_none el1 nT
      have sT : Same H1 (upd H1 T0 (.tup [.int p.1, .int p.2])) := same_upd nT
      have eT : (upd H1 T0 (.tup [.int p.1, .int p.2])) T0 = some (.tup [.int p.1, .int p.2]) := upd_same
      revert sT eT
      generalize upd H1 T0 (.tup [.int p.1, .int p.2]) = HT
      intro sT eT
      refine ⟨T0, _, rfl, SqT.of eT, rfl, _, _, rfl, _, _, rfl, rfl, ?_⟩
      have ts : layer.take (i + 1) = layer.take i ++ [p] := by rw [List.take_succ, hp]; rfl
      have fl : (nextGo tb g (layer.take i) []).length + (lookT tb p.1 g).length ≤ costL tb g layer := by
        have z := nextGo_len tb g (layer.take i) []
        have z2 := costL_take tb g layer (i + 1)
        rw [ts] at z2
        unfold costL at z2 z
        rw [List.map_append, List.sum_append] at z2
        have z3 : ([p].map fun p => (lookT tb p.1 g).length).sum = (lookT tb p.1 g).length := by simp
        rw [z3] at z2
        have z4 : ([] : Row).length = 0 := rfl
        unfold costL
        omega
      obtain ⟨f0, hf0⟩ : ∃ f0, f0 = nextGo tb g (layer.take i) [] := ⟨_, rfl⟩
      rw [← hf0] at eF1 fl
      have elT := sT _ _ el1
      have eFT := sT _ _ eF1
      have kT : ∀ b o, HF b = some o → b ≠ l → b ≠ F → HT b = some o := fun b o e n m => sT _ _ (k1 b o e n m)
      have eaT := kT _ _ taF.tab nal (Ne.symm nFa)
      -- what is behind the row
      have fin : ∀ (u6 u7 : Option V) (H' : Hp) (f1 : Row), f1 = edgeL (lookT tb p.1 g) p.2 f0 → (∀ b o, HT b = some o → b ≠ F → H' b = some o) → H' F = some (.dK (rK f1)) →
          ∃ (u4 u5 u6' u7' : Option V), [some (.ref a), some (.ref l), some (.str g), some (.ref F), some (.int p.1), some (.int p.2), u6, u7] = [some (.ref a), some (.ref l), some (.str g), some (.ref F), u4, u5, u6', u7'] ∧ H' l = some (.frz od (.dK (rK layer))) ∧ (∀ b o, HF b = some o → b ≠ l → b ≠ F → H' b = some o) ∧ H' F = some (.dK (rK (nextGo tb g (layer.take (i + 1)) []))) := by
        intro u6 u7 H' f1 e1 k' e'
        refine ⟨_, _, _, _, rfl, k' _ _ elT (Ne.symm nFl), fun b o e n m => k' _ _ (kT b o e n m) m, ?_⟩
        rw [ts, nextGo_snoc, ← hf0, ← e1]
        exact e'
      cases hfd : findT tb p.1 g with
      | some e =>
        obtain ⟨ad, row⟩ := e
        have hin := findT_in hfd
        have er : HT ad = some (.dK (rK row)) := kT _ _ (taF.rows _ hin) (nl _ hin) (fun z => by
          have q := ta.rows _ hin
          rw [show ((p.1, g), ad, row).2.1 = ad from rfl, z, nF] at q
          cases q)
        have nAF : ad ≠ F := fun z => by
          have q := ta.rows _ hin
          rw [show ((p.1, g), ad, row).2.1 = ad from rfl, z, nF] at q
          cases q
        have lk : lookT tb p.1 g = row := by unfold lookT; rw [hfd]; rfl
        rw [lk] at fl
        refine .inl ⟨ad, _, er, trivial, fun od2 => ?_⟩
        have kA : ∀ b o, HT b = some o → b ≠ ad → (upd HT ad (.frz od2 (.dK (rK row)))) b = some o := fun b o e n => by rw [upd_ne n]; exact e
        have eA : (upd HT ad (.frz od2 (.dK (rK row)))) ad = some (.frz od2 (.dK (rK row))) := upd_same
        revert kA eA
        generalize upd HT ad (.frz od2 (.dK (rK row))) = HA
        intro kA eA
        have naA : a ≠ ad := fun z => by rw [← z, eaT] at er; cases er
        have eaA := kA _ _ eaT naA
        refine ⟨_, rfl, a, rfl, .inr ⟨_, .inl eaA⟩, _, rfl, _, rfl, (by rw [sizeLine_eq]; show 2 ≤ 16777216; decide), fun kp nkp => ?_⟩
        have sK : Same HA (upd HA kp (.tup [.int p.1, .str g])) := same_upd nkp
        have eK : (upd HA kp (.tup [.int p.1, .str g])) kp = some (.tup [.int p.1, .str g]) := upd_same
        revert sK eK
        generalize upd HA kp (.tup [.int p.1, .str g]) = HK
        intro sK eK
        refine fun Z nZ => ?_
        have sZ : Same HK (upd HK Z (.dK [])) := same_upd nZ
        revert sZ
        generalize upd HK Z (.dK []) = HZ
        intro sZ
        have sAZ := sK.trans sZ
        have dg : DGet HZ a (.ref kp) (some (V.ref ad)) := by
          have z := DGet.t (k := [Sum.inl p.1, Sum.inr g]) (sAZ _ _ eaA) (sZ _ _ eK)
          rw [tK_get, hfd] at z
          exact z
        refine ⟨_, dg, ad, od2, rK row, rfl, sAZ _ _ eA, ?_⟩
        refine for_it walk_items (fun j σ H' => ∃ (u6 u7 : Option V), σ = [some (.ref a), some (.ref l), some (.str g), some (.ref F), some (.int p.1), some (.int p.2), u6, u7] ∧ H' ad = some (.frz od2 (.dK (rK row))) ∧ (∀ b o, HT b = some o → b ≠ ad → b ≠ F → H' b = some o) ∧ H' F = some (.dK (rK (edgeL (row.take j) p.2 f0)))) ⟨_, _, rfl, sAZ _ _ eA, fun b o e n _ => sAZ _ _ (kA b o e n), sAZ _ _ (kA _ _ eFT (Ne.symm nAF))⟩ (fun j σ H' _ ⟨_, _, _, e, _, _⟩ => e) ?_ ?_
        · rintro j x σ H1' H2' hj ⟨u6, u7, rfl, ea1, k1', eF1'⟩ ⟨T1, kx, vx, rfl, nT1, rfl, hk, hv⟩
          obtain ⟨q, hq, rfl, rfl⟩ := rK_entry hk hv
          have sU : Same H1' (upd H1' T1 (.tup [.int q.1, .int q.2])) := same_upd nT1
          have eU : (upd H1' T1 (.tup [.int q.1, .int q.2])) T1 = some (.tup [.int q.1, .int q.2]) := upd_same
          revert sU eU
          generalize upd H1' T1 (.tup [.int q.1, .int q.2]) = HU
          intro sU eU
          refine ⟨T1, _, rfl, SqT.of eU, rfl, _, _, rfl, _, _, rfl, rfl, ?_⟩
          have eFU := sU _ _ eF1'
          have eaU := sU _ _ ea1
          have kU : ∀ b o, HT b = some o → b ≠ ad → b ≠ F → HU b = some o := fun b o e n m => sU _ _ (k1' b o e n m)
          have tq : row.take (j + 1) = row.take j ++ [q] := by rw [List.take_succ, hq]; rfl
          have jl : j < row.length := (List.getElem?_eq_some_iff.mp hq).1
          have fle : (edgeL (row.take j) p.2 f0).length < 16777216 := by
            have z := edgeL_len (row.take j) p.2 f0
            rw [List.length_take] at z
            omega
          have gF := DGet.k (k := Sum.inl q.1) eFU
          rw [rK_get] at gF
          have put : DPut HU F (.int q.1) (.int (p.2 + q.2)) (upd HU F (.dK (rK (putR (edgeL (row.take j) p.2 f0) q.1 (p.2 + q.2))))) := by
            have z := DPut.k (k := Sum.inl q.1) (v := V.int (p.2 + q.2)) eFU (by unfold rK; rw [List.length_map, sizeLine_eq]; omega)
            rw [rK_put] at z
            exact z
          have nx : ∀ (H' : Hp) (f1 : Row), f1 = relax (edgeL (row.take j) p.2 f0) q.1 (p.2 + q.2) → (∀ b o, HU b = some o → b ≠ F → H' b = some o) → H' F = some (.dK (rK f1)) →
              ∃ (u6 u7 : Option V), [some (.ref a), some (.ref l), some (.str g), some (.ref F), some (.int p.1), some (.int p.2), some (.int q.1), some (.int q.2)] = [some (.ref a), some (.ref l), some (.str g), some (.ref F), some (.int p.1), some (.int p.2), u6, u7] ∧ H' ad = some (.frz od2 (.dK (rK row))) ∧ (∀ b o, HT b = some o → b ≠ ad → b ≠ F → H' b = some o) ∧ H' F = some (.dK (rK (edgeL (row.take (j + 1)) p.2 f0))) := by
            intro H' f1 e1 k' e'
            refine ⟨_, _, rfl, k' _ _ eaU nAF, fun b o e n m => k' _ _ (kU b o e n m) m, ?_⟩
            rw [tq, edgeL_snoc, ← e1]
            exact e'
          generalize edgeL (row.take j) p.2 f0 = f2 at gF put nx fle eFU
          cases ev : getR f2 q.1 with
          | none =>
            rw [ev] at gF
            refine ⟨_, rfl, _, rfl, F, _, rfl, gF, _, rfl, iteT (ifT rfl ?_)⟩
            refine ⟨_, rfl, _, rfl, _, _, rfl, rfl, _, rfl, _, rfl, F, _, rfl, put, ?_⟩
            exact nx _ _ (by unfold relax; rw [ev]) (fun b o e n => by rw [upd_ne n]; exact e) upd_same
          | some v =>
            rw [ev] at gF
            refine ⟨_, rfl, _, rfl, F, _, rfl, gF, _, rfl, iteF ?_⟩
            refine ⟨_, rfl, _, rfl, _, _, rfl, rfl, _, rfl, _, rfl, F, _, rfl, gF, _, _, rfl, rfl, _, rfl, ?_⟩
            by_cases c : p.2 + q.2 < v
            · refine ifT (decide_eq_true c) ?_
              refine ⟨_, rfl, _, rfl, _, _, rfl, rfl, _, rfl, _, rfl, F, _, rfl, put, ?_⟩
              exact nx _ _ (by unfold relax; rw [ev]; exact (if_pos c).symm) (fun b o e n => by rw [upd_ne n]; exact e) upd_same
            · refine ifF (decide_eq_false c) ?_
              exact nx _ _ (by unfold relax; rw [ev]; exact (if_neg c).symm) (fun b o e n => e) eFU
        · rintro σ H' ⟨u6, u7, rfl, ea', k', eF'⟩
          rw [List.take_of_length_le (by unfold rK; rw [List.length_map]; exact Nat.le_refl _)] at eF'
          refine ⟨ea', fin _ _ _ _ (by rw [lk]) (fun b o e n => ?_) (by rw [upd_ne (Ne.symm nAF)]; exact eF')⟩
          by_cases z : b = ad
          · rw [z, upd_same]
            rw [z, er] at e
            exact e
          · rw [upd_ne z]
            exact k' _ _ e z n
      | none =>
        have lk : lookT tb p.1 g = [] := by unfold lookT; rw [hfd]; rfl
        refine .inr ⟨_, rfl, a, rfl, .inr ⟨_, .inl eaT⟩, _, rfl, _, rfl, (by rw [sizeLine_eq]; show 2 ≤ 16777216; decide), fun kp nkp => ?_⟩
        have sK : Same HT (upd HT kp (.tup [.int p.1, .str g])) := same_upd nkp
        have eK : (upd HT kp (.tup [.int p.1, .str g])) kp = some (.tup [.int p.1, .str g]) := upd_same
        revert sK eK
        generalize upd HT kp (.tup [.int p.1, .str g]) = HK
        intro sK eK
        refine fun Z nZ => ?_
        have sZ : Same HK (upd HK Z (.dK [])) := same_upd nZ
        have eZ : (upd HK Z (.dK [])) Z = some (.dK []) := upd_same
        revert sZ eZ
        generalize upd HK Z (.dK []) = HZ
        intro sZ eZ
        have sAZ := sK.trans sZ
        have dg : DGet HZ a (.ref kp) none := by
          have z := DGet.t (k := [Sum.inl p.1, Sum.inr g]) (sAZ _ _ eaT) (sZ _ _ eK)
          rw [tK_get, hfd] at z
          exact z
        have nZT : ∀ b o, HT b = some o → b ≠ Z := fun b o e => ne_of_none (sK _ _ e) nZ
        refine ⟨_, dg, Z, _, eZ, trivial, fun od2 => ?_⟩
        refine ⟨Z, od2, rK [], rfl, upd_same, ?_⟩
        refine for_it walk_items (fun j σ H' => j = 0 ∧ ∃ (u6 u7 : Option V), σ = [some (.ref a), some (.ref l), some (.str g), some (.ref F), some (.int p.1), some (.int p.2), u6, u7] ∧ H' Z = some (.frz od2 (.dK (rK []))) ∧ (∀ b o, HT b = some o → H' b = some o)) ⟨rfl, _, _, rfl, upd_same, fun b o e => by rw [upd_ne (nZT _ _ e)]; exact sAZ _ _ e⟩ (fun j σ H' _ ⟨_, _, _, _, e, _⟩ => e) ?_ ?_
        · rintro j x σ H1' H2' hj _ _
          exact absurd hj (Nat.not_lt_zero _)
        · rintro σ H' ⟨_, u6, u7, rfl, _, k'⟩
          exact fin _ _ _ _ (by rw [lk]; rfl) (fun b o e _ => k' _ _ e) (k' _ _ eFT)
    · rintro σ H' ⟨u4, u5, u6, u7, rfl, el', k', eF'⟩
      rw [List.take_of_length_le (by unfold rK; rw [List.length_map]; exact Nat.le_refl _)] at eF'
      refine ⟨el', _, rfl, k _ F ?_ nF (by rw [upd_ne nFl]; exact eF')⟩
      intro b o e
      by_cases z : b = l
      · rw [z, upd_same]
        rw [z, el] at e
        exact e
      · rw [upd_ne z]
        exact k' _ _ (sF _ _ e) z (ne_of_none e nF)
end
end Lr

namespace Lr
open PySem PySem.Spec PyProof.Rows L2

/-- states below n, each once, with weights -/
structure RowOk (n : Nat) (r : Row) : Prop where
  nd : (r.map (·.1)).Nodup
  bd : ∀ p ∈ r, 0 ≤ p.1 ∧ p.1 < (n : Int) ∧ 0 ≤ p.2
theorem RowOk.len {n : Nat} {r : Row} (h : RowOk n r) : r.length ≤ n := by
  have z := nat_nodup_len ((r.map (·.1)).map Int.toNat) (List.range n) (by
    rw [List.nodup_iff_pairwise_ne, List.pairwise_map]
    have q := List.nodup_iff_pairwise_ne.mp h.nd
    refine List.Pairwise.imp_of_mem (fun {x y} hx hy ne => ?_) q
    obtain ⟨p, hp, rfl⟩ := List.mem_map.mp hx
    obtain ⟨p', hp', rfl⟩ := List.mem_map.mp hy
    have a := h.bd p hp
    have b := h.bd p' hp'
    omega) (fun x hx => by
    obtain ⟨y, hy, rfl⟩ := List.mem_map.mp hx
    obtain ⟨p, hp, rfl⟩ := List.mem_map.mp hy
    have a := h.bd p hp
    exact List.mem_range.mpr (by omega))
  simpa using z
theorem RowOk.nil (n : Nat) : RowOk n [] := ⟨List.nodup_nil, fun _ h => nomatch h⟩
theorem putR_keys (r : Row) (x w : Int) : (putR r x w).map (·.1) = if x ∈ r.map (·.1) then r.map (·.1) else r.map (·.1) ++ [x] := by
  unfold putR
  have e : (r.any fun p => decide (p.1 = x)) = decide (x ∈ r.map (·.1)) := by
    rw [Bool.eq_iff_iff, List.any_eq_true, decide_eq_true_eq, List.mem_map]
    exact ⟨fun ⟨p, hp, h⟩ => ⟨p, hp, of_decide_eq_true h⟩, fun ⟨p, hp, h⟩ => ⟨p, hp, decide_eq_true h⟩⟩
  rw [e]
  by_cases c : x ∈ r.map (·.1)
  · rw [if_pos (decide_eq_true c), if_pos c, List.map_map]
    refine List.map_congr_left fun p _ => ?_
    show (if p.1 = x then (p.1, w) else p).1 = p.1
    split <;> rfl
  · rw [if_neg (by rw [decide_eq_true_eq]; exact c), if_neg c, List.map_append]
    rfl
theorem putR_mem {r : Row} {x w : Int} {p : Int × Int} (h : p ∈ putR r x w) : p ∈ r ∨ p = (x, w) := by
  unfold putR at h
  split at h
  · obtain ⟨q, hq, rfl⟩ := List.mem_map.mp h
    split
    · rename_i e
      exact .inr (by rw [e])
    · exact .inl hq
  · rcases List.mem_append.mp h with h | h
    · exact .inl h
    · exact .inr (List.mem_singleton.mp h)
theorem RowOk.put {n : Nat} {r : Row} (h : RowOk n r) {x w : Int} (hx : 0 ≤ x) (hn : x < (n : Int)) (hw : 0 ≤ w) : RowOk n (putR r x w) := by
  refine ⟨?_, fun p hp => ?_⟩
  · rw [putR_keys]
    split
    · exact h.nd
    · rename_i c
      rw [List.nodup_append]
      exact ⟨h.nd, (by simp), fun a ha b hb e => c (by rw [← List.mem_singleton.mp hb, ← e]; exact ha)⟩
  · rcases putR_mem hp with hp | rfl
    · exact h.bd p hp
    · exact ⟨hx, hn, hw⟩
theorem RowOk.relax {n : Nat} {r : Row} (h : RowOk n r) {x w : Int} (hx : 0 ≤ x) (hn : x < (n : Int)) (hw : 0 ≤ w) : RowOk n (relax r x w) := by
  unfold Lr.relax
  split
  · exact h.put hx hn hw
  · split
    · exact h.put hx hn hw
    · exact h
theorem RowOk.edge {n : Nat} : ∀ {row : Row} {w : Int} {f : Row}, (∀ p ∈ row, 0 ≤ p.1 ∧ p.1 < (n : Int) ∧ 0 ≤ p.2) → 0 ≤ w → RowOk n f → RowOk n (edgeL row w f)
  | [], _, _, _, _, h => h
  | q :: r, w, f, hr, hw, h => by
    obtain ⟨a, b, c⟩ := hr q List.mem_cons_self
    exact RowOk.edge (row := r) (fun p hp => hr p (List.mem_cons_of_mem _ hp)) hw (h.relax a b (by omega))
def TbOk (n : Nat) (tb : Tbl) : Prop := ∀ e ∈ tb, RowOk n e.2.2
theorem look_ok {n : Nat} {tb : Tbl} (h : TbOk n tb) (s : Int) (g : Str) : RowOk n (lookT tb s g) := by
  unfold lookT
  cases e : findT tb s g with
  | none => exact RowOk.nil n
  | some x => exact h _ (findT_in e)
theorem RowOk.nextGo {n : Nat} {tb : Tbl} (h : TbOk n tb) (g : Str) : ∀ {layer f : Row}, (∀ p ∈ layer, 0 ≤ p.2) → RowOk n f → RowOk n (nextGo tb g layer f)
  | [], f, _, hf => hf
  | p :: r, f, hl, hf => RowOk.nextGo h g (layer := r) (fun q hq => hl q (List.mem_cons_of_mem _ hq)) (RowOk.edge (look_ok h p.1 g).bd (hl p List.mem_cons_self) hf)
theorem RowOk.next {n : Nat} {tb : Tbl} (h : TbOk n tb) (g : Str) {layer : Row} (hl : RowOk n layer) : RowOk n (nextL tb g layer) := RowOk.nextGo h g (fun p hp => (hl.bd p hp).2.2) (RowOk.nil n)
theorem cost_ok {n : Nat} {tb : Tbl} (h : TbOk n tb) (g : Str) {layer : Row} (hl : RowOk n layer) (n9 : n ≤ 900) : costL tb g layer < 1000000 := by
  have z : ∀ l : Row, costL tb g l ≤ l.length * n := by
    intro l
    induction l with
    | nil => exact Nat.zero_le _
    | cons p r ih =>
      have a := (look_ok h p.1 g).len
      show (lookT tb p.1 g).length + costL tb g r ≤ _
      rw [List.length_cons, Nat.succ_mul]
      omega
  have a := z layer
  have b := Nat.mul_le_mul_right n hl.len
  have c : n * n ≤ 900 * 900 := Nat.mul_le_mul n9 n9
  omega
/-- the layers behind none, one, .. of the signs -/
def layP (tb : Tbl) : Row → List Str → List Row
  | r, [] => [r]
  | r, g :: ws => r :: layP tb (nextL tb g r) ws
def reachP (tb : Tbl) (r : Row) (ws : List Str) : Row := ws.foldl (fun r g => nextL tb g r) r
theorem layP_snoc (tb : Tbl) (g : Str) : ∀ (ws : List Str) (r : Row), layP tb r (ws ++ [g]) = layP tb r ws ++ [nextL tb g (reachP tb r ws)]
  | [], r => rfl
  | h :: ws, r => by
    show r :: layP tb (nextL tb h r) (ws ++ [g]) = r :: (layP tb (nextL tb h r) ws ++ [nextL tb g (reachP tb (nextL tb h r) ws)])
    rw [layP_snoc tb g ws]
theorem layP_len (tb : Tbl) : ∀ (ws : List Str) (r : Row), (layP tb r ws).length = ws.length + 1
  | [], _ => rfl
  | g :: ws, r => by
    show (layP tb (nextL tb g r) ws).length + 1 = _
    rw [layP_len tb ws]
    rfl
theorem layP_last (tb : Tbl) : ∀ (ws : List Str) (r : Row), (layP tb r ws)[ws.length]? = some (reachP tb r ws)
  | [], _ => rfl
  | g :: ws, r => layP_last tb ws (nextL tb g r)
theorem reach_ok {n : Nat} {tb : Tbl} (h : TbOk n tb) : ∀ (ws : List Str) {r : Row}, RowOk n r → RowOk n (reachP tb r ws)
  | [], _, hr => hr
  | g :: ws, r, hr => reach_ok h ws (RowOk.next h g hr)
theorem row0_ok {n : Nat} {s : Int} (h0 : 0 ≤ s) (h1 : s < (n : Int)) : RowOk n [(s, 0)] := ⟨(by simp), fun p hp => by rw [List.mem_singleton.mp hp]; exact ⟨h0, h1, Int.le_refl _⟩⟩
end Lr

namespace Lr
open PySem PySem.Spec PyProof.Rows L2

theorem paired_get2 {α β : Type} {F : α → β → Prop} : ∀ {xs : List α} {ys : List β}, Paired F xs ys → ∀ {i : Nat} {y : β}, ys[i]? = some y → ∃ x, xs[i]? = some x ∧ F x y
  | _, _, .nil, i, y, h => by simp at h
  | _, _, .cons h t, i, y, e => by
    cases i with
    | zero =>
      cases e
      exact ⟨_, rfl, h⟩
    | succ i => exact paired_get2 t (i := i) e
theorem nodup_snoc2 {α : Type} {l : List α} {x : α} (h : l.Nodup) (n : x ∉ l) : (l ++ [x]).Nodup := by
  rw [List.nodup_append]
  refine ⟨h, List.nodup_cons.mpr ⟨List.not_mem_nil, List.nodup_nil⟩, fun a ha b hb e => ?_⟩
  rw [List.mem_singleton.mp hb] at e
  exact n (e ▸ ha)
theorem paired_snoc2 {α β : Type} {F : α → β → Prop} : ∀ {xs : List α} {ys : List β} {x : α} {y : β}, Paired F xs ys → F x y → Paired F (xs ++ [x]) (ys ++ [y])
  | _, _, _, _, .nil, h => .cons h .nil
  | _, _, _, _, .cons a t, h => .cons a (paired_snoc2 t h)
theorem paired_imp {α β : Type} {F G : α → β → Prop} (h : ∀ x y, F x y → G x y) : ∀ {xs : List α} {ys : List β}, Paired F xs ys → Paired G xs ys
  | _, _, .nil => .nil
  | _, _, .cons a t => .cons (h _ _ a) (paired_imp h t)
def spLy (K : PySem.W.Frag) : Sp := fun vs H Q _ => ∃ (a u : Addr) (s : Int) (ws : List Str) (tb : Tbl) (n : Nat), vs = [.ref a, .int s, .ref u] ∧ TbAt H a tb ∧ SqT K H u (ws.map V.str) ∧ TbOk n tb ∧ n ≤ 900 ∧ 0 ≤ s ∧ s < (n : Int) ∧ ws.length ≤ 10000 ∧
  ∀ (H' : Hp) (L : Addr) (ds : List Addr), Same H H' → H' L = some (.lst (ds.map V.ref)) → Paired (fun d r => H' d = some (.dK (rK r))) ds (layP tb [(s, 0)] ws) → (∀ d ∈ ds, H d = none) → Q (.ref L) H'
def spRch (K : PySem.W.Frag) : Sp := fun vs H Q _ => ∃ (a u : Addr) (s : Int) (ws : List Str) (tb : Tbl) (n : Nat), vs = [.ref a, .int s, .ref u] ∧ TbAt H a tb ∧ SqT K H u (ws.map V.str) ∧ TbOk n tb ∧ n ≤ 900 ∧ 0 ≤ s ∧ s < (n : Int) ∧ ws.length ≤ 10000 ∧
  ∀ (H' : Hp) (d : Addr), Same H H' → H d = none → H' d = some (.dK (rK (reachP tb [(s, 0)] ws))) → Q (.ref d) H'
def spSgO (K : PySem.W.Frag) : Sp := fun vs H Q _ => ∃ (h u : Addr) (i : Int) (top : Str) (ws : List Str), vs = [.ref h, .ref u] ∧ SqT K H h [.int i, .str top] ∧ SqT K H u (ws.map V.str) ∧ ws.length ≤ 10000 ∧ top.length ≤ sizeLine ∧
  ∀ (H' : Hp) (v : Addr), Same H H' → SqT K H' v ((if top = "" then ws ++ [("" : Str)] else ws).map V.str) → Q (.ref v) H'

section
variable {P : Program} {w : World} {K : PySem.W.Frag} {mg : Str → Option Value} {base : Heap}
theorem scLy : FnScope ["table", "state", "signs", "found", "sign"] ["table", "state", "signs"] (defScope sLy) := ⟨rfl, rfl, rfl, by decide +kernel, rfl, by decide +kernel, by decide +kernel⟩
theorem scRch : FnScope ["table", "state", "signs"] ["table", "state", "signs"] (defScope sRch) := ⟨rfl, rfl, rfl, by decide +kernel, rfl, by decide +kernel, by decide +kernel⟩
theorem scSgO : FnScope ["head", "word"] ["head", "word"] (defScope sSgO) := ⟨rfl, rfl, rfl, by decide +kernel, rfl, by decide +kernel, by decide +kernel⟩
theorem ixLE {X : Cx} {K : PySem.W.Frag} (h : X.K = K := by rfl) : IxR X (rIxL K) := h ▸ ix_list
theorem at_last (xs : List V) (x : V) : atI (xs ++ [x]) (-1) = some x := by
  unfold atI
  have z : ixN (xs ++ [x]).length (-1) = some xs.length := by
    unfold ixN
    rw [List.length_append]
    simp
    omega
  rw [z]
  simp
theorem ok_Ly {f : Addr} {fd : FuncData} {fNxL : Addr} {fdNxL : FuncData} (F : Fun K "layers" "layers" sLy f fd) (T : Bt mg) (CNxL : Cal K mg "next_layer" fNxL fdNxL ["table", "layer", "sign"]) (GNxL : FnOk P w K mg base CX0 1 fNxL fdNxL ["table", "layer", "sign"] (spNxL K)) : FnOk P w K mg base CX0 2 f fd ["table", "state", "signs"] (spLy K) := by
  refine F.ok scLy (fun vs H Q E h => ?_) (fun cdv A outer s H vs Q E hr h => ?_)
  · obtain ⟨a, u, st, ws, tb, n, rfl, _⟩ := h
    rfl
  · obtain ⟨a, u, st, ws, tb, n, rfl, ta, su, tok, n9, s0, s1', wl, k⟩ := h
    have hr1 : Room 1 (A.deeper (envOfC "layers" (defScope sLy) s.heap.objs.size f cdv)) := Room.mono hr (by decide)
    refine ⟨_, (pss_cons (ps_set (i := 3) scLy.nd rfl (.inl rfl) (pe_lst (pa_cons (pe_disp (pps_cons (pv 1) pe_int pps_nil) rfl rfl (by simp) (by decide)) pa_nil)))
      (pss_cons (ps_for PassesOwn.never rfl (pi_tup (pv 2)) (pg_name (i := 4) scLy.nd rfl (.inl rfl))
        (pss_one (ps_expr (pe_bm PySem.F.plainAttrs_list PySem.F.slot_list_append PySem.F.type_list_append mt_append (pv 3) (pa_cons (pe_call GNxL hr1 (by rfl) CNxL.g CNxL.k CNxL.b .nil pass0 (pa_cons (pv 0) (pa_cons (pe_ix (ixLE (K := K)) (pv 3) (pe_un un_neg pe_int) (fun _ _ => rfl)) (pa_cons (pv 4) pa_nil)))) pa_nil)))))
      (pss_one (ps_ret (pv 3))))), ?_⟩
    have e0 : mergeK [] [((Sum.inl st : Key), V.int 0)] = rK [(st, 0)] := rfl
    refine fun D0 nD0 => ⟨_, rfl, upd_same, [(Sum.inl st, .int 0)], rfl, (by show 1 ≤ 15; decide), ?_⟩
    rw [e0]
    refine ⟨by rw [sizeLine_eq]; show 1 ≤ 16777216; decide, fun L nL => ?_⟩
    have sD : Same H (upd (upd H D0 (.dK [])) D0 (.dK (rK [(st, 0)]))) := fun b o e => by
      have ne := ne_of_none e nD0
      rw [upd_ne ne, upd_ne ne]
      exact e
    have eD : (upd (upd H D0 (.dK [])) D0 (.dK (rK [(st, 0)]))) D0 = some (.dK (rK [(st, 0)])) := upd_same
    revert sD eD nL
    generalize upd (upd H D0 (.dK [])) D0 (.dK (rK [(st, 0)])) = HD
    intro nL sD eD
    have sL : Same HD (upd HD L (.lst [V.ref D0])) := same_upd nL
    have eL : (upd HD L (.lst [V.ref D0])) L = some (.lst [V.ref D0]) := upd_same
    revert sL eL
    generalize upd HD L (.lst [V.ref D0]) = HL
    intro sL eL
    have nLH : H L = none := sD.free nL
    have s0L := sD.trans sL
    refine ⟨_, rfl, u, rfl, ⟨_, (Tk.of s0L).seq su⟩, ?_⟩
    refine for_tup (K := K) (a := u) (xs := ws.map V.str) (fun i σ H' => ∃ (u4 : Option V) (ds : List Addr), σ = [some (.ref a), some (.int st), some (.ref u), some (.ref L), u4] ∧ Same H H' ∧ H' L = some (.lst (ds.map V.ref)) ∧ Paired (fun d r => H' d = some (.dK (rK r))) ds (layP tb [(st, 0)] (ws.take i)) ∧ ∀ d ∈ ds, H d = none) ⟨_, [D0], rfl, s0L, eL, .cons (sL _ _ eD) .nil, fun d hd => by rw [List.mem_singleton.mp hd]; exact nD0⟩ (fun i σ H' _ ⟨_, _, _, s, _⟩ => (Tk.of s).seq su) ?_ ?_
    · rintro i x σ H1 hi ⟨u4, ds, rfl, s1, eL1, pr, fr⟩
      rw [List.getElem?_map, Option.map_eq_some_iff] at hi
      obtain ⟨g, hg, rfl⟩ := hi
      have tk : ws.take (i + 1) = ws.take i ++ [g] := by rw [List.take_succ, hg]; rfl
      have il : i ≤ ws.length := Nat.le_of_lt (List.getElem?_eq_some_iff.mp hg).1
      have ll : (layP tb [(st, 0)] (ws.take i)).length = i + 1 := by rw [layP_len, List.length_take, Nat.min_eq_left il]
      have dl : ds.length = i + 1 := by rw [← ll]; exact Paired.length pr
      obtain ⟨d, hd, ed⟩ : ∃ d, ds[i]? = some d ∧ H1 d = some (.dK (rK (reachP tb [(st, 0)] (ws.take i)))) := by
        have z := layP_last tb (ws.take i) [(st, 0)]
        rw [List.length_take, Nat.min_eq_left il] at z
        obtain ⟨d, h1, h2⟩ := paired_get2 pr z
        exact ⟨d, h1, h2⟩
      have dlast : ∃ xs, ds.map V.ref = xs ++ [V.ref d] := by
        obtain ⟨xs, y, e⟩ : ∃ xs y, ds = xs ++ [y] := by
          rcases List.eq_nil_or_concat ds with e | ⟨xs, y, e⟩
          · rw [e] at dl
            simp at dl
          · exact ⟨xs, y, by rw [e, List.concat_eq_append]⟩
        subst e
        rw [List.length_append] at dl
        have z : xs.length = i := by simpa using dl
        rw [List.getElem?_append_right (by omega), z, Nat.sub_self] at hd
        injection hd with hd
        exact ⟨xs.map V.ref, by rw [List.map_append, hd]; rfl⟩
      obtain ⟨xs, exs⟩ := dlast
      have lok := reach_ok tok (ws.take i) (row0_ok s0 s1')
      have eLl : H1 L = some (.lst (xs ++ [V.ref d])) := by rw [← exs]; exact eL1
      have hdn : H d = none := fr d (List.mem_of_getElem? hd)
      refine ⟨_, rfl, .inl ⟨rfl, _, SqL.of eLl⟩, _, rfl, _, rfl, 1, rfl, L, _, _, V.ref d, rfl, rfl, SqL.of eLl, at_last xs (V.ref d), _, rfl, a, d, g, tb, _, rfl, ta.same s1, ed, fun e he z => ?_, cost_ok tok g lok n9, fun H2 F2 s2 n2 e2 => ?_⟩
      · have q := ta.rows e he
        rw [z, hdn] at q
        cases q
      have eL2 := s2 _ _ eL1
      refine ⟨L, _, _, rfl, rfl, eL2, by rw [List.length_map, dl, sizeLine_eq]; omega, ?_⟩
      have nF2 : L ≠ F2 := ne_of_none eL1 n2
      refine ⟨_, ds ++ [F2], rfl, fun b o e => ?_, by rw [upd_same, List.map_append]; rfl, ?_, fun b hb => ?_⟩
      · rw [upd_ne (ne_of_none e nLH)]
        exact s2 _ _ (s1 _ _ e)
      · rw [tk, layP_snoc]
        refine paired_snoc2 (paired_imp (fun b r e => ?_) pr) ?_
        · have q := s2 _ _ e
          rw [upd_ne (fun z => by rw [z, eL2] at q; cases q)]
          exact q
        · show (upd H2 L _) F2 = _
          rw [upd_ne (Ne.symm nF2)]
          exact e2
      · rcases List.mem_append.mp hb with hb | hb
        · exact fr b hb
        · rw [List.mem_singleton.mp hb]
          exact s1.free n2
    · rintro σ H1 ⟨u4, ds, rfl, s1, eL1, pr, fr⟩
      rw [List.length_map, List.take_length] at pr
      exact ⟨_, rfl, k _ _ ds s1 eL1 pr fr⟩
theorem ok_Rch {f : Addr} {fd : FuncData} {fLy : Addr} {fdLy : FuncData} (F : Fun K "reached" "reached" sRch f fd) (T : Bt mg) (CLy : Cal K mg "layers" fLy fdLy ["table", "state", "signs"]) (GLy : FnOk P w K mg base CX0 2 fLy fdLy ["table", "state", "signs"] (spLy K)) : FnOk P w K mg base CX0 3 f fd ["table", "state", "signs"] (spRch K) := by
  refine F.ok scRch (fun vs H Q E h => ?_) (fun cdv A outer s H vs Q E hr h => ?_)
  · obtain ⟨a, u, st, ws, tb, n, rfl, _⟩ := h
    rfl
  · obtain ⟨a, u, st, ws, tb, n, rfl, ta, su, tok, n9, s0, s1', wl, k⟩ := h
    have hr2 : Room 2 (A.deeper (envOfC "reached" (defScope sRch) s.heap.objs.size f cdv)) := Room.mono hr (by decide)
    refine ⟨_, (pss_one (ps_ret (pe_ix (ixLE (K := K)) (pe_call GLy hr2 (by rfl) CLy.g CLy.k CLy.b .nil pass0 (pa_cons (pv 0) (pa_cons (pv 1) (pa_cons (pv 2) pa_nil)))) (pe_un un_neg pe_int) (fun _ _ => rfl)))), ?_⟩
    refine ⟨_, rfl, _, rfl, _, rfl, a, u, st, ws, tb, n, rfl, ta, su, tok, n9, s0, s1', wl, fun H1 L ds s1 eL pr fr => ?_⟩
    have ll := layP_len tb ws [(st, 0)]
    have dl : ds.length = ws.length + 1 := by rw [← ll]; exact Paired.length pr
    obtain ⟨d, hd, ed⟩ := paired_get2 pr (layP_last tb ws [(st, 0)])
    obtain ⟨xs, y, e⟩ : ∃ xs y, ds = xs ++ [y] := by
      rcases List.eq_nil_or_concat ds with e | ⟨xs, y, e⟩
      · rw [e] at dl
        simp at dl
      · exact ⟨xs, y, by rw [e, List.concat_eq_append]⟩
    subst e
    rw [List.length_append] at dl
    have z : xs.length = ws.length := by simpa using dl
    rw [List.getElem?_append_right (by omega), z, Nat.sub_self] at hd
    injection hd with hd
    subst hd
    rw [List.map_append] at eL
    exact ⟨1, rfl, L, _, _, V.ref y, rfl, rfl, SqL.of eL, at_last _ _, k H1 y s1 (fr y (List.mem_append_right _ List.mem_cons_self)) ed⟩
end
end Lr

namespace Lr
open PySem PySem.Spec PyProof.Rows L2
section
variable {P : Program} {w : World} {K : PySem.W.Frag} {mg : Str → Option Value} {base : Heap}
theorem ok_SgO {f : Addr} {fd : FuncData} (F : Fun K "signs_of" "signs_of" sSgO f fd) (T : Bt mg) : FnOk P w K mg base CX0 1 f fd ["head", "word"] (spSgO K) := by
  refine F.ok scSgO (fun vs H Q E h => ?_) (fun cdv A outer s H vs Q E hr h => ?_)
  · obtain ⟨h0, u, i, top, ws, rfl, _⟩ := h
    rfl
  · obtain ⟨h0, u, i, top, ws, rfl, sh, su, wl, tl, k⟩ := h
    refine ⟨_, (pss_one (ps_ret (pe_ifExp (pt_truth (pe_ix ix_tup (pv 0) pe_int (fun _ _ => rfl)) (fun _ => rfl)) (pv 1) (pe_tup (StX.pa_star (pv 1) (pa_cons pe_str pa_nil)))))), ?_⟩
    by_cases c : top = ""
    · rw [if_pos c] at k
      subst c
      refine ⟨_, rfl, h0, _, _, _, rfl, rfl, sh, rfl, false, ⟨by decide, rfl⟩, ifF rfl ?_⟩
      refine ⟨_, rfl, u, _, rfl, .inl su, by rw [List.length_append, List.length_map, sizeLine_eq]; show ws.length + 1 ≤ 16777216; omega, fun v nv => ?_⟩
      exact k _ v (same_upd nv) (SqT.of (by rw [upd_same, List.map_append]; rfl))
    · rw [if_neg c] at k
      have nz : top.length ≠ 0 := fun z => c (by
        cases top with
        | mk cps =>
          have z : cps.size = 0 := z
          have e : cps = #[] := Array.eq_empty_of_size_eq_zero z
          rw [e]
          rfl)
      refine ⟨_, rfl, h0, _, _, _, rfl, rfl, sh, rfl, true, ⟨tl, (bne_iff_ne.mpr (by omega)).symm⟩, ifT rfl ?_⟩
      exact ⟨_, rfl, k H u (Same.refl H) su⟩
end
end Lr

namespace Lr
open PySem PySem.Spec PyProof.Rows L2

def insT (tb : Tbl) (k : Int × Str) (ad : Addr) : Tbl := if (findT tb k.1 k.2).isSome = true then tb else tb ++ [(k, ad, [])]
def setT (tb : Tbl) (k : Int × Str) (row : Row) : Tbl := tb.map fun e => if e.1 = k then (e.1, e.2.1, row) else e
/-- whether an entry is one to add or to make lighter -/
def litB (row : Row) (p : Int × Int) : Bool := match getR row p.1 with
  | none => true
  | some v => decide (p.2 + 1 < v)
def putAll (row ls : Row) : Row := ls.foldl (fun r p => putR r p.1 (p.2 + 1)) row
def sgW (top : Str) (ws : List Str) : List Str := if top = "" then ws ++ [("" : Str)] else ws
theorem findT_snoc {tb : Tbl} {k : Int × Str} {x : Addr × Row} (h : findT tb k.1 k.2 = none) (s : Int) (g : Str) : findT (tb ++ [(k, x)]) s g = if k = (s, g) then some x else findT tb s g := by
  unfold findT at *
  rw [List.find?_append]
  by_cases c : k = (s, g)
  · rw [if_pos c]
    have z : tb.find? (fun e => decide (e.1 = (s, g))) = none := by
      rw [← c]
      cases e : tb.find? (fun e => decide (e.1 = k)) with
      | none => rfl
      | some y =>
        rw [show (k.1, k.2) = k from rfl, e] at h
        cases h
    rw [z]
    simp [c]
  · rw [if_neg c]
    cases e : tb.find? (fun e => decide (e.1 = (s, g))) with
    | none => simp [c]
    | some y => rfl
theorem findT_ins (tb : Tbl) (k : Int × Str) (ad : Addr) : ∃ ad', findT (insT tb k ad) k.1 k.2 = some (ad', lookT tb k.1 k.2) := by
  unfold insT lookT
  cases e : findT tb k.1 k.2 with
  | some x =>
    rw [if_pos (show (some x).isSome = true from rfl), e]
    exact ⟨x.1, rfl⟩
  | none =>
    rw [if_neg (by simp), findT_snoc e, if_pos rfl]
    exact ⟨ad, rfl⟩
theorem look_ins (tb : Tbl) (k : Int × Str) (ad : Addr) (s : Int) (g : Str) : lookT (insT tb k ad) s g = lookT tb s g := by
  unfold insT
  cases e : findT tb k.1 k.2 with
  | some x => rw [if_pos (show (some x).isSome = true from rfl)]
  | none =>
    rw [if_neg (by simp)]
    unfold lookT
    rw [findT_snoc e]
    by_cases c : k = (s, g)
    · rw [if_pos c, ← show findT tb k.1 k.2 = findT tb s g by rw [c], e]
      rfl
    · rw [if_neg c]
theorem next_ins (tb : Tbl) (k : Int × Str) (ad : Addr) (g : Str) (r : Row) : nextL (insT tb k ad) g r = nextL tb g r := by
  unfold nextL
  congr 1
  funext f p
  rw [look_ins]
theorem reach_ins (tb : Tbl) (k : Int × Str) (ad : Addr) : ∀ (ws : List Str) (r : Row), reachP (insT tb k ad) r ws = reachP tb r ws
  | [], _ => rfl
  | g :: ws, r => by
    show reachP (insT tb k ad) (nextL (insT tb k ad) g r) ws = reachP tb (nextL tb g r) ws
    rw [next_ins, reach_ins tb k ad ws]
theorem ins_ok {n : Nat} {tb : Tbl} (h : TbOk n tb) (k : Int × Str) (ad : Addr) : TbOk n (insT tb k ad) := by
  unfold insT
  split
  · exact h
  · intro e he
    rcases List.mem_append.mp he with he | he
    · exact h e he
    · rw [List.mem_singleton.mp he]
      exact RowOk.nil n
theorem get_mem {r : Row} (nd : (r.map (·.1)).Nodup) {p : Int × Int} (h : p ∈ r) : getR r p.1 = some p.2 := by
  induction r with
  | nil => cases h
  | cons q r ih =>
    rw [List.map_cons, List.nodup_cons] at nd
    rcases List.mem_cons.mp h with rfl | h
    · simp [getR, List.find?_cons]
    · have ne : q.1 ≠ p.1 := fun e => nd.1 (by rw [e]; exact List.mem_map_of_mem h)
      have z := ih nd.2 h
      unfold getR at z ⊢
      rw [List.find?_cons, decide_eq_false ne]
      exact z
theorem putAll_len : ∀ (ls row : Row), (putAll row ls).length ≤ row.length + ls.length
  | [], row => Nat.le_refl _
  | p :: r, row => by
    have z := putAll_len r (putR row p.1 (p.2 + 1))
    have z2 := putR_len row p.1 (p.2 + 1)
    show (putAll (putR row p.1 (p.2 + 1)) r).length ≤ _
    rw [List.length_cons]
    omega
theorem putAll_snoc (row ls : Row) (p : Int × Int) : putAll row (ls ++ [p]) = putR (putAll row ls) p.1 (p.2 + 1) := by
  unfold putAll
  rw [List.foldl_append]
  rfl
theorem map_one {α β : Type} {f : α → β} : ∀ {l : List α}, (l.map f).Nodup → ∀ {x y : α}, x ∈ l → y ∈ l → f x = f y → x = y
  | [], _, _, _, h, _, _ => nomatch h
  | z :: l, nd, x, y, hx, hy, e => by
    rw [List.map_cons, List.nodup_cons] at nd
    rcases List.mem_cons.mp hx with e1 | h1
    · rcases List.mem_cons.mp hy with e2 | h2
      · rw [e1, e2]
      · rw [e1] at e
        exact absurd (e ▸ List.mem_map_of_mem h2) nd.1
    · rcases List.mem_cons.mp hy with e2 | h2
      · rw [e2] at e
        exact absurd (e ▸ List.mem_map_of_mem h1) nd.1
      · exact map_one nd.2 h1 h2 e
theorem TbAt.set {H H' : Hp} {a ad : Addr} {tb : Tbl} {i : Int} {g : Str} {row row' : Row} (t : TbAt H a tb) (f : findT tb i g = some (ad, row)) (k : ∀ b o, H b = some o → b ≠ ad → H' b = some o) (e : H' ad = some (.dK (rK row'))) : TbAt H' a (setT tb (i, g) row') := by
  have hin := findT_in f
  have ta := t.tab
  have tr := t.rows _ hin
  have kk : tK (setT tb (i, g) row') = tK tb := by
    unfold tK setT
    rw [List.map_map]
    refine List.map_congr_left fun x _ => ?_
    show ([Sum.inl (if x.1 = (i, g) then (x.1, x.2.1, row') else x).1.1, Sum.inr (if x.1 = (i, g) then (x.1, x.2.1, row') else x).1.2], V.ref (if x.1 = (i, g) then (x.1, x.2.1, row') else x).2.1) = _
    split <;> rfl
  refine ⟨?_, fun x hx => ?_, ?_, ?_⟩
  · rw [kk]
    exact k _ _ ta (fun z => by rw [z] at ta; have q := ta.symm.trans tr; cases q)
  · unfold setT at hx
    obtain ⟨y, hy, rfl⟩ := List.mem_map.mp hx
    by_cases c : y.1 = (i, g)
    · rw [if_pos c]
      have ey : y = ((i, g), ad, row) := map_one t.keys hy hin c
      rw [ey]
      exact e
    · rw [if_neg c]
      refine k _ _ (t.rows y hy) (fun z => c ?_)
      have ey : y = ((i, g), ad, row) := map_one t.adr hy hin z
      rw [ey]
  · have z : (setT tb (i, g) row').map (·.1) = tb.map (·.1) := by
      unfold setT
      rw [List.map_map]
      refine List.map_congr_left fun x _ => ?_
      show (if x.1 = (i, g) then (x.1, x.2.1, row') else x).1 = x.1
      split <;> rfl
    rw [z]
    exact t.keys
  · have z : (setT tb (i, g) row').map (·.2.1) = tb.map (·.2.1) := by
      unfold setT
      rw [List.map_map]
      refine List.map_congr_left fun x _ => ?_
      show (if x.1 = (i, g) then (x.1, x.2.1, row') else x).2.1 = x.2.1
      split <;> rfl
    rw [z]
    exact t.adr
end Lr

namespace Lr
open PySem PySem.Spec PyProof.Rows L2

def spAE (K : PySem.W.Frag) : Sp := fun vs H Q _ => ∃ (a h c wd : Addr) (i out : Int) (top : Str) (ws : List Str) (tb : Tbl) (n : Nat), vs = [.ref a, .ref h, .ref c] ∧ TbAt H a tb ∧ H h = some (.tup [.int i, .str top]) ∧ SqT K H c [.int out, .ref wd] ∧ SqT K H wd (ws.map V.str) ∧ TbOk n tb ∧ n ≤ 900 ∧ 0 ≤ out ∧ out < (n : Int) ∧ ws.length ≤ 5000 ∧ top.length ≤ sizeLine ∧ tb.length < 100000 ∧
  ∀ (H' : Hp) (ad : Addr), (∀ b o, H b = some o → b ≠ a → (∀ e ∈ tb, b ≠ e.2.1) → H' b = some o) → (H ad = none ∨ ∃ row, findT tb i top = some (ad, row)) →
    TbAt H' a (setT (insT tb (i, top) ad) (i, top) (putAll (lookT tb i top) ((reachP tb [(out, 0)] (sgW top ws)).filter (litB (lookT tb i top))))) →
    Q (.bl (decide (0 < ((reachP tb [(out, 0)] (sgW top ws)).filter (litB (lookT tb i top))).length))) H'

section
variable {P : Program} {w : World} {K : PySem.W.Frag} {mg : Str → Option Value} {base : Heap}
theorem scAE : FnScope ["table", "head", "choice", "out", "word", "row", "wanted", "lighter", "state"] ["table", "head", "choice"] (defScope sAE) := ⟨rfl, rfl, rfl, by decide +kernel, rfl, by decide +kernel, by decide +kernel⟩
theorem ok_AE {f : Addr} {fd : FuncData} {fRch : Addr} {fdRch : FuncData} {fSgO : Addr} {fdSgO : FuncData} (F : Fun K "add_edges" "add_edges" sAE f fd) (T : Bt mg) (CRch : Cal K mg "reached" fRch fdRch ["table", "state", "signs"]) (GRch : FnOk P w K mg base CX0 3 fRch fdRch ["table", "state", "signs"] (spRch K)) (CSgO : Cal K mg "signs_of" fSgO fdSgO ["head", "word"]) (GSgO : FnOk P w K mg base CX0 1 fSgO fdSgO ["head", "word"] (spSgO K)) : FnOk P w K mg base CX0 4 f fd ["table", "head", "choice"] (spAE K) := by
  refine F.ok scAE (fun vs H Q E h => ?_) (fun cdv A outer s H vs Q E hr h => ?_)
  · obtain ⟨a, h0, c, wd, i, out, top, ws, tb, n, rfl, _⟩ := h
    rfl
  · obtain ⟨a, h0, c, wd, i, out, top, ws, tb, n, rfl, ta, eh, sc, sw, tok, n9, o0, o1, wl, tl, tbl, k⟩ := h
    have hr1 : Room 1 (A.deeper (envOfC "add_edges" (defScope sAE) s.heap.objs.size f cdv)) := Room.mono hr (by decide)
    have hr3 : Room 3 (A.deeper (envOfC "add_edges" (defScope sAE) s.heap.objs.size f cdv)) := Room.mono hr (by decide)
    have hu1 : (A.deeper (envOfC "add_edges" (defScope sAE) s.heap.objs.size f cdv)).units + 1 < cLine := by
      have z := hr.un
      omega
    refine ⟨_, (pss_cons (ps_asg (pv 2) (pg_tup (by rfl) (pgs_cons (pg_name (i := 3) scAE.nd rfl (by first | exact Or.inl rfl | exact Or.inr rfl)) (pgs_cons (pg_name (i := 4) scAE.nd rfl (by first | exact Or.inl rfl | exact Or.inr rfl)) pgs_nil))))
      (pss_cons (ps_join (ps_set (i := 5) scAE.nd rfl (by first | exact Or.inl rfl | exact Or.inr rfl) (pe_dsetdT hu1 (pv 0) (pv 1) pe_dnewK ⟨rfl, rfl, rfl, rfl⟩)))
      (pss_cons (ps_set (i := 6) scAE.nd rfl (by first | exact Or.inl rfl | exact Or.inr rfl) (pe_call GRch hr3 (by rfl) CRch.g CRch.k CRch.b .nil pass0 (pa_cons (pv 0) (pa_cons (pv 3) (pa_cons (pe_call GSgO hr1 (by rfl) CSgO.g CSgO.k CSgO.b .nil pass0 (pa_cons (pv 1) (pa_cons (pv 4) pa_nil))) pa_nil)))))
      (pss_cons (ps_lock (ps_setLc (i := 7) (own := [("state", 8)]) (g := gName 8) (te := tVar 8) (tt := _) rfl scAE.nd rfl rfl (sw_true rfl rfl rfl (by decide +kernel)) (pi_keys (pv 6)) (blkOk_by (N := ["table", "head", "choice", "out", "word", "row", "wanted", "lighter", "state"]) (sc := defScope sAE) (by decide +kernel)) (fun _ _ _ _ _ => pg_name (i := 8) scAE.nd rfl (by first | exact Or.inl rfl | exact Or.inr rfl))
          (fun _ _ _ _ _ => pts_one (PW.pt (pw_or (pt_cmp (pc_dnotin hu1 (pv 8) (pv 5))) (pw_or1 (pt_cmpR op_lt (pe_op op_add (pe_dget hu1 (pv 6) (pv 8) (fun _ _ => rfl)) pe_int) (pe_dget hu1 (pv 5) (pv 8) (fun _ _ => rfl)) (nomark _)))))) (fun _ _ _ _ _ => pv 8)))
      (pss_cons (ps_for PassesOwn.never rfl (pi_list (pv 7)) (pg_name (i := 8) scAE.nd rfl (by first | exact Or.inl rfl | exact Or.inr rfl))
        (pss_one (ps_dput hu1 (pv 5) (pv 8) (pe_op op_add (pe_dget hu1 (pv 6) (pv 8) (fun _ _ => rfl)) pe_int) rfl)))
      (pss_one (ps_ret (pe_cmpR op_gt (pe_callB call_len_seq (by rfl) T.len PySem.boot_len (pa_cons (pv 7) pa_nil)) pe_int (nomark _))))))))), ?_⟩
    refine ⟨_, rfl, c, _, rfl, sc, rfl, _, _, rfl, _, _, rfl, rfl, ?_⟩
    -- the row
    refine ⟨fun σ' H' => ∃ ad, σ' = [some (.ref a), some (.ref h0), some (.ref c), some (.int out), some (.ref wd), some (.ref ad), none, none, none] ∧ TbAt H' a (insT tb (i, top) ad) ∧ findT (insT tb (i, top) ad) i top = some (ad, lookT tb i top) ∧ (∀ b o, H b = some o → b ≠ a → H' b = some o) ∧ (H ad = none ∨ ∃ row, findT tb i top = some (ad, row)), ?_, ?_⟩
    · refine ⟨_, rfl, a, rfl, .inr ⟨_, .inl ta.tab⟩, _, rfl, fun Z nZ => ?_⟩
      have sZ : Same H (upd H Z (.dK [])) := same_upd nZ
      have eZ : (upd H Z (.dK [])) Z = some (.dK []) := upd_same
      revert sZ eZ
      generalize upd H Z (.dK []) = HZ
      intro sZ eZ
      have taZ := ta.same sZ
      have vk := tK_get i top tb
      refine ⟨tK tb, [Sum.inl i, Sum.inr top], h0, taZ.tab, rfl, sZ _ _ eh, by unfold tK; rw [List.length_map, sizeLine_eq]; omega, fun v hv => ?_, fun hn => ?_⟩
      · rw [vk] at hv
        cases e : findT tb i top with
        | none =>
          rw [e] at hv
          cases hv
        | some x =>
          obtain ⟨ad, row⟩ := x
          rw [e] at hv
          injection hv with hv
          subst hv
          have ins : insT tb (i, top) ad = tb := by unfold insT; rw [if_pos (by show (findT tb i top).isSome = true; rw [e]; rfl)]
          have lk : lookT tb i top = row := by unfold lookT; rw [e]; rfl
          exact ⟨ad, rfl, by rw [ins]; exact taZ, by rw [ins, e, lk], fun b o eb _ => sZ _ _ eb, .inr ⟨row, rfl⟩⟩
      · rw [vk] at hn
        have e : findT tb i top = none := by
          cases e : findT tb i top with
          | none => rfl
          | some x => rw [e] at hn; cases hn
        have ins : insT tb (i, top) Z = tb ++ [((i, top), Z, [])] := by
          unfold insT
          rw [if_neg (by show ¬ (findT tb i top).isSome = true; rw [e]; simp)]
        have pk : putK (tK tb) [Sum.inl i, Sum.inr top] (V.ref Z) = tK (tb ++ [((i, top), Z, [])]) := by
          unfold putK
          rw [valV_any, vk, e, if_neg (by simp)]
          unfold tK
          rw [List.map_append]
          rfl
        have nZr : ∀ x ∈ tb, x.2.1 ≠ Z := fun x hx z => by
          have q := ta.rows x hx
          rw [z, nZ] at q
          cases q
        have nZa : Z ≠ a := fun z => by
          have q := ta.tab
          rw [← z, nZ] at q
          cases q
        have ki : (i, top) ∉ tb.map (·.1) := fun m => by
          obtain ⟨x, hx, ex⟩ := List.mem_map.mp m
          unfold findT at e
          rw [Option.map_eq_none_iff, List.find?_eq_none] at e
          exact e x hx (decide_eq_true ex)
        rw [pk]
        refine ⟨Z, rfl, ?_, ?_, fun b o eb nb => by rw [upd_ne nb]; exact sZ _ _ eb, .inl nZ⟩
        · rw [ins]
          refine ⟨upd_same, fun x hx => ?_, ?_, ?_⟩
          · rcases List.mem_append.mp hx with hx | hx
            · have q := sZ _ _ (ta.rows x hx)
              rw [upd_ne (fun z => by rw [z, taZ.tab] at q; cases q)]
              exact q
            · rw [List.mem_singleton.mp hx]
              show (upd HZ a _) Z = _
              rw [upd_ne nZa]
              exact eZ
          · rw [List.map_append]
            exact nodup_snoc2 ta.keys ki
          · rw [List.map_append]
            exact nodup_snoc2 ta.adr fun m => by
              obtain ⟨x, hx, ex⟩ := List.mem_map.mp m
              exact nZr x hx ex
        · rw [ins, findT_snoc (k := (i, top)) e, if_pos rfl]
          unfold lookT
          rw [e]
          rfl
    rintro σ1 H1 ⟨ad, rfl, t1, f1, k1, hd⟩
    have nah : h0 ≠ a := fun z => by
      have q := ta.tab
      rw [← z, eh] at q
      cases q
    have eh1 := k1 _ _ eh nah
    have tk1 : Tk H H1 := fun b xs => ⟨fun e => k1 b _ e (fun z => by
      have q := ta.tab
      rw [← z, e] at q
      cases q), fun o e => k1 b _ e (fun z => by
      have q := ta.tab
      rw [← z, e] at q
      cases q)⟩
    have sgl : (sgW top ws).length ≤ 10000 := by
      unfold sgW
      split
      · rw [List.length_append]
        show ws.length + 1 ≤ 10000
        omega
      · omega
    refine ⟨_, rfl, _, rfl, _, rfl, _, rfl, h0, wd, i, top, ws, rfl, SqT.of eh1, tk1.seq sw, by omega, tl, fun H2 v s2 sv => ?_⟩
    refine ⟨a, v, out, sgW top ws, _, n, rfl, t1.same s2, sv, ins_ok tok _ _, n9, o0, o1, sgl, fun H3 d s3 nd ed => ?_⟩
    rw [reach_ins] at ed
    have wok : RowOk n (reachP tb [(out, 0)] (sgW top ws)) := reach_ok tok _ (row0_ok o0 o1)
    have rok : RowOk n (lookT tb i top) := look_ok tok i top
    generalize reachP tb [(out, 0)] (sgW top ws) = W at *
    generalize hrow : lookT tb i top = row0 at *
    have t3 := t1.same (s2.trans s3)
    have ead3 := t3.rows _ (findT_in f1)
    have s13 := s2.trans s3
    have nda : d ≠ ad := fun z => by
      have q := s2 _ _ (t1.rows _ (findT_in f1))
      rw [show ((i, top), ad, row0).2.1 = ad from rfl, ← z, nd] at q
      cases q
    have wl' := wok.len
    have rl' := rok.len
    refine ⟨d, _, ed, trivial, fun od => ?_⟩
    have kL : ∀ b o, H3 b = some o → b ≠ d → (upd H3 d (.frz od (.dK (rK W)))) b = some o := fun b o e n => by rw [upd_ne n]; exact e
    have eL : (upd H3 d (.frz od (.dK (rK W)))) d = some (.frz od (.dK (rK W))) := upd_same
    revert kL eL
    generalize upd H3 d (.frz od (.dK (rK W))) = HL
    intro kL eL
    have eadL := kL _ _ ead3 (Ne.symm nda)
    refine ⟨_, rfl, d, od, rfl, .inl ⟨rK W, eL, fun D nD => ?_⟩⟩
    have nDd : D ≠ d := fun z => by rw [z, eL] at nD; cases nD
    refine lc_it walk_keys (fun i H' => H' D = some (.lst (((W.take i).filter (litB row0)).map fun p => V.int p.1)) ∧ H' d = some (.frz od (.dK (rK W))) ∧ ∀ b o, HL b = some o → H' b = some o) ⟨upd_same, by rw [upd_ne (Ne.symm nDd)]; exact eL, fun b o e => by rw [upd_ne (ne_of_none e nD)]; exact e⟩ (fun i H' _ h => h.2.1) ?_ ?_
    · rintro j x H4' H4 hj ⟨eD, e4, k4⟩ ⟨rfl, key, v0, hk, rfl⟩
      obtain ⟨p, hp, rfl⟩ : ∃ p, W[j]? = some p ∧ key = Sum.inl p.1 := by
        unfold rK at hk
        rw [List.getElem?_map] at hk
        cases e : W[j]? with
        | none => rw [e] at hk; cases hk
        | some p =>
          rw [e] at hk
          injection hk with hk
          injection hk with h1 _
          exact ⟨p, rfl, h1.symm⟩
      have tk : W.take (j + 1) = W.take j ++ [p] := by rw [List.take_succ, hp]; rfl
      have jl : j < W.length := (List.getElem?_eq_some_iff.mp hp).1
      have pm := List.mem_of_getElem? hp
      have e4a := k4 _ _ eadL
      have gR := DGet.k (k := Sum.inl p.1) e4a
      rw [rK_get] at gR
      have gW : DGet H4 d (.int p.1) (some (V.int p.2)) := by
        refine .inl ⟨rK W, Sum.inl p.1, .inr ⟨od, e4⟩, rfl, ?_⟩
        rw [rK_get, get_mem wok.nd pm]
        rfl
      have fl : ((W.take j).filter (litB row0)).length ≤ 900 := by
        have z := List.length_filter_le (litB row0) (W.take j)
        rw [List.length_take] at z
        omega
      have yes : litB row0 p = true → ∃ acc, H4 D = some (.lst acc) ∧ acc.length < sizeLine ∧ (upd H4 D (.lst (acc ++ [V.int p.1]))) D = some (.lst (((W.take (j + 1)).filter (litB row0)).map fun p => V.int p.1)) ∧ (upd H4 D (.lst (acc ++ [V.int p.1]))) d = some (.frz od (.dK (rK W))) ∧ ∀ b o, HL b = some o → (upd H4 D (.lst (acc ++ [V.int p.1]))) b = some o := fun lb => by
        refine ⟨_, eD, by rw [List.length_map, sizeLine_eq]; omega, ?_, by rw [upd_ne (Ne.symm nDd)]; exact e4, fun b o e => by rw [upd_ne (ne_of_none e nD)]; exact k4 _ _ e⟩
        rw [upd_same, tk, List.filter_append, List.filter_cons_of_pos lb, List.map_append]
        rfl
      have no : litB row0 p = false → H4 D = some (.lst (((W.take (j + 1)).filter (litB row0)).map fun p => V.int p.1)) ∧ H4 d = some (.frz od (.dK (rK W))) ∧ ∀ b o, HL b = some o → H4 b = some o := fun lb => by
        refine ⟨?_, e4, k4⟩
        rw [tk, List.filter_append, List.filter_cons_of_neg (by rw [lb]; simp), List.filter_nil, List.append_nil]
        exact eD
      refine ⟨rfl, ?_⟩
      cases ev : getR row0 p.1 with
      | none =>
        rw [ev] at gR
        refine ⟨_, rfl, _, rfl, ad, _, rfl, gR, _, rfl, iteT (ifT rfl ⟨_, rfl, yes (by unfold litB; rw [ev])⟩)⟩
      | some vv =>
        rw [ev] at gR
        refine ⟨_, rfl, _, rfl, ad, _, rfl, gR, _, rfl, iteF ?_⟩
        refine ⟨_, rfl, _, rfl, d, _, rfl, gW, _, _, rfl, rfl, _, rfl, _, rfl, ad, _, rfl, gR, _, _, rfl, rfl, _, rfl, ?_⟩
        by_cases cc : p.2 + 1 < vv
        · exact ifT (decide_eq_true cc) ⟨_, rfl, yes (by unfold litB; rw [ev]; exact decide_eq_true cc)⟩
        · exact ifF (decide_eq_false cc) (no (by unfold litB; rw [ev]; exact decide_eq_false cc))
    rintro H5 ⟨eD5, e5, k5⟩
    rw [show (rK W).length = W.length by unfold rK; rw [List.length_map], List.take_length] at eD5
    refine ⟨e5, ?_⟩
    have kd : ∀ b o, H3 b = some o → (upd H5 d (.dK (rK W))) b = some o := fun b o e => by
      by_cases z : b = d
      · rw [z, upd_same]
        rw [z, ed] at e
        exact e
      · rw [upd_ne z]
        exact k5 _ _ (kL _ _ e z)
    have eD6 : (upd H5 d (.dK (rK W))) D = some (.lst ((W.filter (litB row0)).map fun p => V.int p.1)) := by
      rw [upd_ne nDd]
      exact eD5
    have ed6 : (upd H5 d (.dK (rK W))) d = some (.dK (rK W)) := upd_same
    have nD3 : H3 D = none := by
      cases z : H3 D with
      | none => rfl
      | some o =>
        have q := kL _ _ z nDd
        rw [nD] at q
        cases q
    revert kd eD6 ed6
    generalize upd H5 d (.dK (rK W)) = H6
    intro kd eD6 ed6
    have ead6 := kd _ _ ead3
    generalize hls : W.filter (litB row0) = ls at *
    have lsl : ls.length ≤ 900 := by
      rw [← hls]
      have z := List.length_filter_le (litB row0) W
      omega
    have nDad : D ≠ ad := fun z => by rw [z, ead3] at nD3; cases nD3
    refine ⟨_, rfl, D, rfl, ⟨_, SqL.of eD6⟩, ?_⟩
    refine for_list (K := K) (a := D) (xs := ls.map fun p => V.int p.1) (fun j σ H' => ∃ u8 : Option V, σ = [some (.ref a), some (.ref h0), some (.ref c), some (.int out), some (.ref wd), some (.ref ad), some (.ref d), some (.ref D), u8] ∧ H' ad = some (.dK (rK (putAll row0 (ls.take j)))) ∧ ∀ b o, H6 b = some o → b ≠ ad → H' b = some o) ⟨_, rfl, ead6, fun b o e _ => e⟩ (fun j σ H' _ ⟨_, _, _, k'⟩ => SqL.of (k' _ _ eD6 nDad)) ?_ ?_
    · rintro j x σ H7 hj ⟨u8, rfl, e7, k7⟩
      rw [List.getElem?_map, Option.map_eq_some_iff] at hj
      obtain ⟨p, hp, rfl⟩ := hj
      have tk : ls.take (j + 1) = ls.take j ++ [p] := by rw [List.take_succ, hp]; rfl
      have jl : j < ls.length := (List.getElem?_eq_some_iff.mp hp).1
      have pW : p ∈ W := by
        have z := List.mem_of_getElem? hp
        rw [← hls] at z
        exact (List.mem_filter.mp z).1
      have gW : DGet H7 d (.int p.1) (some (V.int p.2)) := by
        have z := DGet.k (k := Sum.inl p.1) (k7 _ _ ed6 nda)
        rw [rK_get, get_mem wok.nd pW] at z
        exact z
      have put : DPut H7 ad (.int p.1) (.int (p.2 + 1)) (upd H7 ad (.dK (rK (putAll row0 (ls.take (j + 1)))))) := by
        have z := DPut.k (k := Sum.inl p.1) (v := V.int (p.2 + 1)) e7 (by
          unfold rK
          have q := putAll_len (ls.take j) row0
          rw [List.length_take] at q
          rw [List.length_map, sizeLine_eq]
          omega)
        rw [rK_put, ← putAll_snoc, ← tk] at z
        exact z
      refine ⟨_, rfl, _, rfl, d, _, rfl, gW, _, _, rfl, rfl, _, rfl, _, rfl, ad, _, rfl, put, ?_⟩
      exact ⟨_, rfl, upd_same, fun b o e n => by rw [upd_ne n]; exact k7 _ _ e n⟩
    · rintro σ H7 ⟨u8, rfl, e7, k7⟩
      rw [List.length_map, List.take_length] at e7
      refine ⟨_, rfl, D, _, rfl, .inl (SqL.of (k7 _ _ eD6 nDad)), _, _, rfl, rfl, ?_⟩
      have kAll : ∀ b o, H1 b = some o → b ≠ ad → H7 b = some o := fun b o e n => k7 _ _ (kd _ _ (s13 _ _ e)) n
      have kk := k H7 ad (fun b o e n1 n2 => kAll _ _ (k1 _ _ e n1) (fun z => ?_)) hd (t1.set f1 kAll e7)
      · rw [List.length_map]
        have z : decide ((0 : Int) < ((ls.length : Nat) : Int)) = decide (0 < ls.length) := decide_eq_decide.mpr ⟨fun h => by omega, fun h => by omega⟩
        show Q (.bl (decide ((0 : Int) < ((ls.length : Nat) : Int)))) H7
        rw [z]
        exact kk
      · rcases hd with hd | ⟨row, hd⟩
        · rw [← z, e] at hd
          cases hd
        · exact n2 _ (findT_in hd) z
end
end Lr

namespace Lr
open PySem PySem.Spec PyProof.Rows L2

theorem get_put (x w y : Int) : ∀ r : Row, getR (putR r x w) y = if y = x then some w else getR r y := by
  intro r
  have z := valV_put (rK r) (Sum.inl x : Key) (Sum.inl y) (V.int w)
  rw [rK_put, rK_get, rK_get] at z
  by_cases c : y = x
  · rw [if_pos c]
    rw [if_pos (by rw [c])] at z
    cases e : getR (putR r x w) y with
    | none => rw [e] at z; cases z
    | some v =>
      rw [e] at z
      injection z with z
      injection z with z
      rw [z]
  · rw [if_neg c]
    rw [if_neg (fun q => c (by injection q))] at z
    cases e : getR (putR r x w) y with
    | none =>
      rw [e] at z
      cases e2 : getR r y with
      | none => rfl
      | some v => rw [e2] at z; cases z
    | some v =>
      rw [e] at z
      cases e2 : getR r y with
      | none => rw [e2] at z; cases z
      | some v2 =>
        rw [e2] at z
        injection z with z
        injection z with z
        rw [z]
theorem relax_old (f : Row) (y w : Int) {x v : Int} (h : getR f x = some v) : ∃ v', v' ≤ v ∧ getR (relax f y w) x = some v' := by
  unfold relax
  cases e : getR f y with
  | none =>
    rw [get_put]
    by_cases c : x = y
    · rw [c, e] at h
      cases h
    · rw [if_neg c]
      exact ⟨v, Int.le_refl _, h⟩
  | some u =>
    dsimp only
    split
    · rename_i lt
      rw [get_put]
      by_cases c : x = y
      · rw [if_pos c]
        rw [c, e] at h
        injection h with h
        exact ⟨w, by omega, rfl⟩
      · rw [if_neg c]
        exact ⟨v, Int.le_refl _, h⟩
    · exact ⟨v, Int.le_refl _, h⟩
theorem relax_new (f : Row) (x w : Int) : ∃ v, v ≤ w ∧ getR (relax f x w) x = some v := by
  unfold relax
  cases e : getR f x with
  | none =>
    rw [get_put, if_pos rfl]
    exact ⟨w, Int.le_refl _, rfl⟩
  | some u =>
    dsimp only
    split
    · rw [get_put, if_pos rfl]
      exact ⟨w, Int.le_refl _, rfl⟩
    · exact ⟨u, by omega, e⟩
theorem relax_from (f : Row) (y w : Int) {x v : Int} (h : getR (relax f y w) x = some v) : getR f x = some v ∨ (x = y ∧ v = w) := by
  unfold relax at h
  have put : getR (putR f y w) x = some v → getR f x = some v ∨ (x = y ∧ v = w) := fun h => by
    rw [get_put] at h
    by_cases c : x = y
    · rw [if_pos c] at h
      injection h with h
      exact .inr ⟨c, h.symm⟩
    · rw [if_neg c] at h
      exact .inl h
  split at h
  · exact put h
  · split at h
    · exact put h
    · exact .inl h
theorem edge_old (w : Int) : ∀ (row f : Row) {x v : Int}, getR f x = some v → ∃ v', v' ≤ v ∧ getR (edgeL row w f) x = some v'
  | [], f, x, v, h => ⟨v, Int.le_refl _, h⟩
  | q :: r, f, x, v, h => by
    obtain ⟨v1, l1, h1⟩ := relax_old f q.1 (w + q.2) h
    obtain ⟨v2, l2, h2⟩ := edge_old w r (relax f q.1 (w + q.2)) h1
    exact ⟨v2, by omega, h2⟩
theorem edge_new (w : Int) : ∀ (row f : Row) {q : Int × Int}, q ∈ row → ∃ v, v ≤ w + q.2 ∧ getR (edgeL row w f) q.1 = some v
  | [], _, _, h => nomatch h
  | p :: r, f, q, h => by
    rcases List.mem_cons.mp h with rfl | h
    · obtain ⟨v1, l1, h1⟩ := relax_new f q.1 (w + q.2)
      obtain ⟨v2, l2, h2⟩ := edge_old w r (relax f q.1 (w + q.2)) h1
      exact ⟨v2, by omega, h2⟩
    · exact edge_new w r (relax f p.1 (w + p.2)) h
theorem edge_from (w : Int) : ∀ (row f : Row) {x v : Int}, getR (edgeL row w f) x = some v → getR f x = some v ∨ ∃ q ∈ row, q.1 = x ∧ v = w + q.2
  | [], _, _, _, h => .inl h
  | p :: r, f, x, v, h => by
    rcases edge_from w r (relax f p.1 (w + p.2)) h with h | ⟨q, hq, e1, e2⟩
    · rcases relax_from f p.1 (w + p.2) h with h | ⟨e1, e2⟩
      · exact .inl h
      · exact .inr ⟨p, List.mem_cons_self, e1.symm, e2⟩
    · exact .inr ⟨q, List.mem_cons_of_mem _ hq, e1, e2⟩
theorem nextGo_old (tb : Tbl) (g : Str) : ∀ (layer f : Row) {x v : Int}, getR f x = some v → ∃ v', v' ≤ v ∧ getR (nextGo tb g layer f) x = some v'
  | [], f, x, v, h => ⟨v, Int.le_refl _, h⟩
  | p :: r, f, x, v, h => by
    obtain ⟨v1, l1, h1⟩ := edge_old p.2 (lookT tb p.1 g) f h
    obtain ⟨v2, l2, h2⟩ := nextGo_old tb g r _ h1
    exact ⟨v2, by omega, h2⟩
theorem nextGo_new (tb : Tbl) (g : Str) : ∀ (layer f : Row) {p q : Int × Int}, p ∈ layer → q ∈ lookT tb p.1 g → ∃ v, v ≤ p.2 + q.2 ∧ getR (nextGo tb g layer f) q.1 = some v
  | [], _, _, _, h, _ => nomatch h
  | p0 :: r, f, p, q, h, hq => by
    rcases List.mem_cons.mp h with rfl | h
    · obtain ⟨v1, l1, h1⟩ := edge_new p.2 (lookT tb p.1 g) f hq
      obtain ⟨v2, l2, h2⟩ := nextGo_old tb g r _ h1
      exact ⟨v2, by omega, h2⟩
    · exact nextGo_new tb g r _ h hq
theorem nextGo_from (tb : Tbl) (g : Str) : ∀ (layer f : Row) {x v : Int}, getR (nextGo tb g layer f) x = some v → getR f x = some v ∨ ∃ p ∈ layer, ∃ q ∈ lookT tb p.1 g, q.1 = x ∧ v = p.2 + q.2
  | [], _, _, _, h => .inl h
  | p0 :: r, f, x, v, h => by
    rcases nextGo_from tb g r _ h with h | ⟨p, hp, q, hq, e⟩
    · rcases edge_from p0.2 (lookT tb p0.1 g) f h with h | ⟨q, hq, e⟩
      · exact .inl h
      · exact .inr ⟨p0, List.mem_cons_self, q, hq, e⟩
    · exact .inr ⟨p, List.mem_cons_of_mem _ hp, q, hq, e⟩
/-- a way by a table's edges -/
inductive WayT (tb : Tbl) : Int → List Str → Int → Int → Prop where
  | nil {s : Int} : WayT tb s [] s 0
  | cons {s r q w1 w2 : Int} {g : Str} {ws : List Str} (h : (r, w1) ∈ lookT tb s g) (t : WayT tb r ws q w2) : WayT tb s (g :: ws) q (w1 + w2)
theorem get_in {r : Row} {x v : Int} (h : getR r x = some v) : (x, v) ∈ r := by
  unfold getR at h
  rw [Option.map_eq_some_iff] at h
  obtain ⟨p, hp, rfl⟩ := h
  have m := List.mem_of_find?_eq_some hp
  have e0 := List.find?_some hp
  have e : p.1 = x := of_decide_eq_true e0
  rw [← e]
  exact m
theorem reach_from (tb : Tbl) : ∀ (ws : List Str) (r : Row) {x v : Int}, (r.map (·.1)).Nodup → getR (reachP tb r ws) x = some v → ∃ p ∈ r, ∃ w, WayT tb p.1 ws x w ∧ v = p.2 + w
  | [], r, x, v, nd, h => ⟨(x, v), get_in h, 0, .nil, by simp⟩
  | g :: ws, r, x, v, nd, h => by
    have nd2 : ((nextL tb g r).map (·.1)).Nodup := by
      have go : ∀ (layer f : Row), (f.map (·.1)).Nodup → ((nextGo tb g layer f).map (·.1)).Nodup := by
        have rx : ∀ (f : Row) (x w : Int), (f.map (·.1)).Nodup → ((relax f x w).map (·.1)).Nodup := fun f x w h => by
          have pp : ((putR f x w).map (·.1)).Nodup := by
            rw [putR_keys]
            split
            · exact h
            · exact nodup_snoc2 h (by assumption)
          unfold relax
          split
          · exact pp
          · split
            · exact pp
            · exact h
        have ed : ∀ (row : Row) (w : Int) (f : Row), (f.map (·.1)).Nodup → ((edgeL row w f).map (·.1)).Nodup := by
          intro row w
          induction row with
          | nil => exact fun f h => h
          | cons q r ih => exact fun f h => ih _ (rx f _ _ h)
        intro layer
        induction layer with
        | nil => exact fun f h => h
        | cons p r ih => exact fun f h => ih _ (ed _ _ f h)
      exact go r [] List.nodup_nil
    obtain ⟨p, hp, w, wy, e⟩ := reach_from tb ws (nextL tb g r) nd2 h
    rcases nextGo_from tb g r [] (show getR (nextGo tb g r []) p.1 = some p.2 from get_mem nd2 hp) with z | ⟨p0, hp0, q, hq, e1, e2⟩
    · cases z
    · refine ⟨p0, hp0, q.2 + w, ?_, by omega⟩
      have z : WayT tb q.1 ws x w := by rw [e1]; exact wy
      exact .cons (r := q.1) hq z
theorem reach_to (tb : Tbl) : ∀ (ws : List Str) (r : Row) {p : Int × Int} {x w : Int}, p ∈ r → WayT tb p.1 ws x w → ∃ v, v ≤ p.2 + w ∧ (x, v) ∈ reachP tb r ws
  | [], r, p, x, w, hp, h => by
    cases h with
    | nil => exact ⟨p.2, by omega, hp⟩
  | g :: ws, r, p, x, w, hp, h => by
    cases h with
    | @cons _ r1 _ w1 w2 _ _ hq t =>
      obtain ⟨v, l, e⟩ := nextGo_new tb g r [] hp hq
      obtain ⟨v2, l2, m2⟩ := reach_to tb ws (nextL tb g r) (p := (r1, v)) (get_in e) t
      refine ⟨v2, ?_, m2⟩
      have l : v ≤ p.2 + w1 := l
      have l2 : v2 ≤ v + w2 := l2
      omega
end Lr

namespace Lr
open PySem PySem.Spec PyProof.Rows L2

/-- a table without the places of its rows -/
abbrev PT := List ((Int × Str) × Row)
def pT (tb : Tbl) : PT := tb.map fun e => (e.1, e.2.2)
def lookQ (pt : PT) (k : Int × Str) : Row := ((pt.find? fun e => decide (e.1 = k)).map (·.2)).getD []
def insQ (pt : PT) (k : Int × Str) : PT := if (pt.any fun e => decide (e.1 = k)) = true then pt else pt ++ [(k, [])]
def setQ (pt : PT) (k : Int × Str) (row : Row) : PT := pt.map fun e => if e.1 = k then (e.1, row) else e
theorem look_p (tb : Tbl) (s : Int) (g : Str) : lookT tb s g = lookQ (pT tb) (s, g) := by
  unfold lookT lookQ findT pT
  rw [List.find?_map]
  show ((Option.map (·.2) (tb.find? fun e => decide (e.1 = (s, g)))).map (·.2)).getD [] = ((Option.map (fun e : (Int × Str) × Addr × Row => (e.1, e.2.2)) (tb.find? fun e => decide (e.1 = (s, g)))).map (·.2)).getD []
  cases tb.find? fun e => decide (e.1 = (s, g)) <;> rfl
theorem ins_p (tb : Tbl) (k : Int × Str) (ad : Addr) : pT (insT tb k ad) = insQ (pT tb) k := by
  unfold insT insQ
  have e : ((pT tb).any fun e => decide (e.1 = k)) = (findT tb k.1 k.2).isSome := by
    unfold findT pT
    rw [Option.isSome_map, List.any_map, Bool.eq_iff_iff, List.any_eq_true, List.find?_isSome]
    exact ⟨fun ⟨x, h1, h2⟩ => ⟨x, h1, h2⟩, fun ⟨x, h1, h2⟩ => ⟨x, h1, h2⟩⟩
  rw [e]
  split
  · rfl
  · unfold pT
    rw [List.map_append]
    rfl
theorem set_p (tb : Tbl) (k : Int × Str) (row : Row) : pT (setT tb k row) = setQ (pT tb) k row := by
  unfold pT setT setQ
  rw [List.map_map, List.map_map]
  refine List.map_congr_left fun e _ => ?_
  show ((if e.1 = k then (e.1, e.2.1, row) else e).1, (if e.1 = k then (e.1, e.2.1, row) else e).2.2) = (if e.1 = k then (e.1, row) else (e.1, e.2.2))
  split <;> rfl
def nextQ (pt : PT) (g : Str) (layer : Row) : Row := layer.foldl (fun f p => edgeL (lookQ pt (p.1, g)) p.2 f) []
def reachQ (pt : PT) (r : Row) (ws : List Str) : Row := ws.foldl (fun r g => nextQ pt g r) r
theorem next_p (tb : Tbl) (g : Str) (layer : Row) : nextL tb g layer = nextQ (pT tb) g layer := by
  unfold nextL nextQ
  congr 1
  funext f p
  rw [look_p]
theorem reach_p (tb : Tbl) : ∀ (ws : List Str) (r : Row), reachP tb r ws = reachQ (pT tb) r ws
  | [], _ => rfl
  | g :: ws, r => by
    show reachP tb (nextL tb g r) ws = reachQ (pT tb) (nextQ (pT tb) g r) ws
    rw [next_p, reach_p tb ws]
/-- the entries that a choice at a head wants added or made lighter -/
def newQ (pt : PT) (k : Int × Str) (c : Chc) : Row := (reachQ pt [(c.1, 0)] (sgW k.2 c.2)).filter (litB (lookQ pt k))
def addQ (pt : PT) (k : Int × Str) (c : Chc) : PT := setQ (insQ pt k) k (putAll (lookQ pt k) (newQ pt k c))
def headQ (k : Int × Str) (st : PT × Bool) (cs : List Chc) : PT × Bool := cs.foldl (fun st c => (addQ st.1 k c, st.2 || decide (0 < (newQ st.1 k c).length))) st
/-- heads with the choices that can be taken there -/
abbrev Mvs := List ((Int × Str) × List Chc)
def roundQ (mv : Mvs) (st : PT × Bool) : PT × Bool := mv.foldl (fun st m => headQ m.1 st m.2) st
theorem headQ_snoc (k : Int × Str) (st : PT × Bool) (cs : List Chc) (c : Chc) : headQ k st (cs ++ [c]) = (addQ (headQ k st cs).1 k c, (headQ k st cs).2 || decide (0 < (newQ (headQ k st cs).1 k c).length)) := by
  unfold headQ
  rw [List.foldl_append]
  rfl
theorem roundQ_snoc (mv : Mvs) (m : (Int × Str) × List Chc) (st : PT × Bool) : roundQ (mv ++ [m]) st = headQ m.1 (roundQ mv st) m.2 := by
  unfold roundQ
  rw [List.foldl_append]
  rfl
/-- the rounds come to an end within m -/
def Ends (mv : Mvs) : Nat → PT → Prop
  | 0, pt => (roundQ mv (pt, false)).2 = false
  | m + 1, pt => (roundQ mv (pt, false)).2 = false ∨ Ends mv m (roundQ mv (pt, false)).1
/-- .. which is this one -/
def satQ (mv : Mvs) : Nat → PT → PT
  | 0, pt => (roundQ mv (pt, false)).1
  | m + 1, pt => if (roundQ mv (pt, false)).2 = false then (roundQ mv (pt, false)).1 else satQ mv m (roundQ mv (pt, false)).1
end Lr

namespace Lr
open PySem PySem.Spec PyProof.Rows L2

theorem nodup_len {α : Type} [DecidableEq α] : ∀ (l D : List α), l.Nodup → (∀ x ∈ l, x ∈ D) → l.length ≤ D.length
  | [], _, _, _ => Nat.zero_le _
  | x :: l, D, hn, hs => by
    obtain ⟨h1, h2⟩ := List.nodup_cons.mp hn
    have hx : x ∈ D := hs x List.mem_cons_self
    have ih := nodup_len l (D.erase x) h2 fun y hy => by
      have hne : y ≠ x := fun e => h1 (e ▸ hy)
      exact (List.mem_erase_of_ne hne).2 (hs y (List.mem_cons_of_mem _ hy))
    have e := List.length_erase_of_mem hx
    have hp : 0 < D.length := List.length_pos_of_mem hx
    rw [List.length_cons]
    omega
structure QOk (n : Nat) (hs : List (Int × Str)) (pt : PT) : Prop where
  row : ∀ e ∈ pt, RowOk n e.2
  nd : (pt.map (·.1)).Nodup
  inn : ∀ e ∈ pt, e.1 ∈ hs
theorem QOk.len {n : Nat} {hs : List (Int × Str)} {pt : PT} (h : QOk n hs pt) : pt.length ≤ hs.length := by
  have z := nodup_len (pt.map (·.1)) hs h.nd fun x hx => by
    obtain ⟨e, he, rfl⟩ := List.mem_map.mp hx
    exact h.inn e he
  rw [List.length_map] at z
  exact z
theorem QOk.nil (n : Nat) (hs : List (Int × Str)) : QOk n hs [] := ⟨(fun _ h => nomatch h), List.nodup_nil, (fun _ h => nomatch h)⟩
theorem lookQ_ok {n : Nat} {hs : List (Int × Str)} {pt : PT} (h : QOk n hs pt) (k : Int × Str) : RowOk n (lookQ pt k) := by
  unfold lookQ
  cases e : pt.find? fun e => decide (e.1 = k) with
  | none => exact RowOk.nil n
  | some x => exact h.row x (List.mem_of_find?_eq_some e)
theorem nextQ_ok {n : Nat} {hs : List (Int × Str)} {pt : PT} (h : QOk n hs pt) (g : Str) {layer : Row} (hl : RowOk n layer) : RowOk n (nextQ pt g layer) := by
  have go : ∀ (l f : Row), (∀ p ∈ l, 0 ≤ p.2) → RowOk n f → RowOk n (l.foldl (fun f p => edgeL (lookQ pt (p.1, g)) p.2 f) f) := by
    intro l
    induction l with
    | nil => exact fun f _ hf => hf
    | cons p r ih => exact fun f hp hf => ih _ (fun q hq => hp q (List.mem_cons_of_mem _ hq)) (RowOk.edge (lookQ_ok h _).bd (hp p List.mem_cons_self) hf)
  exact go layer [] (fun p hp => (hl.bd p hp).2.2) (RowOk.nil n)
theorem reachQ_ok {n : Nat} {hs : List (Int × Str)} {pt : PT} (h : QOk n hs pt) : ∀ (ws : List Str) {r : Row}, RowOk n r → RowOk n (reachQ pt r ws)
  | [], _, hr => hr
  | g :: ws, r, hr => reachQ_ok h ws (nextQ_ok h g hr)
theorem putAll_ok {n : Nat} : ∀ {ls row : Row}, (∀ p ∈ ls, 0 ≤ p.1 ∧ p.1 < (n : Int) ∧ 0 ≤ p.2) → RowOk n row → RowOk n (putAll row ls)
  | [], _, _, h => h
  | p :: r, row, hl, h => by
    obtain ⟨a, b, c⟩ := hl p List.mem_cons_self
    exact putAll_ok (ls := r) (fun q hq => hl q (List.mem_cons_of_mem _ hq)) (h.put a b (by omega))
theorem addQ_ok {n : Nat} {hs : List (Int × Str)} {pt : PT} (h : QOk n hs pt) {k : Int × Str} (hk : k ∈ hs) {c : Chc} (c0 : 0 ≤ c.1) (c1 : c.1 < (n : Int)) : QOk n hs (addQ pt k c) := by
  have wok := reachQ_ok h (sgW k.2 c.2) (row0_ok c0 c1)
  have rok : RowOk n (putAll (lookQ pt k) (newQ pt k c)) := putAll_ok (fun p hp => wok.bd p (List.mem_filter.mp hp).1) (lookQ_ok h k)
  have ins : QOk n hs (insQ pt k) := by
    unfold insQ
    split
    · exact h
    · rename_i ne
      refine ⟨fun e he => ?_, ?_, fun e he => ?_⟩
      · rcases List.mem_append.mp he with he | he
        · exact h.row e he
        · rw [List.mem_singleton.mp he]
          exact RowOk.nil n
      · rw [List.map_append]
        refine nodup_snoc2 h.nd fun m => ne ?_
        obtain ⟨e, he, ee⟩ := List.mem_map.mp m
        exact List.any_eq_true.mpr ⟨e, he, decide_eq_true ee⟩
      · rcases List.mem_append.mp he with he | he
        · exact h.inn e he
        · rw [List.mem_singleton.mp he]
          exact hk
  unfold addQ setQ
  refine ⟨fun e he => ?_, ?_, fun e he => ?_⟩
  · obtain ⟨x, hx, rfl⟩ := List.mem_map.mp he
    split
    · exact rok
    · exact ins.row x hx
  · have z : ((insQ pt k).map fun e => if e.1 = k then (e.1, putAll (lookQ pt k) (newQ pt k c)) else e).map (·.1) = (insQ pt k).map (·.1) := by
      rw [List.map_map]
      refine List.map_congr_left fun x _ => ?_
      show (if x.1 = k then (x.1, putAll (lookQ pt k) (newQ pt k c)) else x).1 = x.1
      split <;> rfl
    rw [z]
    exact ins.nd
  · obtain ⟨x, hx, rfl⟩ := List.mem_map.mp he
    have z := ins.inn x hx
    split
    · exact z
    · exact z
def MvOk (n : Nat) (mv : Mvs) : Prop := ∀ m ∈ mv, m.1.2.length ≤ 100 ∧ ∀ c ∈ m.2, 0 ≤ c.1 ∧ c.1 < (n : Int) ∧ c.2.length ≤ 5000
theorem headQ_ok {n : Nat} {hs : List (Int × Str)} {k : Int × Str} (hk : k ∈ hs) : ∀ {cs : List Chc} {st : PT × Bool}, (∀ c ∈ cs, 0 ≤ c.1 ∧ c.1 < (n : Int) ∧ c.2.length ≤ 5000) → QOk n hs st.1 → QOk n hs (headQ k st cs).1
  | [], _, _, h => h
  | c :: r, st, hc, h => headQ_ok hk (cs := r) (fun x hx => hc x (List.mem_cons_of_mem _ hx)) (addQ_ok h hk (hc c List.mem_cons_self).1 (hc c List.mem_cons_self).2.1)
theorem roundQ_ok {n : Nat} {hs : List (Int × Str)} : ∀ {mv : Mvs} {st : PT × Bool}, (∀ m ∈ mv, m.1 ∈ hs) → MvOk n mv → QOk n hs st.1 → QOk n hs (roundQ mv st).1
  | [], _, _, _, h => h
  | m :: r, st, hm, mo, h => roundQ_ok (mv := r) (fun x hx => hm x (List.mem_cons_of_mem _ hx)) (fun x hx => mo x (List.mem_cons_of_mem _ hx)) (headQ_ok (hm m List.mem_cons_self) (mo m List.mem_cons_self).2 h)
theorem tbOk_p {n : Nat} {hs : List (Int × Str)} {tb : Tbl} (h : QOk n hs (pT tb)) : TbOk n tb := fun e he => h.row (e.1, e.2.2) (List.mem_map_of_mem (f := fun e : (Int × Str) × Addr × Row => (e.1, e.2.2)) he)
end Lr

namespace Lr
open PySem PySem.Spec PyProof.Rows L2

/-- a dict from heads to the choices that can be taken there -/
def fK (mv : Mvs) (us : List Addr) : List (List Key × V) := (mv.zip us).map fun e => ([Sum.inl e.1.1.1, Sum.inr e.1.1.2], V.ref e.2)
theorem ch_at {K : PySem.W.Frag} {H : Hp} {v : V} {c : Chc} (d : Dp K H v (dCh c)) : ∃ (q l : Addr), v = .ref q ∧ SqT K H q [.int c.1, .ref l] ∧ SqT K H l (c.2.map V.str) := by
  obtain ⟨q, ys, rfl, eq, dy⟩ := dp_of_tup d
  cases dy with
  | cons e1 dy =>
    cases dy with
    | cons e2 dy =>
      cases dy
      cases e1
      obtain ⟨l, zs, rfl, el, dz⟩ := dp_of_tup e2
      have := strs_dp dz
      subst this
      exact ⟨q, l, rfl, eq, el⟩
theorem fK_get : ∀ {mv : Mvs} {us : List Addr} {i : Nat} {m : (Int × Str) × List Chc} {u : Addr}, (mv.map (·.1)).Nodup → mv[i]? = some m → us[i]? = some u → valV (fK mv us) [Sum.inl m.1.1, Sum.inr m.1.2] = some (V.ref u)
  | [], _, _, _, _, _, h, _ => by simp at h
  | _ :: _, [], _, _, _, _, _, h => by simp at h
  | m0 :: mv, u0 :: us, i, m, u, nd, hm, hu => by
    rw [List.map_cons, List.nodup_cons] at nd
    cases i with
    | zero =>
      cases hm
      cases hu
      exact valV_pos (p := ([Sum.inl m0.1.1, Sum.inr m0.1.2], V.ref u0)) rfl
    | succ i =>
      have hm : mv[i]? = some m := hm
      have ne : ¬ ([Sum.inl m0.1.1, Sum.inr m0.1.2] : List Key) = [Sum.inl m.1.1, Sum.inr m.1.2] := fun e => by
        injection e with e1 e2
        injection e2 with e2 _
        injection e1 with e1
        injection e2 with e2
        have z : m0.1 = m.1 := Prod.ext e1 e2
        exact nd.1 (z ▸ List.mem_map_of_mem (f := fun m : (Int × Str) × List Chc => m.1) (List.mem_of_getElem? hm))
      have z : valV (fK (m0 :: mv) (u0 :: us)) [Sum.inl m.1.1, Sum.inr m.1.2] = valV (fK mv us) [Sum.inl m.1.1, Sum.inr m.1.2] := valV_neg (p := ([Sum.inl m0.1.1, Sum.inr m0.1.2], V.ref u0)) ne
      rw [z]
      exact fK_get nd.2 hm hu
structure FreeAt (K : PySem.W.Frag) (H : Hp) (fr : Addr) (mv : Mvs) (us : List Addr) : Prop where
  tab : H fr = some (.dT (fK mv us))
  val : Paired (fun (u : Addr) (m : (Int × Str) × List Chc) => Dp K H (.ref u) (.tuple (m.2.map dCh))) us mv
  nd : (mv.map (·.1)).Nodup
def spTbO (K : PySem.W.Frag) : Sp := fun vs H Q _ => ∃ eu : Addr, vs = [.ref eu] ∧ SqT K H eu [] ∧ ∀ H' t, Same H H' → H t = none → H' t = some (.dT []) → Q (.ref t) H'
def spSat (K : PySem.W.Frag) : Sp := fun vs H Q _ => ∃ (eu fr : Addr) (mv : Mvs) (us : List Addr) (n m : Nat), vs = [.ref eu, .ref fr] ∧ SqT K H eu [] ∧ FreeAt K H fr mv us ∧ MvOk n mv ∧ n ≤ 900 ∧ mv.length ≤ 1000 ∧ (∀ x ∈ mv, x.2.length ≤ 1000) ∧ Ends mv m [] ∧
  ∀ (H' : Hp) (a : Addr) (tb : Tbl), Same H H' → H a = none → (∀ e ∈ tb, H e.2.1 = none) → TbAt H' a tb → pT tb = satQ mv m [] → Q (.ref a) H'

section
variable {P : Program} {w : World} {K : PySem.W.Frag} {mg : Str → Option Value} {base : Heap}
theorem scTbO : FnScope ["edges", "table", "state", "sign", "other", "row"] ["edges"] (defScope sTbO) := ⟨rfl, rfl, rfl, by decide +kernel, rfl, by decide +kernel, by decide +kernel⟩
theorem scSat : FnScope ["edges", "free", "table", "changed", "head", "choice"] ["edges", "free"] (defScope sSat) := ⟨rfl, rfl, rfl, by decide +kernel, rfl, by decide +kernel, by decide +kernel⟩
theorem ok_TbO {f : Addr} {fd : FuncData} (F : Fun K "table_of" "table_of" sTbO f fd) (T : Bt mg) : FnOk P w K mg base CX0 1 f fd ["edges"] (spTbO K) := by
  refine F.ok scTbO (fun vs H Q E h => ?_) (fun cdv A outer s H vs Q E hr h => ?_)
  · obtain ⟨eu, rfl, _⟩ := h
    rfl
  · obtain ⟨eu, rfl, se, k⟩ := h
    have hu1 : (A.deeper (envOfC "table_of" (defScope sTbO) s.heap.objs.size f cdv)).units + 1 < cLine := by
      have z := hr.un
      omega
    refine ⟨_, (pss_cons (ps_set (i := 1) scTbO.nd rfl (.inl rfl) pe_dnewT)
      (pss_cons (ps_for PassesOwn.never rfl (pi_tup (pv 0)) (pg_tup (by rfl) (pgs_cons (pg_name (i := 2) scTbO.nd rfl (.inl rfl)) (pgs_cons (pg_name (i := 3) scTbO.nd rfl (.inl rfl)) (pgs_cons (pg_name (i := 4) scTbO.nd rfl (.inl rfl)) pgs_nil))))
        (pss_cons (ps_set (i := 5) scTbO.nd rfl (.inl rfl) (pe_dsetdT hu1 (pv 1) (pe_tup (pa_cons (pv 2) (pa_cons (pv 3) pa_nil))) pe_dnewK ⟨rfl, rfl, rfl, rfl⟩))
          (pss_one (ps_dput hu1 (pv 5) (pv 4) pe_int rfl))))
      (pss_one (ps_ret (pv 1))))), ?_⟩
    refine fun t nt => ?_
    have st : Same H (upd H t (.dT [])) := same_upd nt
    refine ⟨_, rfl, eu, rfl, ⟨_, (Tk.of st).seq se⟩, ?_⟩
    refine for_tup (K := K) (a := eu) (xs := []) (fun i σ H' => σ = [some (.ref eu), some (.ref t), none, none, none, none] ∧ H' = upd H t (.dT [])) ⟨rfl, rfl⟩ (fun i σ H' _ h => by rw [h.2]; exact (Tk.of st).seq se) ?_ ?_
    · rintro i x σ H' hi _
      simp at hi
    · rintro σ H' ⟨rfl, rfl⟩
      exact ⟨_, rfl, k _ t st nt upd_same⟩
theorem ok_Sat {f : Addr} {fd : FuncData} {fTbO : Addr} {fdTbO : FuncData} {fAE : Addr} {fdAE : FuncData} (F : Fun K "saturated" "saturated" sSat f fd) (T : Bt mg) (CTbO : Cal K mg "table_of" fTbO fdTbO ["edges"]) (GTbO : FnOk P w K mg base CX0 1 fTbO fdTbO ["edges"] (spTbO K)) (CAE : Cal K mg "add_edges" fAE fdAE ["table", "head", "choice"]) (GAE : FnOk P w K mg base CX0 4 fAE fdAE ["table", "head", "choice"] (spAE K)) : FnOk P w K mg base CX0 5 f fd ["edges", "free"] (spSat K) := by
  refine F.ok scSat (fun vs H Q E h => ?_) (fun cdv A outer s H vs Q E hr h => ?_)
  · obtain ⟨eu, fr, mv, us, n, m, rfl, _⟩ := h
    rfl
  · obtain ⟨eu, fr, mv, us, n, m, rfl, se, fa, mo, n9, ml, cl, ends, k⟩ := h
    have hr1 : Room 1 (A.deeper (envOfC "saturated" (defScope sSat) s.heap.objs.size f cdv)) := Room.mono hr (by decide)
    have hr4 : Room 4 (A.deeper (envOfC "saturated" (defScope sSat) s.heap.objs.size f cdv)) := Room.mono hr (by decide)
    have hu1 : (A.deeper (envOfC "saturated" (defScope sSat) s.heap.objs.size f cdv)).units + 1 < cLine := by
      have z := hr.un
      omega
    refine ⟨_, (pss_cons (ps_set (i := 2) scSat.nd rfl (.inl rfl) (pe_call GTbO hr1 (by rfl) CTbO.g CTbO.k CTbO.b .nil pass0 (pa_cons (pv 0) pa_nil)))
      (pss_cons (ps_set (i := 3) scSat.nd rfl (.inl rfl) pe_bl)
      (pss_cons (ps_while PassesOwn.never (pt_truth (pv 3) (fun _ => rfl))
        (pss_cons (ps_set (i := 3) scSat.nd rfl (.inl rfl) pe_bl)
        (pss_one (ps_lock (ps_for PassesOwn.never rfl (pi_keys (pv 1)) (pg_name (i := 4) scSat.nd rfl (.inl rfl))
          (pss_one (ps_for PassesOwn.never rfl (pi_tup (pe_dget hu1 (pv 1) (pv 4) (fun _ _ => rfl))) (pg_name (i := 5) scSat.nd rfl (.inl rfl))
            (pss_one (ps_if (pt_val (pe_call GAE hr4 (by rfl) CAE.g CAE.k CAE.b .nil pass0 (pa_cons (pv 2) (pa_cons (pv 4) (pa_cons (pv 5) pa_nil))))) (pss_one (ps_set (i := 3) scSat.nd rfl (.inl rfl) pe_bl)) pss_nil)))))))))
      (pss_one (ps_ret (pv 2)))))), ?_⟩
    refine ⟨_, rfl, eu, rfl, se, fun H1 t s1 nt et => ?_⟩
    have ntH : H t = none := nt
    have nfr : t ≠ fr := fun z => by
      have q := fa.tab
      rw [← z, nt] at q
      cases q
    have ul : us.length = mv.length := Paired.length fa.val
    -- what stands
    let Core : Hp → Tbl → Prop := fun H' tb => (∀ b o, H b = some o → b ≠ fr → H' b = some o) ∧ TbAt H' t tb ∧ (∀ e ∈ tb, H e.2.1 = none) ∧ QOk n (mv.map (·.1)) (pT tb)
    have hCore : Core = fun H' tb => (∀ b o, H b = some o → b ≠ fr → H' b = some o) ∧ TbAt H' t tb ∧ (∀ e ∈ tb, H e.2.1 = none) ∧ QOk n (mv.map (·.1)) (pT tb) := rfl
    clear_value Core
    have c1 : Core H1 [] := by
      rw [hCore]
      exact ⟨fun b o e _ => s1 _ _ e, ⟨et, (fun e he => nomatch he), List.nodup_nil, List.nodup_nil⟩, (fun e he => nomatch he), QOk.nil _ _⟩
    have f1 := s1 _ _ fa.tab
    refine ⟨fun j σ' H' => ∃ (tb : Tbl) (b : Bool) (u4 u5 : Option V), σ' = [some (.ref eu), some (.ref fr), some (.ref t), some (.bl b), u4, u5] ∧ Core H' tb ∧ H' fr = some (.dT (fK mv us)) ∧ ((b = true ∧ ∃ j', j = j' + 1 ∧ Ends mv j' (pT tb) ∧ satQ mv j' (pT tb) = satQ mv m []) ∨ (b = false ∧ pT tb = satQ mv m [])), ⟨m + 1, [], true, none, none, rfl, c1, f1, .inl ⟨rfl, m, rfl, ends, rfl⟩⟩, ?_⟩
    rintro j σ' H' ⟨tb, b, u4, u5, rfl, co, ef, st⟩
    refine ⟨_, rfl, b, rfl, ?_⟩
    rcases st with ⟨rfl, j', rfl, en, sa⟩ | ⟨rfl, sa⟩
    rotate_left
    · rw [hCore] at co
      obtain ⟨k1, t1, r1, _⟩ := co
      refine ifF rfl ⟨_, rfl, k H' t tb (fun b o e => ?_) ntH r1 t1 sa⟩
      by_cases z : b = fr
      · rw [z] at e ⊢
        rw [fa.tab] at e
        rw [ef]
        exact e
      · exact k1 _ _ e z
    refine ifT rfl ⟨fun σ2 H2 => ∃ (tb2 : Tbl) (u4 u5 : Option V), σ2 = [some (.ref eu), some (.ref fr), some (.ref t), some (.bl (roundQ mv (pT tb, false)).2), u4, u5] ∧ Core H2 tb2 ∧ H2 fr = some (.dT (fK mv us)) ∧ pT tb2 = (roundQ mv (pT tb, false)).1, ?_, ?_⟩
    · rintro σ2 H2 ⟨tb2, v4, v5, rfl, co2, ef2, e2⟩
      cases hb : (roundQ mv (pT tb, false)).2 with
      | false =>
        refine ⟨0, by omega, tb2, false, v4, v5, rfl, co2, ef2, .inr ⟨rfl, ?_⟩⟩
        rw [e2, ← sa]
        cases j' with
        | zero => rfl
        | succ j'' => exact (if_pos hb).symm
      | true =>
        cases j' with
        | zero =>
          have z : (roundQ mv (pT tb, false)).2 = false := en
          rw [hb] at z
          cases z
        | succ j'' =>
          refine ⟨j'' + 1, by omega, tb2, true, v4, v5, rfl, co2, ef2, .inl ⟨rfl, j'', rfl, ?_, ?_⟩⟩
          · rcases en with z | z
            · rw [hb] at z
              cases z
            · rw [e2]
              exact z
          · rw [e2, ← sa]
            exact (if_neg (by rw [hb]; simp)).symm
    -- a round
    have low : ∀ (H2 : Hp) (tb2 : Tbl) (x : HO), Core H2 tb2 → Core (upd H2 fr x) tb2 := fun H2 tb2 x h => by
      rw [hCore] at h ⊢
      obtain ⟨k1, t1, r1, q1⟩ := h
      refine ⟨fun b o e n => by rw [upd_ne n]; exact k1 _ _ e n, ⟨by rw [upd_ne nfr]; exact t1.tab, fun e he => ?_, t1.keys, t1.adr⟩, r1, q1⟩
      rw [upd_ne (fun z => by
        have q := r1 e he
        rw [z, fa.tab] at q
        cases q)]
      exact t1.rows e he
    refine ⟨fr, _, ef, trivial, fun od => ?_⟩
    have coL := low _ _ (.frz od (.dT (fK mv us))) co
    have eL : (upd H' fr (.frz od (.dT (fK mv us)))) fr = some (.frz od (.dT (fK mv us))) := upd_same
    revert coL eL
    generalize upd H' fr (.frz od (.dT (fK mv us))) = HL
    intro coL eL
    have fl : (fK mv us).length = mv.length := by
      unfold fK
      rw [List.length_map, List.length_zip, ul, Nat.min_self]
    refine ⟨_, rfl, fr, od, rfl, .inr ⟨fK mv us, eL, ?_⟩⟩
    refine for_it walk_keysT (fun i σ H2 => ∃ (tb2 : Tbl) (u4 u5 : Option V), σ = [some (.ref eu), some (.ref fr), some (.ref t), some (.bl (roundQ (mv.take i) (pT tb, false)).2), u4, u5] ∧ Core H2 tb2 ∧ H2 fr = some (.frz od (.dT (fK mv us))) ∧ pT tb2 = (roundQ (mv.take i) (pT tb, false)).1) ⟨tb, _, _, rfl, coL, eL, rfl⟩ (fun i σ H2 _ ⟨_, _, _, _, _, e, _⟩ => e) ?_ ?_
    rotate_left
    · rintro σ H2 ⟨tb2, v4, v5, rfl, co2, e2, p2⟩
      rw [fl, List.take_length] at p2 ⊢
      exact ⟨e2, tb2, v4, v5, rfl, low _ _ _ co2, upd_same, p2⟩
    rintro i x σ H3 H2 hi ⟨tb2, v4, v5, rfl, co2, e2, p2⟩ ⟨rfl, key, v0, qa, hk, rfl, eq⟩
    obtain ⟨mm, u, hm, hu, rfl, rfl⟩ : ∃ mm u, mv[i]? = some mm ∧ us[i]? = some u ∧ key = [Sum.inl mm.1.1, Sum.inr mm.1.2] ∧ v0 = V.ref u := by
      unfold fK at hk
      rw [List.getElem?_map, Option.map_eq_some_iff] at hk
      obtain ⟨⟨mm, u⟩, hz, hk⟩ := hk
      rw [List.getElem?_zip_eq_some] at hz
      injection hk with h1 h2
      exact ⟨mm, u, hz.1, hz.2, h1.symm, h2.symm⟩
    obtain ⟨k0, cs⟩ := mm
    have tk : mv.take (i + 1) = mv.take i ++ [(k0, cs)] := by rw [List.take_succ, hm]; rfl
    have mmem := List.mem_of_getElem? hm
    obtain ⟨kl, mok⟩ := mo _ mmem
    have kl : k0.2.length ≤ 100 := kl
    have kh : k0 ∈ mv.map (·.1) := List.mem_map_of_mem (f := fun m : (Int × Str) × List Chc => m.1) mmem
    have du : Dp K H (.ref u) (.tuple (cs.map dCh)) := by
      obtain ⟨u', h1, h2⟩ := paired_get2 fa.val hm
      rw [hu] at h1
      injection h1 with h1
      rw [h1]
      exact h2
    have tkH : ∀ (H4 : Hp) (tb4 : Tbl), Core H4 tb4 → Tk H H4 := fun H4 tb4 h => by
      rw [hCore] at h
      refine fun b xs => ⟨fun e => h.1 b _ e (fun z => ?_), fun o e => h.1 b _ e (fun z => ?_)⟩ <;>
        · rw [z, fa.tab] at e
          cases e
    have dg : DGet H2 fr (.ref qa) (some (V.ref u)) := by
      refine .inr ⟨fK mv us, [Sum.inl k0.1, Sum.inr k0.2], qa, .inr ⟨od, e2⟩, rfl, eq, ?_⟩
      exact (fK_get fa.nd hm hu).symm
    obtain ⟨ua, xs, eu2, sq, dxs⟩ := dp_of_tup du
    cases eu2
    have xl : xs.length = cs.length := by rw [dpAll_len dxs, List.length_map]
    refine ⟨_, rfl, _, rfl, fr, _, rfl, dg, u, rfl, ⟨_, (tkH _ _ co2).seq sq⟩, ?_⟩
    rw [tk, roundQ_snoc]
    generalize hst : roundQ (mv.take i) (pT tb, false) = st0 at *
    refine for_tup (K := K) (a := u) (xs := xs) (fun j σ H4 => ∃ (tb4 : Tbl) (u5 : Option V), σ = [some (.ref eu), some (.ref fr), some (.ref t), some (.bl (headQ k0 st0 (cs.take j)).2), some (.ref qa), u5] ∧ Core H4 tb4 ∧ H4 fr = some (.frz od (.dT (fK mv us))) ∧ H4 qa = some (.tup [.int k0.1, .str k0.2]) ∧ pT tb4 = (headQ k0 st0 (cs.take j)).1) ⟨tb2, _, rfl, co2, e2, eq, p2⟩ (fun j σ H4 _ ⟨tb4, _, _, c4, _⟩ => (tkH _ _ c4).seq sq) ?_ ?_
    rotate_left
    · rintro σ H4 ⟨tb4, u5, rfl, c4, e4, _, p4⟩
      rw [xl, List.take_length] at p4 ⊢
      exact ⟨tb4, _, _, rfl, c4, e4, p4⟩
    rintro j x σ H4 hj ⟨tb4, u5, rfl, c4, e4, q4, p4⟩
    have jl : j < cs.length := by rw [← xl]; exact (List.getElem?_eq_some_iff.mp hj).1
    have hc := List.getElem?_eq_getElem jl
    generalize cs[j] = c at hc
    have tkc : cs.take (j + 1) = cs.take j ++ [c] := by rw [List.take_succ, hc]; rfl
    obtain ⟨c0, cn, cw⟩ := mok c (List.mem_of_getElem? hc)
    have dxc : Dp K H x (dCh c) := by
      obtain ⟨d', hd', dx⟩ := dpAll_get dxs j x hj
      rw [List.getElem?_map, hc] at hd'
      cases hd'
      exact dx
    have dc : Dp K H4 x (dCh c) := dp_tk (tkH _ _ c4) _ _ (flat_ch c) dxc
    obtain ⟨ca, wa, ex, ec, ew⟩ := ch_at dc
    subst ex
    have c4' := c4
    rw [hCore] at c4
    obtain ⟨k4, t4, r4, qk4⟩ := c4
    have tl4 : tb4.length < 100000 := by
      have z := qk4.len
      unfold pT at z
      rw [List.length_map, List.length_map] at z
      omega
    refine ⟨_, rfl, _, rfl, _, rfl, t, qa, ca, wa, k0.1, c.1, k0.2, c.2, tb4, n, rfl, t4, q4, ec, ew, tbOk_p qk4, n9, c0, cn, cw, by rw [sizeLine_eq]; omega, tl4, fun H5 ad k5 ad5 t5 => ?_⟩
    have p5 : pT (setT (insT tb4 (k0.1, k0.2) ad) (k0.1, k0.2) (putAll (lookT tb4 k0.1 k0.2) ((reachP tb4 [(c.1, 0)] (sgW k0.2 c.2)).filter (litB (lookT tb4 k0.1 k0.2))))) = addQ (pT tb4) k0 c := by
      rw [set_p, ins_p, look_p, reach_p]
      rfl
    have b5 : decide (0 < ((reachP tb4 [(c.1, 0)] (sgW k0.2 c.2)).filter (litB (lookT tb4 k0.1 k0.2))).length) = decide (0 < (newQ (pT tb4) k0 c).length) := by
      rw [look_p, reach_p]
      rfl
    have qk5 := addQ_ok qk4 kh c0 cn
    rw [← p5] at qk5
    have r5 : ∀ e ∈ setT (insT tb4 (k0.1, k0.2) ad) (k0.1, k0.2) (putAll (lookT tb4 k0.1 k0.2) ((reachP tb4 [(c.1, 0)] (sgW k0.2 c.2)).filter (litB (lookT tb4 k0.1 k0.2)))), H e.2.1 = none := by
      intro e he
      have hin : ∀ e ∈ insT tb4 (k0.1, k0.2) ad, H e.2.1 = none := by
        intro e he
        unfold insT at he
        split at he
        · exact r4 e he
        · rename_i ne
          rcases List.mem_append.mp he with he | he
          · exact r4 e he
          · rw [List.mem_singleton.mp he]
            rcases ad5 with ad5 | ⟨row, ad5⟩
            · cases z : H ad with
              | none => rfl
              | some o =>
                by_cases zf : ad = fr
                · rw [zf, e4] at ad5
                  cases ad5
                · rw [k4 _ _ z zf] at ad5
                  cases ad5
            · exact absurd (show (findT tb4 k0.1 k0.2).isSome = true by rw [ad5]; rfl) ne
      unfold setT at he
      obtain ⟨y, hy, rfl⟩ := List.mem_map.mp he
      have z := hin y hy
      split
      · exact z
      · exact z
    have fr5 : ∀ b o, H4 b = some o → (∃ o', H b = some o') ∨ b = fr ∨ b = qa → b ≠ t → (∀ e ∈ tb4, b ≠ e.2.1) → H5 b = some o := fun b o e _ n1 n2 => k5 b o e n1 n2
    have core5 : Core H5 (setT (insT tb4 (k0.1, k0.2) ad) (k0.1, k0.2) (putAll (lookT tb4 k0.1 k0.2) ((reachP tb4 [(c.1, 0)] (sgW k0.2 c.2)).filter (litB (lookT tb4 k0.1 k0.2))))) := by
      rw [hCore]
      refine ⟨fun b o e n => k5 _ _ (k4 _ _ e n) (fun z => by rw [z, ntH] at e; cases e) (fun x hx z => ?_), t5, r5, qk5⟩
      have q := r4 x hx
      rw [← z, e] at q
      cases q
    have e5 := k5 _ _ e4 (Ne.symm nfr) (fun x hx z => by
      have q := r4 x hx
      rw [← z, fa.tab] at q
      cases q)
    have q5 : H5 qa = some (.tup [.int k0.1, .str k0.2]) := k5 _ _ q4 (fun z => by
      have q := t4.tab
      rw [← z, q4] at q
      cases q) (fun x hx z => by
      have q := t4.rows x hx
      rw [← z, q4] at q
      cases q)
    rw [p4] at p5 b5
    rw [b5]
    rw [tkc, headQ_snoc]
    generalize hh : headQ k0 st0 (cs.take j) = st1 at *
    cases hb : decide (0 < (newQ st1.1 k0 c).length) with
    | true =>
      refine ⟨_, rfl, ifT rfl ?_⟩
      exact ⟨_, _, by rw [Bool.or_true]; rfl, core5, e5, q5, p5⟩
    | false =>
      refine ⟨_, rfl, ifF rfl ?_⟩
      exact ⟨_, _, by rw [Bool.or_false]; rfl, core5, e5, q5, p5⟩
end
end Lr

namespace Lr
open PySem PySem.Spec PyProof.Rows L2

theorem look_snoc (pt : PT) (k k' : Int × Str) (h : (pt.any fun e => decide (e.1 = k)) = false) : lookQ (pt ++ [(k, [])]) k' = lookQ pt k' := by
  unfold lookQ
  rw [List.find?_append]
  by_cases c : k = k'
  · subst c
    have z : pt.find? (fun e => decide (e.1 = k)) = none := by
      rw [List.find?_eq_none]
      intro x hx q
      have : (pt.any fun e => decide (e.1 = k)) = true := List.any_eq_true.mpr ⟨x, hx, q⟩
      rw [h] at this
      cases this
    rw [z]
    simp
  · cases e : pt.find? (fun e => decide (e.1 = k')) with
    | none => simp [c]
    | some y => rfl
theorem look_insQ (pt : PT) (k k' : Int × Str) : lookQ (insQ pt k) k' = lookQ pt k' := by
  unfold insQ
  split
  · rfl
  · rename_i c
    exact look_snoc pt k k' (Bool.eq_false_iff.mpr c)
theorem any_insQ (pt : PT) (k : Int × Str) : ((insQ pt k).any fun e => decide (e.1 = k)) = true := by
  unfold insQ
  split
  · assumption
  · rw [List.any_append]
    simp
theorem look_setQ (k : Int × Str) (row : Row) (k' : Int × Str) : ∀ pt : PT, (pt.any fun e => decide (e.1 = k)) = true → lookQ (setQ pt k row) k' = if k' = k then row else lookQ pt k' := by
  intro pt h
  unfold lookQ setQ
  rw [List.find?_map]
  have e : (fun x : (Int × Str) × Row => decide ((if x.1 = k then (x.1, row) else x).1 = k')) = fun x => decide (x.1 = k') := by
    funext x
    split <;> rfl
  show (Option.map (·.2) (Option.map (fun e => if e.1 = k then (e.1, row) else e) (pt.find? fun x => decide ((if x.1 = k then (x.1, row) else x).1 = k')))).getD [] = _
  rw [e]
  by_cases c : k' = k
  · rw [if_pos c, c]
    cases f : pt.find? fun x => decide (x.1 = k) with
    | none =>
      rw [List.find?_eq_none] at f
      obtain ⟨x, hx, q⟩ := List.any_eq_true.mp h
      exact absurd q (f x hx)
    | some y =>
      have z : y.1 = k := of_decide_eq_true (by have q := List.find?_some f; exact q)
      show (if y.1 = k then (y.1, row) else y).2 = row
      rw [if_pos z]
  · rw [if_neg c]
    cases f : pt.find? fun x => decide (x.1 = k') with
    | none => rfl
    | some y =>
      have z : y.1 = k' := of_decide_eq_true (by have q := List.find?_some f; exact q)
      show (if y.1 = k then (y.1, row) else y).2 = y.2
      rw [if_neg (fun w => c (z.symm.trans w))]
theorem look_add (pt : PT) (k : Int × Str) (c : Chc) (k' : Int × Str) : lookQ (addQ pt k c) k' = if k' = k then putAll (lookQ pt k) (newQ pt k c) else lookQ pt k' := by
  unfold addQ
  rw [look_setQ k _ k' _ (any_insQ pt k), look_insQ]
/-- tables that tell the same rows -/
def LEq (a b : PT) : Prop := ∀ k, lookQ a k = lookQ b k
theorem next_leq {a b : PT} (h : LEq a b) (g : Str) (r : Row) : nextQ a g r = nextQ b g r := by
  unfold nextQ
  congr 1
  funext f p
  rw [h]
theorem reach_leq {a b : PT} (h : LEq a b) : ∀ (ws : List Str) (r : Row), reachQ a r ws = reachQ b r ws
  | [], _ => rfl
  | g :: ws, r => by
    show reachQ a (nextQ a g r) ws = reachQ b (nextQ b g r) ws
    rw [next_leq h, reach_leq h ws]
theorem new_leq {a b : PT} (h : LEq a b) (k : Int × Str) (c : Chc) : newQ a k c = newQ b k c := by
  unfold newQ
  rw [reach_leq h, h]
theorem add_none {pt : PT} {k : Int × Str} {c : Chc} (h : newQ pt k c = []) : LEq (addQ pt k c) pt := fun k' => by
  rw [look_add, h]
  split
  · rename_i e
    rw [e]
    rfl
  · rfl
theorem head_flag (k : Int × Str) : ∀ (cs : List Chc) (st : PT × Bool), st.2 = true → (headQ k st cs).2 = true
  | [], _, h => h
  | c :: r, st, h => head_flag k r _ (by show (st.2 || _) = true; rw [h]; rfl)
theorem round_flag : ∀ (mv : Mvs) (st : PT × Bool), st.2 = true → (roundQ mv st).2 = true
  | [], _, h => h
  | m :: r, st, h => round_flag r _ (head_flag m.1 m.2 st h)
theorem head_still (k : Int × Str) : ∀ (cs : List Chc) (st : PT × Bool), (headQ k st cs).2 = false → LEq (headQ k st cs).1 st.1 ∧ ∀ c ∈ cs, newQ st.1 k c = []
  | [], st, _ => ⟨fun _ => rfl, fun _ h => nomatch h⟩
  | c :: r, st, h => by
    have nw : newQ st.1 k c = [] := by
      cases e : newQ st.1 k c with
      | nil => rfl
      | cons p ps =>
        have z := head_flag k r (addQ st.1 k c, st.2 || decide (0 < (newQ st.1 k c).length)) (by rw [e]; show (st.2 || true) = true; rw [Bool.or_true])
        have h : (headQ k (addQ st.1 k c, st.2 || decide (0 < (newQ st.1 k c).length)) r).2 = false := h
        rw [z] at h
        cases h
    obtain ⟨a, b⟩ := head_still k r _ h
    have le := add_none nw
    refine ⟨fun k' => (a k').trans (le k'), fun c' hc => ?_⟩
    rcases List.mem_cons.mp hc with rfl | hc
    · exact nw
    · exact (new_leq le k c').symm.trans (b c' hc)
/-- a round that changes nothing: each choice's entries stand -/
theorem round_still : ∀ (mv : Mvs) (st : PT × Bool), (roundQ mv st).2 = false → LEq (roundQ mv st).1 st.1 ∧ ∀ m ∈ mv, ∀ c ∈ m.2, newQ st.1 m.1 c = []
  | [], st, _ => ⟨fun _ => rfl, fun _ h => nomatch h⟩
  | m :: r, st, h => by
    have hf : (headQ m.1 st m.2).2 = false := by
      cases e : (headQ m.1 st m.2).2 with
      | false => rfl
      | true =>
        have z := round_flag r _ e
        have h : (roundQ r (headQ m.1 st m.2)).2 = false := h
        rw [z] at h
        cases h
    obtain ⟨a, b⟩ := head_still m.1 m.2 st hf
    obtain ⟨a2, b2⟩ := round_still r _ h
    refine ⟨fun k' => (a2 k').trans (a k'), fun m' hm c hc => ?_⟩
    rcases List.mem_cons.mp hm with rfl | hm
    · exact b c hc
    · exact (new_leq a m'.1 c).symm.trans (b2 m' hm c hc)
/-- every choice's entries stand -/
def Closed (mv : Mvs) (pt : PT) : Prop := ∀ m ∈ mv, ∀ c ∈ m.2, newQ pt m.1 c = []
theorem sat_closed (mv : Mvs) : ∀ (m : Nat) (pt : PT), Ends mv m pt → Closed mv (satQ mv m pt)
  | 0, pt, h => fun x hx c hc => (new_leq (round_still mv (pt, false) h).1 x.1 c).trans ((round_still mv (pt, false) h).2 x hx c hc)
  | m + 1, pt, h => by
    unfold satQ
    by_cases c : (roundQ mv (pt, false)).2 = false
    · rw [if_pos c]
      exact fun x hx c' hc => (new_leq (round_still mv (pt, false) c).1 x.1 c').trans ((round_still mv (pt, false) c).2 x hx c' hc)
    · rw [if_neg c]
      exact sat_closed mv m _ (h.resolve_left c)
end Lr

namespace Lr
open PySem PySem.Spec PyProof.Rows L2

mutual
/-- what is popped off, and in how many steps -/
inductive Der (mv : Mvs) : (Int × Str) → Int → Int → Prop where
  | mk {k : Int × Str} {cs : List Chc} {c : Chc} {q w : Int} (h : (k, cs) ∈ mv) (hc : c ∈ cs) (t : WayD mv c.1 (sgW k.2 c.2) q w) : Der mv k q (w + 1)
inductive WayD (mv : Mvs) : Int → List Str → Int → Int → Prop where
  | nil {s : Int} : WayD mv s [] s 0
  | cons {s r q w1 w2 : Int} {g : Str} {ws : List Str} (h : Der mv (s, g) r w1) (t : WayD mv r ws q w2) : WayD mv s (g :: ws) q (w1 + w2)
end
def ofP (pt : PT) : Tbl := pt.map fun e => (e.1, 0, e.2)
theorem pT_of (pt : PT) : pT (ofP pt) = pt := by
  unfold pT ofP
  rw [List.map_map]
  show pt.map (fun e => (e.1, e.2)) = pt
  exact List.map_id' pt
theorem look_of (pt : PT) (s : Int) (g : Str) : lookT (ofP pt) s g = lookQ pt (s, g) := by rw [look_p, pT_of]
theorem reach_of (pt : PT) (ws : List Str) (r : Row) : reachP (ofP pt) r ws = reachQ pt r ws := by rw [reach_p, pT_of]
def Sound (mv : Mvs) (pt : PT) : Prop := ∀ k q w, (q, w) ∈ lookQ pt k → Der mv k q w
theorem way_sound {mv : Mvs} {pt : PT} (h : Sound mv pt) : ∀ {s : Int} {ws : List Str} {q w : Int}, WayT (ofP pt) s ws q w → WayD mv s ws q w
  | _, _, _, _, .nil => .nil
  | _, _, _, _, .cons (s := s) (g := g) hh t => .cons (h (s, g) _ _ (by rw [look_of] at hh; exact hh)) (way_sound h t)
theorem putAll_mem : ∀ {ls row : Row} {e : Int × Int}, e ∈ putAll row ls → e ∈ row ∨ ∃ p ∈ ls, e = (p.1, p.2 + 1)
  | [], _, _, h => .inl h
  | p :: r, row, e, h => by
    rcases putAll_mem (ls := r) h with h | ⟨p', hp, rfl⟩
    · rcases putR_mem h with h | rfl
      · exact .inl h
      · exact .inr ⟨p, List.mem_cons_self, rfl⟩
    · exact .inr ⟨p', List.mem_cons_of_mem _ hp, rfl⟩
theorem reach_sound {mv : Mvs} {n : Nat} {hs : List (Int × Str)} {pt : PT} (so : Sound mv pt) (ok : QOk n hs pt) {s : Int} (s0 : 0 ≤ s) (s1 : s < (n : Int)) {ws : List Str} {q w : Int} (h : (q, w) ∈ reachQ pt [(s, 0)] ws) : WayD mv s ws q w := by
  have rok := reachQ_ok ok ws (row0_ok s0 s1)
  have g := get_mem rok.nd h
  rw [← reach_of] at g
  obtain ⟨p, hp, w', wy, e⟩ := reach_from (ofP pt) ws [(s, 0)] (by simp) g
  rw [List.mem_singleton.mp hp] at wy e
  have e : w = 0 + w' := e
  have z := way_sound so wy
  rw [e, Int.zero_add]
  exact z
theorem add_sound {mv : Mvs} {n : Nat} {hs : List (Int × Str)} {pt : PT} (so : Sound mv pt) (ok : QOk n hs pt) {k : Int × Str} {cs : List Chc} (hk : (k, cs) ∈ mv) {c : Chc} (hc : c ∈ cs) (c0 : 0 ≤ c.1) (c1 : c.1 < (n : Int)) : Sound mv (addQ pt k c) := fun k' q w h => by
  rw [look_add] at h
  by_cases e : k' = k
  · rw [if_pos e] at h
    rcases putAll_mem h with h | ⟨p, hp, e2⟩
    · rw [e]
      exact so k q w h
    · injection e2 with e3 e4
      rw [e, e3, e4]
      exact .mk hk hc (reach_sound so ok c0 c1 (List.mem_filter.mp hp).1)
  · rw [if_neg e] at h
    exact so k' q w h
theorem head_sound {mv : Mvs} {n : Nat} {hs : List (Int × Str)} {k : Int × Str} {all : List Chc} (hk : (k, all) ∈ mv) (kh : k ∈ hs) : ∀ {cs : List Chc} {st : PT × Bool}, (∀ c ∈ cs, c ∈ all) → (∀ c ∈ cs, 0 ≤ c.1 ∧ c.1 < (n : Int) ∧ c.2.length ≤ 5000) → QOk n hs st.1 → Sound mv st.1 → Sound mv (headQ k st cs).1
  | [], _, _, _, _, so => so
  | c :: r, st, ha, hc, ok, so => by
    obtain ⟨a, b, _⟩ := hc c List.mem_cons_self
    exact head_sound hk kh (cs := r) (fun x hx => ha x (List.mem_cons_of_mem _ hx)) (fun x hx => hc x (List.mem_cons_of_mem _ hx)) (addQ_ok ok kh a b) (add_sound so ok hk (ha c List.mem_cons_self) a b)
theorem round_sound {mv : Mvs} {n : Nat} {hs : List (Int × Str)} : ∀ {ms : Mvs} {st : PT × Bool}, (∀ m ∈ ms, m ∈ mv) → (∀ m ∈ ms, m.1 ∈ hs) → MvOk n ms → QOk n hs st.1 → Sound mv st.1 → Sound mv (roundQ ms st).1
  | [], _, _, _, _, _, so => so
  | m :: r, st, ha, hh, mo, ok, so => by
    have mo1 := (mo m List.mem_cons_self).2
    exact round_sound (ms := r) (fun x hx => ha x (List.mem_cons_of_mem _ hx)) (fun x hx => hh x (List.mem_cons_of_mem _ hx)) (fun x hx => mo x (List.mem_cons_of_mem _ hx)) (headQ_ok (hh m List.mem_cons_self) mo1 ok) (head_sound (ha m List.mem_cons_self) (hh m List.mem_cons_self) (fun _ h => h) mo1 ok so)
theorem sat_sound {mv : Mvs} {n : Nat} (mo : MvOk n mv) : ∀ (m : Nat) (pt : PT), QOk n (mv.map (·.1)) pt → Sound mv pt → Sound mv (satQ mv m pt) ∧ QOk n (mv.map (·.1)) (satQ mv m pt) := by
  have hh : ∀ m ∈ mv, m.1 ∈ mv.map (·.1) := fun m hm => List.mem_map_of_mem (f := fun m : (Int × Str) × List Chc => m.1) hm
  intro m
  induction m with
  | zero => exact fun pt ok so => ⟨round_sound (fun _ h => h) hh mo ok so, roundQ_ok hh mo ok⟩
  | succ m ih =>
    intro pt ok so
    have a := round_sound (st := (pt, false)) (fun _ h => h) hh mo ok so
    have b := roundQ_ok (st := (pt, false)) hh mo ok
    unfold satQ
    split
    · exact ⟨a, b⟩
    · exact ih _ b a
mutual
theorem der_in {mv : Mvs} {n : Nat} {hs : List (Int × Str)} {pt : PT} (cl : Closed mv pt) (mo : MvOk n mv) (ok : QOk n hs pt) : ∀ {k : Int × Str} {q w : Int}, Der mv k q w → ∃ v, v ≤ w ∧ (q, v) ∈ lookQ pt k
  | _, _, _, .mk (k := k) (cs := cs) (c := c) (q := q) (w := w) h hc t => by
    obtain ⟨v, lv, wy⟩ := way_in cl mo ok t
    obtain ⟨v2, l2, m2⟩ := reach_to (ofP pt) (sgW k.2 c.2) [(c.1, 0)] (p := (c.1, 0)) List.mem_cons_self wy
    rw [reach_of] at m2
    have l2 : v2 ≤ 0 + v := l2
    have z := cl (k, cs) h c hc
    have lb : litB (lookQ pt k) (q, v2) = false := by
      cases e : litB (lookQ pt k) (q, v2) with
      | false => rfl
      | true =>
        have m : (q, v2) ∈ newQ pt k c := List.mem_filter.mpr ⟨m2, e⟩
        rw [show newQ pt k c = [] from z] at m
        cases m
    unfold litB at lb
    cases e : getR (lookQ pt k) q with
    | none =>
      rw [show getR (lookQ pt k) (q, v2).1 = none from e] at lb
      cases lb
    | some u =>
      rw [show getR (lookQ pt k) (q, v2).1 = some u from e] at lb
      have lb : ¬ (v2 + 1 < u) := of_decide_eq_false lb
      exact ⟨u, by omega, get_in e⟩
theorem way_in {mv : Mvs} {n : Nat} {hs : List (Int × Str)} {pt : PT} (cl : Closed mv pt) (mo : MvOk n mv) (ok : QOk n hs pt) : ∀ {s : Int} {ws : List Str} {q w : Int}, WayD mv s ws q w → ∃ v, v ≤ w ∧ WayT (ofP pt) s ws q v
  | _, _, _, _, .nil => ⟨0, Int.le_refl _, .nil⟩
  | _, _, _, _, .cons (s := s) (g := g) h t => by
    obtain ⟨v1, l1, m1⟩ := der_in cl mo ok h
    obtain ⟨v2, l2, m2⟩ := way_in cl mo ok t
    exact ⟨v1 + v2, by omega, .cons (by rw [look_of]; exact m1) m2⟩
end
/-- the rows of the saturated table: the least steps of all that is popped off -/
theorem sat_rows {mv : Mvs} {n m : Nat} (mo : MvOk n mv) (en : Ends mv m []) (k : Int × Str) (q w : Int) : (q, w) ∈ lookQ (satQ mv m []) k ↔ Der mv k q w ∧ ∀ w', Der mv k q w' → w ≤ w' := by
  obtain ⟨so, ok⟩ := sat_sound mo m [] (QOk.nil _ _) (fun k q w h => nomatch h)
  have cl := sat_closed mv m [] en
  have nd := (lookQ_ok ok k).nd
  constructor
  · intro h
    refine ⟨so k q w h, fun w' hw => ?_⟩
    obtain ⟨v, lv, mv'⟩ := der_in cl mo ok hw
    have e1 := get_mem nd h
    have e2 := get_mem nd mv'
    rw [e1] at e2
    injection e2 with e2
    have e2 : w = v := e2
    omega
  · rintro ⟨h, lst⟩
    obtain ⟨v, lv, mv'⟩ := der_in cl mo ok h
    have z := lst v (so k q v mv')
    have e : v = w := by omega
    rw [← e]
    exact mv'
end Lr

namespace Lr
open PySem PySem.Spec PyProof.Rows L2

def wtR (r : Row) : Nat := (r.map fun p => p.2.toNat).sum
/-- one row is further than another -/
def RLess (a b : Row) : Prop := b.length < a.length ∨ (a.length = b.length ∧ wtR a < wtR b)
theorem put_new {r : Row} {x w : Int} (h : getR r x = none) : (putR r x w).length = r.length + 1 := by
  unfold putR
  rw [any_get, h, if_neg (by simp), List.length_append]
  rfl
theorem put_less : ∀ {r : Row} {x w v : Int}, (r.map (·.1)).Nodup → getR r x = some v → 0 ≤ w → w < v → (putR r x w).length = r.length ∧ wtR (putR r x w) < wtR r := by
  intro r x w v nd h w0 wv
  have e : putR r x w = r.map fun p => if p.1 = x then (p.1, w) else p := by
    unfold putR
    rw [any_get, h, if_pos (show (some v).isSome = true from rfl)]
  rw [e]
  refine ⟨List.length_map .., ?_⟩
  clear e
  induction r with
  | nil => cases h
  | cons p r ih =>
    rw [List.map_cons, List.nodup_cons] at nd
    unfold wtR at *
    rw [List.map_cons, List.map_cons, List.map_cons, List.sum_cons, List.sum_cons]
    by_cases c : p.1 = x
    · rw [if_pos c]
      have hv : p.2 = v := by
        simp [getR, List.find?_cons, c] at h
        exact h
      have rest : (r.map fun p => if p.1 = x then (p.1, w) else p) = r := by
        conv => rhs; rw [← List.map_id r]
        refine List.map_congr_left fun y hy => ?_
        rw [if_neg (fun z => nd.1 (by rw [c, ← z]; exact List.mem_map_of_mem (f := fun p : Int × Int => p.1) hy))]
        rfl
      rw [rest]
      show w.toNat + _ < p.2.toNat + _
      omega
    · rw [if_neg c]
      have h2 : getR r x = some v := by
        unfold getR at h ⊢
        rw [List.find?_cons, decide_eq_false c] at h
        exact h
      have z := ih nd.2 h2
      omega
theorem RLess.trans {a b c : Row} (h : RLess a b) (k : RLess b c) : RLess a c := by
  unfold RLess at *
  omega
theorem putAll_less {n : Nat} : ∀ {ls row : Row}, RowOk n row → (∀ p ∈ ls, 0 ≤ p.1 ∧ p.1 < (n : Int) ∧ 0 ≤ p.2) → (ls.map (·.1)).Nodup → (∀ p ∈ ls, litB row p = true) → ls ≠ [] → RLess (putAll row ls) row
  | [], _, _, _, _, _, h => absurd rfl h
  | p :: r, row, ok, hb, nd, hl, _ => by
    rw [List.map_cons, List.nodup_cons] at nd
    obtain ⟨p0, p1, p2⟩ := hb p List.mem_cons_self
    have one : RLess (putR row p.1 (p.2 + 1)) row := by
      have lb := hl p List.mem_cons_self
      unfold litB at lb
      cases e : getR row p.1 with
      | none =>
        left
        rw [put_new e]
        omega
      | some v =>
        rw [e] at lb
        have lt : p.2 + 1 < v := of_decide_eq_true lb
        exact .inr (put_less ok.nd e (by omega) lt)
    have ok2 : RowOk n (putR row p.1 (p.2 + 1)) := ok.put p0 p1 (by omega)
    by_cases e : r = []
    · subst e
      exact one
    · refine RLess.trans (putAll_less (ls := r) ok2 (fun q hq => hb q (List.mem_cons_of_mem _ hq)) nd.2 (fun q hq => ?_) e) one
      have lb := hl q (List.mem_cons_of_mem _ hq)
      have ne : q.1 ≠ p.1 := fun z => nd.1 (by rw [← z]; exact List.mem_map_of_mem (f := fun p : Int × Int => p.1) hq)
      unfold litB at lb ⊢
      rw [get_put, if_neg ne]
      exact lb
theorem sum_one {α : Type} {f g : α → Nat} {k : α} : ∀ {l : List α}, l.Nodup → k ∈ l → (∀ x, x ≠ k → f x = g x) → (l.map f).sum + g k = (l.map g).sum + f k
  | [], _, h, _ => nomatch h
  | x :: l, nd, h, e => by
    rw [List.nodup_cons] at nd
    rw [List.map_cons, List.map_cons, List.sum_cons, List.sum_cons]
    by_cases c : x = k
    · subst c
      have z : l.map f = l.map g := List.map_congr_left fun y hy => e y (fun q => nd.1 (q ▸ hy))
      rw [z]
      omega
    · have m : k ∈ l := (List.mem_cons.mp h).resolve_left (fun q => c q.symm)
      have z := sum_one nd.2 m e
      have q := e x c
      omega
def sumE (hs : List (Int × Str)) (pt : PT) : Nat := (hs.map fun k => (lookQ pt k).length).sum
def sumS (hs : List (Int × Str)) (pt : PT) : Nat := (hs.map fun k => wtR (lookQ pt k)).sum
def Less (hs : List (Int × Str)) (a b : PT) : Prop := sumE hs b < sumE hs a ∨ (sumE hs a = sumE hs b ∧ sumS hs a < sumS hs b)
def Lequ (hs : List (Int × Str)) (a b : PT) : Prop := Less hs a b ∨ (sumE hs a = sumE hs b ∧ sumS hs a = sumS hs b)
theorem Lequ.refl (hs : List (Int × Str)) (a : PT) : Lequ hs a a := .inr ⟨rfl, rfl⟩
theorem Lequ.trans {hs : List (Int × Str)} {a b c : PT} (h : Lequ hs a b) (k : Lequ hs b c) : Lequ hs a c := by
  unfold Lequ Less at *
  omega
theorem Less.of {hs : List (Int × Str)} {a b c : PT} (h : Lequ hs a b) (k : Less hs b c) : Less hs a c := by
  unfold Lequ Less at *
  omega
theorem Less.to {hs : List (Int × Str)} {a b c : PT} (h : Less hs a b) (k : Lequ hs b c) : Less hs a c := by
  unfold Lequ Less at *
  omega
theorem leq_le {hs : List (Int × Str)} {a b : PT} (h : LEq a b) : Lequ hs a b := by
  refine .inr ⟨?_, ?_⟩
  · unfold sumE
    congr 1
    exact List.map_congr_left fun k _ => by rw [h]
  · unfold sumS
    congr 1
    exact List.map_congr_left fun k _ => by rw [h]
theorem add_less {n : Nat} {hs : List (Int × Str)} (hn : hs.Nodup) {pt : PT} (ok : QOk n hs pt) {k : Int × Str} (hk : k ∈ hs) {c : Chc} (c0 : 0 ≤ c.1) (c1 : c.1 < (n : Int)) (ne : newQ pt k c ≠ []) : Less hs (addQ pt k c) pt := by
  have wok := reachQ_ok ok (sgW k.2 c.2) (row0_ok c0 c1)
  have rl : RLess (lookQ (addQ pt k c) k) (lookQ pt k) := by
    rw [look_add, if_pos rfl]
    refine putAll_less (lookQ_ok ok k) (fun p hp => wok.bd p (List.mem_filter.mp hp).1) ?_ (fun p hp => (List.mem_filter.mp hp).2) ne
    exact List.Nodup.sublist (List.Sublist.map _ (List.filter_sublist)) wok.nd
  have off : ∀ x, x ≠ k → lookQ (addQ pt k c) x = lookQ pt x := fun x hx => by rw [look_add, if_neg hx]
  have e := sum_one (f := fun x => (lookQ (addQ pt k c) x).length) (g := fun x => (lookQ pt x).length) hn hk fun x hx => by rw [off x hx]
  have s := sum_one (f := fun x => wtR (lookQ (addQ pt k c) x)) (g := fun x => wtR (lookQ pt x)) hn hk fun x hx => by rw [off x hx]
  unfold Less sumE sumS
  unfold RLess at rl
  omega
theorem head_le {n : Nat} {hs : List (Int × Str)} (hn : hs.Nodup) {k : Int × Str} (hk : k ∈ hs) : ∀ {cs : List Chc} {st : PT × Bool}, (∀ c ∈ cs, 0 ≤ c.1 ∧ c.1 < (n : Int) ∧ c.2.length ≤ 5000) → QOk n hs st.1 → Lequ hs (headQ k st cs).1 st.1 ∧ (st.2 = false → (headQ k st cs).2 = true → Less hs (headQ k st cs).1 st.1)
  | [], st, _, _ => ⟨Lequ.refl _ _, fun h1 h2 => by rw [show (headQ k st []).2 = st.2 from rfl, h1] at h2; cases h2⟩
  | c :: r, st, hc, ok => by
    obtain ⟨a, b, _⟩ := hc c List.mem_cons_self
    have ok2 := addQ_ok ok hk a b
    obtain ⟨l, s⟩ := head_le hn hk (cs := r) (st := (addQ st.1 k c, st.2 || decide (0 < (newQ st.1 k c).length))) (fun x hx => hc x (List.mem_cons_of_mem _ hx)) ok2
    by_cases e : newQ st.1 k c = []
    · have le := leq_le (hs := hs) (add_none e)
      refine ⟨l.trans le, fun h1 h2 => Less.to (s ?_ h2) le⟩
      show (st.2 || decide (0 < (newQ st.1 k c).length)) = false
      rw [h1, e]
      rfl
    · have z := Less.of l (add_less hn ok hk a b e)
      exact ⟨.inl z, fun _ _ => z⟩
theorem round_le {n : Nat} {hs : List (Int × Str)} (hn : hs.Nodup) : ∀ {mv : Mvs} {st : PT × Bool}, (∀ m ∈ mv, m.1 ∈ hs) → MvOk n mv → QOk n hs st.1 → Lequ hs (roundQ mv st).1 st.1 ∧ (st.2 = false → (roundQ mv st).2 = true → Less hs (roundQ mv st).1 st.1)
  | [], st, _, _, _ => ⟨Lequ.refl _ _, fun h1 h2 => by rw [show (roundQ [] st).2 = st.2 from rfl, h1] at h2; cases h2⟩
  | m :: r, st, hh, mo, ok => by
    have mo1 := (mo m List.mem_cons_self).2
    have hk := hh m List.mem_cons_self
    obtain ⟨l1, s1⟩ := head_le hn hk (cs := m.2) (st := st) mo1 ok
    obtain ⟨l2, s2⟩ := round_le hn (mv := r) (st := headQ m.1 st m.2) (fun x hx => hh x (List.mem_cons_of_mem _ hx)) (fun x hx => mo x (List.mem_cons_of_mem _ hx)) (headQ_ok hk mo1 ok)
    refine ⟨l2.trans l1, fun h1 h2 => ?_⟩
    cases e : (headQ m.1 st m.2).2 with
    | true => exact Less.of l2 (s1 h1 e)
    | false => exact Less.to (s2 e h2) l1
theorem sumE_le {n : Nat} {hs : List (Int × Str)} {pt : PT} (ok : QOk n hs pt) : sumE hs pt ≤ hs.length * n := by
  unfold sumE
  generalize hs = l at *
  have all : ∀ k, (lookQ pt k).length ≤ n := fun k => (lookQ_ok ok k).len
  clear ok
  induction l with
  | nil => exact Nat.zero_le _
  | cons k r ih =>
    rw [List.map_cons, List.sum_cons, List.length_cons, Nat.succ_mul]
    have := all k
    omega
/-- the rounds come to an end -/
theorem ends_ex {n : Nat} {mv : Mvs} (hn : (mv.map (·.1)).Nodup) (mo : MvOk n mv) : ∀ (e s : Nat) (pt : PT), QOk n (mv.map (·.1)) pt → (mv.map (·.1)).length * n - sumE (mv.map (·.1)) pt = e → sumS (mv.map (·.1)) pt = s → ∃ m, Ends mv m pt := by
  have hh : ∀ m ∈ mv, m.1 ∈ mv.map (·.1) := fun m hm => List.mem_map_of_mem (f := fun m : (Int × Str) × List Chc => m.1) hm
  intro e
  induction e using Nat.strongRecOn with
  | _ e ihe =>
    intro s
    induction s using Nat.strongRecOn with
    | _ s ihs =>
      intro pt ok he hs
      cases f : (roundQ mv (pt, false)).2 with
      | false => exact ⟨0, f⟩
      | true =>
        have ok2 := roundQ_ok (st := (pt, false)) hh mo ok
        have le := (round_le hn (st := (pt, false)) hh mo ok).2 rfl f
        have b1 := sumE_le ok
        have b2 := sumE_le ok2
        have step : ∃ m, Ends mv m (roundQ mv (pt, false)).1 := by
          unfold Less at le
          have le : sumE (mv.map (·.1)) pt < sumE (mv.map (·.1)) (roundQ mv (pt, false)).1 ∨ (sumE (mv.map (·.1)) (roundQ mv (pt, false)).1 = sumE (mv.map (·.1)) pt ∧ sumS (mv.map (·.1)) (roundQ mv (pt, false)).1 < sumS (mv.map (·.1)) pt) := le
          rcases le with le | ⟨l1, l2⟩
          · exact ihe _ (by omega) _ _ ok2 rfl rfl
          · exact ihs _ (by omega) _ ok2 (by rw [l1]; exact he) rfl
        obtain ⟨m, hm⟩ := step
        exact ⟨m + 1, .inr hm⟩
theorem ends_nil {n : Nat} {mv : Mvs} (hn : (mv.map (·.1)).Nodup) (mo : MvOk n mv) : ∃ m, Ends mv m [] := ends_ex hn mo _ _ [] (QOk.nil _ _) rfl rfl
end Lr

namespace Lr
open PySem PySem.Spec PyProof.Rows L2
section
variable {X : Cx} {pins : List (Addr × Obj)} {σ : L2.St} {H : Hp} {s : Shared} {d : Addr} {o : Obj}
theorem frzT2 {kvs : List (List Key × V)} (I : Inv X pins σ H s) (h : H d = some (.frz o (.dT kvs))) :
    (d == sysModules) = false ∧ s.heap.get? d = some o ∧ o.ExactDict ∧ ∃ (es : Array DictEntry) (ep : Nat), o.data = .dict es ep ∧ es.size = kvs.length ∧
      ∀ (i : Nat) (k : List Key) (v : V), kvs[i]? = some (k, v) → ∃ (en : DictEntry) (q : Addr), es[i]? = some en ∧ en.key = .ref q ∧ H q = some (.tup (k.map kV)) ∧ RelV v en.val := by
  obtain ⟨hd, z, hs, xs, pr, o', es, ep, ho, hx, hdt, he, _⟩ := I.hok d _ h
  rw [hd] at ho
  cases ho
  refine ⟨hs, hd, hx, es, ep, hdt, ?_, fun i k v e => ?_⟩
  · have l1 : es.size = xs.length := size_of_entries he
    have l2 : kvs.length = xs.length := Paired.length pr
    omega
  · obtain ⟨b, hb, e1, e2, e3⟩ := L2.paired_get pr e
    have q := entry_at he i
    rw [hb] at q
    exact ⟨_, b.2.1, q, rfl, e2, e3⟩
end
/-- the pairs of a locked dict whose keys are tuples, each a new tuple of the key's own one and the value -/
def Itit (d : Addr) (o : Obj) (kvs : List (List Key × V)) : It :=
  ⟨fun i H => H d = some (.frz o (.dT kvs)) ∧ i < kvs.length, fun i H x H' => ∃ T k v q, kvs[i]? = some (k, v) ∧ x = .ref T ∧ H T = none ∧ H' = upd H T (.tup [.ref q, v]) ∧ H q = some (.tup (k.map kV)), fun i H => H d = some (.frz o (.dT kvs)) ∧ kvs.length ≤ i⟩
section
variable {P : Program} {w : World} {K : PySem.W.Frag} {d : Addr} {o : Obj} {es : Array DictEntry} {ep : Nat}
theorem turn_itemsT {kvs : List (List Key × V)} {elts : List Expr} {kk : Nat} {tpos : Pos} (it : Addr) (hod : o.data = .dict es ep) :
    Turn P w K (.Tuple elts kk tpos) (Itit d o kvs) [it] it (fun i h => ∃ ok ov, PySem.IsItemIter h it d i kvs.length ep ok ov) where
  mem := by simp
  obj := fun i h st b hb => by
    have e : b = it := by simpa using hb
    subst e
    obtain ⟨ok, ov, e⟩ := st
    exact ⟨_, e, fun v z => nomatch z⟩
  keep := fun i h h' st k => let ⟨ok, ov, e⟩ := st; ⟨ok, ov, k it (by simp) _ e⟩
  item := by
    intro X hP hw hK hc i pins s σ H E I hf st hg
    subst hP hw hK
    obtain ⟨hd, hi⟩ := hg
    obtain ⟨hs, hgd, hx, es', ep', hdt, hsz, ent⟩ := frzT2 I hd
    obtain ⟨rfl, rfl⟩ := dict_ep hod hdt
    obtain ⟨⟨k, v⟩, hkv⟩ : ∃ p, kvs[i]? = some p := ⟨kvs[i], List.getElem?_eq_getElem hi⟩
    obtain ⟨en, q, hen, hkey, hq, ru⟩ := ent i k v hkv
    obtain ⟨ok, ov, he⟩ := st
    rw [← hsz] at he
    have hlt : it < s.heap.objs.size := Heap.lt_size he
    have hi2 : i < es'.size := by omega
    have een : es'[i] = en := by
      rw [Array.getElem?_eq_getElem hi2] at hen
      injection hen
    refine PySem.wpAny_pyNext_items_item_raw he ⟨o, hgd, hx, hdt⟩ hi2 fun h' ho hT hz hk => ?_
    refine ⟨_, rfl, wpAny_letOwnedTupleGo_items (s := { s with heap := h' }) ho fun h'' he' sb => ?_⟩
    have hT2 : h''.get? s.heap.objs.size = some { cls := .type "tuple", data := .seq #[es'[i].key, es'[i].val] } := (sb.2 _ (Nat.ne_of_gt hlt)).trans hT
    rw [een, hkey] at hT2
    have new : ObjOk X.prog X.w (upd H s.heap.objs.size (.tup [.ref q, v])) h'' s.heap.objs.size (.tup [.ref q, v]) :=
      ⟨by show 2 ≤ sizeLine; decide, [.ref q, en.val], .cons rfl (.cons ru .nil), ⟨_, hT2, rfl, _, rfl⟩⟩
    have I1 : Inv X pins σ (upd H s.heap.objs.size (.tup [.ref q, v])) { s with heap := h'' } :=
      I.turnedNew (t' := s.toks) (ch := [it]) (fun b ob hb e => (sb.2 b (by simpa using hb)).trans (hk b ob (by simpa using hb) e)) hf (Nat.le_refl _) new
    refine ⟨.ref s.heap.objs.size, _, I1, rfl, ⟨_, k, v, q, hkv, rfl, I.hok.fresh (Nat.le_refl _), rfl, hq⟩, ⟨es'[i].key, es'[i].val, ?_⟩, fun b hb => ?_⟩
    · rw [← hsz]; exact he'
    · have e : b = it := by simpa using hb
      rw [e, upd_ne (Nat.ne_of_lt hlt)]
      exact (hf it (by simp)).1
  done := by
    intro X hP hw hK hc i pins s σ H E I hf st hg
    subst hP hw hK
    obtain ⟨hd, hi⟩ := hg
    obtain ⟨f0, f1, f2, f3, f4, f5⟩ := hf it (by simp)
    obtain ⟨hs, hgd, hx, es', ep', hdt, hsz, ent⟩ := frzT2 I hd
    obtain ⟨rfl, rfl⟩ := dict_ep hod hdt
    obtain ⟨ok, ov, he⟩ := st
    rw [← hsz] at he
    exact PySem.wpAny_pyNext_items_end_raw (I.ok.hd hc) he ⟨o, hgd, hx, hdt⟩ (by omega) fun h' eb => ⟨rfl, I.turned (t' := s.toks) (fun b ob hb e => eb b ob hb e) f0 f1 f3 f4 f5⟩
  self := fun A i s Q E st h => let ⟨_, _, e⟩ := st; PySem.W.kcp_self e h
end
def iItemsT (td : TE) : TI := fun σ H R => td σ H fun x H1 => ∃ d o kvs, x = .ref d ∧ H1 d = some (.frz o (.dT kvs)) ∧ R (Itit d o kvs) H1
section
variable {X : Cx} {e : Expr} {td : TE} {apos cpos : Pos}
theorem pi_itemsT {elts : List Expr} {kk : Nat} {tpos : Pos} (he : PE X e td) (hbase : attributeBase e "items" X.env (eval e X.env) = eval e X.env := by rfl) (hline : (apos.endLine == cpos.line) = true := by rfl) :
    PI X (.Tuple elts kk tpos) (.Call (.Attribute e "items" apos) [] [] cpos) (iItemsT td) := by
  refine ⟨fun pins s σ H R I h => ?_⟩
  refine wpAny_Call_method (T := "dict") (id := "dict.items") hbase rfl hline PySem.F.plainAttrs_dict PySem.F.slot_dict_items PySem.F.type_dict_items (thn (he.run pins s σ H _ I h) fun u s1 ⟨x, H1, I1, rx, d, o, kvs, ex, hd, q⟩ => ?_)
  subst ex
  obtain rfl : u = Value.ref d := rx
  obtain ⟨hs, hgd, hx, es, ep, hdt, hsz, ent⟩ := frzT2 I1 hd
  have raw : s1.heap.DictRaw d es ep := ⟨o, hgd, hx, hdt⟩
  refine ⟨raw.typeIs, fun b z => by cases z; exact ⟨o, hgd, hx.2.1⟩, ?_⟩
  have I2 : Inv X pins σ H1 { s1 with heap := s1.heap.push { cls := .type "dict_items", data := .fields #[.ref d] } } := I1.kept (t' := s1.toks) fun b ob q => Heap.get?_push_of_some _ q
  have fin : wpAny (model X.prog X.w) X.A (pyIter (.ref s1.heap.objs.size)) (PIE X pins σ (.Tuple elts kk tpos) R) X.xe { s1 with heap := s1.heap.push { cls := .type "dict_items", data := .fields #[.ref d] } } := by
    refine PySem.wpAny_pyIter_items_raw (d := d) ⟨_, Heap.get?_push_size _ rfl, rfl, rfl⟩ (raw.at fun o q => Heap.get?_push_of_some _ q) (pi_one (tk := s1.toks) I2 _ (turn_itemsT _ hdt) ⟨.none, .none, ?_⟩ q)
    rw [hsz]
    exact Heap.get?_push_size _ rfl
  show wpAny _ _ (callWith cpos (.builtin "dict.items") [.ref d] [] []) _ X.xe s1
  exact method_meetsIn PySem.F.slot_dict_items PySem.F.entry_dict_items rfl (PySem.evalArgs_none ⟨rfl, raw.typeIs, PySem.F.args_dict_items_1 _, _, PySem.meets_dict_items_raw d hs, ⟨es, ep, raw⟩, fin⟩)
end
theorem walk_itemsT {d : Addr} {o : Obj} {kvs : List (List Key × V)} : Walk (Itit d o kvs) kvs.length (fun H => H d = some (.frz o (.dT kvs)))
    (fun i H x H' => ∃ T k v q, kvs[i]? = some (k, v) ∧ x = .ref T ∧ H T = none ∧ H' = upd H T (.tup [.ref q, v]) ∧ H q = some (.tup (k.map kV))) :=
  ⟨fun _ _ hi q => ⟨q, hi⟩, fun _ q => ⟨q, Nat.le_refl _⟩, fun _ _ _ _ _ _ y => y⟩
end Lr

namespace Lr
open PySem PySem.Spec PyProof.Rows L2

/-- several things locked while an expression runs -/
def tLocksN : Nat → TE → TE
  | 0, t => t
  | n + 1, t => tLockE (tLocksN n t)
def tLocks (t : TE) : TE := fun σ H Q => ∃ n, tLocksN n t σ H Q
theorem pe_locksN {X : Cx} {e : Expr} {t : TE} (h : PE X e t) : ∀ n, PE X e (tLocksN n t)
  | 0 => h
  | n + 1 => pe_lock (pe_locksN h n)
theorem pe_locks {X : Cx} {e : Expr} {t : TE} (h : PE X e t) : PE X e (tLocks t) := ⟨fun pins s σ H Q I ⟨n, hh⟩ => (pe_locksN h n).run pins s σ H Q I hh⟩
theorem locks_in {t : TE} {σ : L2.St} : ∀ (ds : List (Addr × HO)) {H : Hp} {Q : VK}, (ds.map (·.1)).Nodup → (∀ p ∈ ds, H p.1 = some p.2 ∧ Mut (some p.2)) →
    (∀ (HL : Hp) (Qin : VK), (∀ b o, H b = some o → (∀ p ∈ ds, b ≠ p.1) → HL b = some o) → (∀ p ∈ ds, ∃ od, HL p.1 = some (.frz od p.2)) → (∀ b, H b = none → HL b = none) →
      (∀ (v : V) (H' : Hp), (∀ p ∈ ds, ∀ od, HL p.1 = some (.frz od p.2) → H' p.1 = some (.frz od p.2)) → (∀ HU : Hp, (∀ b o, H' b = some o → (∀ p ∈ ds, b ≠ p.1) → HU b = some o) → (∀ p ∈ ds, HU p.1 = some p.2) → Q v HU) → Qin v H') → t σ HL Qin) →
    tLocksN ds.length t σ H Q
  | [], H, Q, _, _, k => k H Q (fun b o e _ => e) (fun p hp => nomatch hp) (fun b e => e) fun v H' _ h => h H' (fun b o e _ => e) (fun p hp => nomatch hp)
  | (d, u) :: r, H, Q, nd, hd, k => by
    rw [List.map_cons, List.nodup_cons] at nd
    obtain ⟨hdu, mu⟩ := hd (d, u) List.mem_cons_self
    have nr : ∀ p ∈ r, p.1 ≠ d := fun p hp z => nd.1 (by rw [← show p.1 = (d, u).1 from z]; exact List.mem_map_of_mem (f := fun p : Addr × HO => p.1) hp)
    refine ⟨d, u, hdu, mu, fun od => ?_⟩
    refine locks_in r (H := upd H d (.frz od u)) nd.2 (fun p hp => ⟨by rw [upd_ne (nr p hp)]; exact (hd p (List.mem_cons_of_mem _ hp)).1, (hd p (List.mem_cons_of_mem _ hp)).2⟩) fun HL Qin k1 k2 k3 kq => ?_
    have eL : HL d = some (.frz od u) := k1 d _ upd_same fun p hp z => nr p hp z.symm
    refine k HL Qin (fun b o e n => k1 b o (by rw [upd_ne (n (d, u) List.mem_cons_self)]; exact e) fun p hp => n p (List.mem_cons_of_mem _ hp)) (fun p hp => ?_) (fun b e => k3 b (by rw [upd_ne (fun z => by rw [z, hdu] at e; cases e)]; exact e)) fun v H' kf kU => ?_
    · rcases List.mem_cons.mp hp with rfl | hp
      · exact ⟨od, eL⟩
      · exact k2 p hp
    · refine kq v H' (fun p hp => kf p (List.mem_cons_of_mem _ hp)) fun HU hU1 hU2 => ?_
      have ed' : H' d = some (.frz od u) := kf (d, u) List.mem_cons_self od eL
      have edU : HU d = some (.frz od u) := hU1 d _ ed' fun p hp z => nr p hp z.symm
      refine ⟨edU, kU _ (fun b o e n => ?_) fun p hp => ?_⟩
      · rw [upd_ne (n (d, u) List.mem_cons_self)]
        exact hU1 b o e fun p hp => n p (List.mem_cons_of_mem _ hp)
      · rcases List.mem_cons.mp hp with rfl | hp
        · exact upd_same
        · rw [upd_ne (nr p hp)]
          exact hU2 p hp
section
variable {J : It} {n : Nat} {G : Hp → Prop} {Y : Nat → Hp → V → Hp → Prop}
/-- [e for a in xs for b in ys]: the outer walk -/
theorem lc2_it (w : Walk J n G Y) {g g1 : TG} {tt tt1 : TT} {wi1 : TI} {te : TE} {vs vs1 : List Nat} {σ : L2.St} {H1 : Hp} {D : Addr} {Qd : Hp → Prop} (Pv : Nat → Hp → Prop) (h0 : Pv 0 (upd H1 D (.lst []))) (hG : ∀ i H, i ≤ n → Pv i H → G H)
    (hs : ∀ i x H H', i < n → Pv i H → Y i H x H' → g x (wipe σ vs) H' fun σ2 H2 => wipe σ2 vs = wipe σ vs ∧ tt σ2 H2 fun b H3 =>
      if b = true then wi1 σ2 H3 fun J1 H4 => ∃ W1 : Nat → Nat → Hp → Prop, (∃ m, W1 0 m H4) ∧ ∀ j k H, W1 j k H →
        (J1.stop j H ∧ Pv (i + 1) H) ∨ (J1.go j H ∧ ∃ Nx1 : Hp → Prop, (∀ H', Nx1 H' → ∃ k', k' < k ∧ W1 (j + 1) k' H') ∧ ∀ x H', J1.yld j H x H' → g1 x (wipe σ2 vs1) H' fun σ3 H5 => wipe σ3 vs1 = wipe σ2 vs1 ∧ tt1 σ3 H5 fun b H6 =>
          if b = true then te σ3 H6 fun y H7 => ∃ acc, H7 D = some (.lst acc) ∧ acc.length < sizeLine ∧ Nx1 (upd H7 D (.lst (acc ++ [y]))) else Nx1 H6)
      else Pv (i + 1) H3) (hd : ∀ H, Pv n H → Qd H) :
    ∃ W : Nat → Nat → Hp → Prop, (∃ m, W 0 m (upd H1 D (.lst []))) ∧ ∀ i m H, W i m H →
      (J.stop i H ∧ Qd H) ∨ (J.go i H ∧ ∃ Nx : Hp → Prop, (∀ H', Nx H' → ∃ m', m' < m ∧ W (i + 1) m' H') ∧ ∀ x H', J.yld i H x H' → g x (wipe σ vs) H' fun σ2 H2 => wipe σ2 vs = wipe σ vs ∧ tt σ2 H2 fun b H3 =>
        if b = true then wi1 σ2 H3 fun J1 H4 => ∃ W1 : Nat → Nat → Hp → Prop, (∃ m, W1 0 m H4) ∧ ∀ j k H, W1 j k H →
          (J1.stop j H ∧ Nx H) ∨ (J1.go j H ∧ ∃ Nx1 : Hp → Prop, (∀ H', Nx1 H' → ∃ k', k' < k ∧ W1 (j + 1) k' H') ∧ ∀ x H', J1.yld j H x H' → g1 x (wipe σ2 vs1) H' fun σ3 H5 => wipe σ3 vs1 = wipe σ2 vs1 ∧ tt1 σ3 H5 fun b H6 =>
            if b = true then te σ3 H6 fun y H7 => ∃ acc, H7 D = some (.lst acc) ∧ acc.length < sizeLine ∧ Nx1 (upd H7 D (.lst (acc ++ [y]))) else Nx1 H6)
        else Nx H3) := by
  refine ⟨fun i m H => m = n - i ∧ i ≤ n ∧ Pv i H, ⟨n, by simp, Nat.zero_le _, h0⟩, ?_⟩
  rintro i m H ⟨rfl, hi, p⟩
  have q := hG i H hi p
  by_cases hlt : i < n
  · exact .inr ⟨w.goes i H hlt q, Pv (i + 1), fun H' p' => ⟨n - (i + 1), by omega, rfl, hlt, p'⟩, fun x H' y => hs i x H H' hlt p (w.yields i H x H' hlt q y)⟩
  · have e : i = n := by omega
    subst e
    exact .inl ⟨w.stops H q, hd H p⟩
/-- .. the inner one -/
theorem lc2_in (w : Walk J n G Y) {g1 : TG} {tt1 : TT} {te : TE} {vs1 : List Nat} {σ : L2.St} {H1 : Hp} {D : Addr} {Nx : Hp → Prop} (Pv : Nat → Hp → Prop) (h0 : Pv 0 H1) (hG : ∀ j H, j ≤ n → Pv j H → G H)
    (hs : ∀ j x H H', j < n → Pv j H → Y j H x H' → g1 x (wipe σ vs1) H' fun σ3 H5 => wipe σ3 vs1 = wipe σ vs1 ∧ tt1 σ3 H5 fun b H6 =>
      if b = true then te σ3 H6 fun y H7 => ∃ acc, H7 D = some (.lst acc) ∧ acc.length < sizeLine ∧ Pv (j + 1) (upd H7 D (.lst (acc ++ [y]))) else Pv (j + 1) H6) (hd : ∀ H, Pv n H → Nx H) :
    ∃ W1 : Nat → Nat → Hp → Prop, (∃ m, W1 0 m H1) ∧ ∀ j k H, W1 j k H →
      (J.stop j H ∧ Nx H) ∨ (J.go j H ∧ ∃ Nx1 : Hp → Prop, (∀ H', Nx1 H' → ∃ k', k' < k ∧ W1 (j + 1) k' H') ∧ ∀ x H', J.yld j H x H' → g1 x (wipe σ vs1) H' fun σ3 H5 => wipe σ3 vs1 = wipe σ vs1 ∧ tt1 σ3 H5 fun b H6 =>
        if b = true then te σ3 H6 fun y H7 => ∃ acc, H7 D = some (.lst acc) ∧ acc.length < sizeLine ∧ Nx1 (upd H7 D (.lst (acc ++ [y]))) else Nx1 H6) := by
  refine ⟨fun j m H => m = n - j ∧ j ≤ n ∧ Pv j H, ⟨n, by simp, Nat.zero_le _, h0⟩, ?_⟩
  rintro j m H ⟨rfl, hj, p⟩
  have q := hG j H hj p
  by_cases hlt : j < n
  · exact .inr ⟨w.goes j H hlt q, Pv (j + 1), fun H' p' => ⟨n - (j + 1), by omega, rfl, hlt, p'⟩, fun x H' y => hs j x H H' hlt p (w.yields j H x H' hlt q y)⟩
  · have e : j = n := by omega
    subst e
    exact .inl ⟨w.stops H q, hd H p⟩
end
end Lr

namespace Lr
open PySem PySem.Spec PyProof.Rows L2

/-! {k: v for x in it}, the keys tuples of ints and texts -/
section
variable {X : Cx} {pins : List (Addr × Obj)} {σ : L2.St} {H : Hp} {s : Shared} {a b : Addr} {r : Value} {d : V} {k : List Key} {A : Around} {E : Value → Shared → Prop}
theorem dct_put {kvs : List (List Key × V)} {Q : Unit → Shared → Prop} (hu : A.units + 1 < cLine) (I : Inv X pins σ H s) (e : H a = some (.dT kvs)) (eb : H b = some (.tup (k.map kV))) (rd : RelV d r) (hl : kvs.length < sizeLine)
    (out : ∀ s', Inv X pins σ (upd H a (.dT (putK kvs k d))) s' → Q () s') : wpAny (model X.prog X.w) A (dictSet a (.ref b) r) Q E s := by
  obtain ⟨z, ns, xs, rel, dd⟩ := dt_of I.hok e
  have z1 : xs.length ≤ sizeLine := by rw [← Paired.length rel]; exact z
  have z2 : (putK kvs k d).length ≤ sizeLine := by
    have := length_putK kvs k d
    omega
  refine wpAny_dictSet_heap (show A.units < cLine by omega) (key_of I.hok eb) dd (fun h' dd' sb => out _ ?_) z1
  obtain ⟨q, es, ep, hq, p2, p3, p4, _, p5⟩ := dd'
  refine d_write I (by rw [e]; exact True.intro) sb ⟨q, hq⟩ ⟨z2, ns, _, (rel.put k eb rd).keeps fun c ys ec => ?_, q, es, ep, hq, p2, p3, p4, p5⟩
  rw [upd_ne (ne_of ec e (fun z => nomatch z))]
  exact ec
end
section
variable {X : Cx}
abbrev dcE (ek ev tg it : Expr) (scope : Scope) (pos : Pos) : Expr := .DictComp ek ev [⟨tg, it, [], 0⟩] scope pos
def tDcT (wi : TI) (g : TG) (tk tv : TE) (vs : List Nat) : TE := fun σ H Q => wi σ H fun J H1 => ∀ D, H1 D = none → ∃ W : Nat → Nat → Hp → Prop, (∃ m, W 0 m (upd H1 D (.dT []))) ∧ ∀ i m H, W i m H →
  (J.stop i H ∧ Q (.ref D) H) ∨ (J.go i H ∧ ∃ Nx : Hp → Prop, (∀ H', Nx H' → ∃ m', m' < m ∧ W (i + 1) m' H') ∧ ∀ x H', J.yld i H x H' → g x (wipe σ vs) H' fun σ2 H2 => wipe σ2 vs = wipe σ vs ∧
    tk σ2 H2 fun y H4 => tv σ2 H4 fun z H5 => ∃ (kvs : List (List Key × V)) (k : List Key) (b : Addr), y = .ref b ∧ H5 b = some (.tup (k.map kV)) ∧ H5 D = some (.dT kvs) ∧ kvs.length < sizeLine ∧ Nx (upd H5 D (.dT (putK kvs k z))))
theorem pe_dcT (hu : X.A.units + 1 < cLine) {ek ev tg iter : Expr} {scope : Scope} {own : List (Str × Nat)} {pos : Pos} {wi : TI} {g : TG} {tk tv : TE} (hc : X.calm = true) (nd : X.N.Nodup) (src : PI X tg iter wi) (ok : BlkOk X.N X.env.scope scope own)
    (put0 : ∀ (s : Shared) (H : Hp) (C : Addr) (cl : List (Str × Addr)) (fp : List Addr), PG (X.blk s H scope (compEnvC scope cl C X.env) fp) tg g)
    (key0 : ∀ (s : Shared) (H : Hp) (C : Addr) (cl : List (Str × Addr)) (fp : List Addr), PE (X.blk s H scope (compEnvC scope cl C X.env) fp) ek tk)
    (val0 : ∀ (s : Shared) (H : Hp) (C : Addr) (cl : List (Str × Addr)) (fp : List Addr), PE (X.blk s H scope (compEnvC scope cl C X.env) fp) ev tv)
    (fold0 : ∀ x, foldedSetIterable iter X.env x = pure x := by intro _; rfl) :
    PE X (dcE ek ev tg iter scope pos) (tDcT wi g tk tv (own.map (·.2))) := by
  refine ⟨fun pins s σ H Q I h => ?_⟩
  have clos : ∀ y ∈ scope.names, y.2 = .free → ∃ c, X.env.cells.lookup y.1 = some c := fun y hy z => by
    rcases ok.free y hy z with k | k
    · exact I.ok.has _ (.inl k)
    · exact I.ok.has _ (.inr k)
  rw [arm_eval_DictComp]
  refine wpAny_comprehension_free (use := none) rfl fold0 (closure_ok clos) ok.kind (fun y hy z => by rw [ok.uniq y hy, z])
    (thn (src.run pins s σ H _ I h) fun xv s1 hx => thn hx fun itv s2 h2 => ?_)
  obtain ⟨it, fp, tn, J, H2, e1, I2, T, st2, f2, q⟩ := h2
  subst e1
  refine wpAny_newObj_type (newEnv_comp ?_)
  generalize eD : s2.heap.objs.size = D
  have nD : H2 D = none := I2.hok.fresh (Nat.le_of_eq eD)
  obtain ⟨W, ⟨m0, w0⟩, turn⟩ := q D nD
  generalize e3 : ({ s2 with heap := s2.heap.push { cls := .type "dict", data := .dict #[] } } : Shared) = s3
  have h3 : s3.heap = s2.heap.push { cls := .type "dict", data := .dict #[] } := by rw [← e3]
  have I3 : Inv X pins σ (upd H2 D (.dT [])) s3 := by
    rw [← e3]
    refine I2.laid (t' := s2.toks) (fun b o z => Heap.get?_push_of_some _ z) (Nat.le_of_eq eD) ?_
    rw [← eD]
    exact dt_empty s2.heap I2.big
  have low : ∀ b ∈ fp, b < s2.heap.objs.size := fun b hb => by
    obtain ⟨o, z, _⟩ := T.obj _ _ st2 b hb
    exact Heap.lt_size z
  have f3 : ∀ b ∈ fp, FpOk X pins (upd H2 D (.dT [])) b ∧ b < s3.heap.objs.size := fun b hb => by
    have lt := low b hb
    have nb : b ≠ D := by
      rw [← eD]
      exact Nat.ne_of_lt lt
    refine ⟨⟨?_, (f2 b hb).2⟩, ?_⟩
    · rw [upd_ne nb]
      exact (f2 b hb).1
    · rw [h3, Heap.size_push]
      exact Nat.lt_succ_of_lt lt
  have st3 : tn 0 s3.heap := T.keep _ _ _ st2 fun b _ o z => by
    rw [h3]
    exact Heap.get?_push_of_some _ z
  have I4 := block_start I3 ok nd f3
  generalize eH3 : upd H2 D (.dT []) = H3 at I3 I4 w0 f3
  have pg := put0 s3 H3 s3.heap.objs.size (cellsFrom (s3.heap.objs.size + 1) scope.names (cloFrom X.env.cells scope.names [])) fp
  have pk := key0 s3 H3 s3.heap.objs.size (cellsFrom (s3.heap.objs.size + 1) scope.names (cloFrom X.env.cells scope.names [])) fp
  have pv := val0 s3 H3 s3.heap.objs.size (cellsFrom (s3.heap.objs.size + 1) scope.names (cloFrom X.env.cells scope.names [])) fp
  have nfp : ∀ b ∈ fp, H3 b = none := fun b hb => (f3 b hb).1.1
  have end_ : ∀ s' m H', Inv X pins σ H' s' → Q (.ref D) H' → s'.heap.Ns s3.heap.objs.size m → FpOk X pins H' s3.heap.objs.size → compPost (model X.prog X.w) X.A X.xe none (EP X pins σ Q) (.ref D) s3.heap.objs.size (.ok .next) s' := fun s' m H' I' q' hn f => ⟨m, hn, fun h'' sb => by
    obtain ⟨a0, a1, a2, a3, a4, a5⟩ := f
    exact ⟨.ref D, H', I'.turned (t' := s'.toks) (fun b o hb z => (sb.2 b hb).trans z) a0 a1 a3 a4 a5, rfl, q'⟩⟩
  show codeAny _ _ (.compStart (dcE ek ev tg iter scope pos) 0 (.ref it) (.ref D) (compEnvC scope (cellsFrom (s3.heap.objs.size + 1) scope.names (cloFrom X.env.cells scope.names [])) s3.heap.objs.size X.env)) (compPost (model X.prog X.w) X.A X.xe none (EP X pins σ Q) (.ref D) s3.heap.objs.size) { s3 with heap := pushCells (s3.heap.push { cls := .type "dict", data := .dict #[] }) scope.names }
  generalize ece : compEnvC scope (cellsFrom (s3.heap.objs.size + 1) scope.names (cloFrom X.env.cells scope.names [])) s3.heap.objs.size X.env = ce at I4 pg pk pv ⊢
  have here : ce.locals = s3.heap.objs.size := by
    subst ece
    rfl
  generalize e4 : ({ s3 with heap := pushCells (s3.heap.push { cls := .type "dict", data := .dict #[] }) scope.names } : Shared) = s4 at I4 ⊢
  have st4 : tn 0 s4.heap := T.keep _ _ _ st3 fun b _ o z => by
    rw [← e4]
    exact pushCells_keeps _ _ _ _ (Heap.get?_push_of_some _ z)
  have fpB : ∀ {σ' : L2.St} {H' : Hp} {s' : Shared}, Inv (X.blk s3 H3 scope ce fp) [] σ' H' s' → (∀ b ∈ fp, H' b = none) → ∀ b ∈ fp, FpOk (X.blk s3 H3 scope ce fp) [] H' b := fun {σ' H' s'} I' hn b hb =>
    ⟨hn b hb, (I'.ok.exf b hb).1, I'.ok.exfs b hb, .inl hb, fun x c z => (I'.ok.exf b hb).2 x c z, fun p hp => absurd (show p ∈ ([] : List (Addr × Obj)) ++ [] from hp) (by simp)⟩
  have loop : codeAny (model X.prog X.w) X.A (.compLoop (dcE ek ev tg iter scope pos) 0 (.ref it) (.ref D) ce) (compPost (model X.prog X.w) X.A X.xe none (EP X pins σ Q) (.ref D) s3.heap.objs.size) s4 := by
    refine compLoop_anyD (fun n s' => ∃ i H', Inv (X.blk s3 H3 scope ce fp) [] (wipe σ (own.map (·.2))) H' s' ∧ tn i s'.heap ∧ (∀ b ∈ fp, H' b = none) ∧ W i n H') ?_ m0 ⟨0, H3, I4, st4, nfp, w0⟩
    rintro n s5 ⟨i, H5, I5, st5, n5, w5⟩
    rcases turn i n H5 w5 with ⟨stop, qq⟩ | ⟨go, Nx, next, step⟩
    · refine thnF (T.done (X.blk s3 H3 scope ce fp) rfl rfl rfl hc i [] s5 _ H5 (fun _ _ => False) I5 (fpB I5 n5) st5 stop) fun r s6 ⟨er, I6⟩ => ?_
      subst er
      have I7 : Inv X pins σ H5 s6 := I3.call' (ch := fp) I6.os I6.base I6.hok I6.bare fun b hb => ⟨(f3 b hb).1.2.2.2.1, (f3 b hb).1.2.1, (f3 b hb).1.2.2.2.2.1, (f3 b hb).1.2.2.2.2.2⟩
      have free : H5 s3.heap.objs.size = none := by
        have z : H5 ce.locals = none := I6.free
        rw [here] at z
        exact z
      obtain ⟨m, hn, _⟩ := I6.loc
      have hn : s6.heap.Ns ce.locals m := hn
      rw [here] at hn
      exact end_ s6 m H5 I7 qq hn (I3.fpOk (Nat.le_refl _) free)
    · refine thnF (T.item (X.blk s3 H3 scope ce fp) rfl rfl rfl hc i [] s5 _ H5 (fun _ _ => False) I5 (fpB I5 n5) st5 go) fun r s6 ⟨u, er, h6⟩ => ?_
      subst er
      refine thnF h6 fun _ s7 ⟨x, H7, I7, r7, y7, st7, n7⟩ => ?_
      refine thnF (pg.run _ s7 _ H7 x u _ (I7.pinned (fpB I7 n7) (T.obj _ _ st7)) r7 (step x H7 y7)) fun _ s8 ⟨σ8, H8, I8, w8, q8⟩ => ?_
      refine wpAny_tests_nil ?_
      show wpAny _ _ (eval ek ce) _ _ _
      refine thnF (pk.run _ s8 σ8 H8 _ I8 q8) fun z s10 ⟨yk, H10, I10, r10, q10⟩ => ?_
      refine thnF (pv.run _ s10 σ8 H10 _ I10 q10) fun z2 s11 ⟨yv, H11, I11, r11, kvs, k, b, ek, eb, at_D, room, nx⟩ => ?_
      subst ek
      cases (show z = Value.ref b from r10)
      refine dct_put (X := X.blk s3 H3 scope ce fp) hu I11 at_D eb r11 room fun s12 I12 => ?_
      have len8 : (wipe σ (own.map (·.2))).length = σ8.length := by rw [← w8, wipe_length]
      obtain ⟨m', lt, w'⟩ := next _ nx
      have still : ∀ b ∈ fp, ∀ o, s7.heap.get? b = some o → s12.heap.get? b = some o ∧ (upd H11 D (.dT (putK kvs k yv))) b = none := fun b hb o z => by
        have p := I12.pin (b, o) (List.mem_append_right _ (List.mem_append_right _ (mem_pinsAt hb z)))
        exact ⟨p.1, p.2.1⟩
      refine ⟨m', lt, i + 1, _, (I12.unpinned (pins := [])).weak len8 (fun j v z => ?_), T.keep _ _ _ st7 fun b hb o z => (still b hb o z).1, fun b hb => ?_, w'⟩
      · rw [← w8] at z
        exact (wipe_some z).1
      · obtain ⟨o, z, _⟩ := T.obj _ _ st7 b hb
        exact (still b hb o z).2
  exact codeAny_compStart_dict loop (T.self X.A 0 _ _ _ st4 loop)
/-- with words on what stands -/
theorem dct_it {J : It} {n : Nat} {L : Hp → Prop} {Y : Nat → Hp → V → Hp → Prop} (wk : Walk J n L Y) {g : TG} {tk tv : TE} {vs : List Nat} {σ : L2.St} {H1 : Hp} {D : Addr} {Qd : Hp → Prop} (Pv : Nat → Hp → Prop) (h0 : Pv 0 (upd H1 D (.dT []))) (hl : ∀ i H, i ≤ n → Pv i H → L H)
    (hs : ∀ i x H H', i < n → Pv i H → Y i H x H' → g x (wipe σ vs) H' fun σ2 H2 => wipe σ2 vs = wipe σ vs ∧
      tk σ2 H2 fun y H4 => tv σ2 H4 fun z H5 => ∃ (kvs : List (List Key × V)) (k : List Key) (b : Addr), y = .ref b ∧ H5 b = some (.tup (k.map kV)) ∧ H5 D = some (.dT kvs) ∧ kvs.length < sizeLine ∧ Pv (i + 1) (upd H5 D (.dT (putK kvs k z)))) (hd : ∀ H, Pv n H → Qd H) :
    ∃ W : Nat → Nat → Hp → Prop, (∃ m, W 0 m (upd H1 D (.dT []))) ∧ ∀ i m H, W i m H →
      (J.stop i H ∧ Qd H) ∨ (J.go i H ∧ ∃ Nx : Hp → Prop, (∀ H', Nx H' → ∃ m', m' < m ∧ W (i + 1) m' H') ∧ ∀ x H', J.yld i H x H' → g x (wipe σ vs) H' fun σ2 H2 => wipe σ2 vs = wipe σ vs ∧
        tk σ2 H2 fun y H4 => tv σ2 H4 fun z H5 => ∃ (kvs : List (List Key × V)) (k : List Key) (b : Addr), y = .ref b ∧ H5 b = some (.tup (k.map kV)) ∧ H5 D = some (.dT kvs) ∧ kvs.length < sizeLine ∧ Nx (upd H5 D (.dT (putK kvs k z)))) := by
  refine ⟨fun i m H => m = n - i ∧ i ≤ n ∧ Pv i H, ⟨n, by simp, Nat.zero_le _, h0⟩, ?_⟩
  rintro i m H ⟨rfl, hi, p⟩
  have q := hl i H hi p
  by_cases lt : i < n
  · refine .inr ⟨wk.goes i H lt q, Pv (i + 1), fun H' p' => ⟨n - (i + 1), by omega, rfl, lt, p'⟩, fun x H' y => hs i x H H' lt p (wk.yields i H x H' lt q y)⟩
  · obtain rfl : i = n := by omega
    exact .inl ⟨wk.stops H q, hd H p⟩
end
end Lr

namespace Lr
open PySem PySem.Spec PyProof.Rows L2 PySem.W
/-- the order of alike data -/
abbrev dle : PyData → PyData → Bool := dataLe false fun d => d
theorem dp_len {K : PySem.W.Frag} {H : Hp} : ∀ {xs : List V} {ds : List PyData}, DpAll K H xs ds → xs.length = ds.length
  | _, _, .nil => rfl
  | _, _, .cons _ t => by rw [List.length_cons, List.length_cons, dp_len t]
/-- the values beside their data -/
theorem each_zip {K : PySem.W.Frag} {H : Hp} : ∀ {xs : List V} {us : List Value} {ds : List PyData}, Vals xs us → DpAll K H xs ds → EachIs (fun (v : Value) (b : V × PyData) => RelV b.1 v ∧ Dp K H b.1 b.2) us (xs.zip ds)
  | _, _, _, .nil, .nil => .nil
  | _, _, _, .cons r t, .cons h k => .cons ⟨r, h⟩ (each_zip t k)
theorem vals_each {K : PySem.W.Frag} {H : Hp} : ∀ {us : List Value} {bs : List (V × PyData)}, EachIs (fun (v : Value) (b : V × PyData) => RelV b.1 v ∧ Dp K H b.1 b.2) us bs → Vals (bs.map Prod.fst) us ∧ DpAll K H (bs.map Prod.fst) (bs.map Prod.snd)
  | _, _, .nil => ⟨.nil, .nil⟩
  | _, _, .cons h t => by
    obtain ⟨h1, h2⟩ := vals_each t
    exact ⟨.cons h.1 h1, .cons h.2 h2⟩
theorem zip_snd : ∀ {xs : List V} {ds : List PyData}, xs.length = ds.length → (xs.zip ds).map Prod.snd = ds
  | [], [], _ => rfl
  | _ :: xs, _ :: ds, h => by
    rw [List.zip_cons_cons, List.map_cons, zip_snd (Nat.succ.inj h)]
section
variable {X : Cx}
/-- sorted(xs), xs a list of data that are alike -/
def rSortedD (K : PySem.W.Frag) : List V → Hp → VK → Prop := fun vs H Q => ∃ (a : Addr) (xs : List V) (ds : List PyData), vs = [V.ref a] ∧ SqL K H a xs ∧ DpAll K H xs ds ∧ AllAlike ds ∧ Sortable ds ∧ (∀ d ∈ ds, d.depth ≤ 60) ∧ xs.length ≤ 100000 ∧
  ∀ (ys : List V) (p : Addr), ys.length = xs.length → DpAll K H ys (ds.mergeSort dle) → H p = none → Q (.ref p) (upd H p (.lst ys))
theorem cr_sortedD (hu : X.A.units + 64 < cLine) : CallR X (.builtin "sorted") (rSortedD X.K) := by
  intro pins s σ H vs us Q I r h
  obtain ⟨a, xs, ds, rfl, hs, hd, al, so, dep, few, q⟩ := h
  rw [Vals.ref1 r]
  obtain ⟨its, rv, pl, hz⟩ := I.list hs
  have len : xs.length = ds.length := dp_len hd
  have each := each_zip rv hd
  have back : ((xs.zip ds).map fun b => b.2) = ds := zip_snd len
  have er : EachIs (fun (v : Value) (b : V × PyData) => ∃ as, Reads s.heap v b.2 as) its (xs.zip ds) := each.mono fun v b h => Dp.reads I b.2 b.1 v h.2 h.1
  have many : (xs.zip ds).length = xs.length := by rw [List.length_zip, ← len, Nat.min_self]
  refine sorted_data (enc := fun b : V × PyData => b.2) (R := fun (v : Value) (b : V × PyData) => RelV b.1 v ∧ Dp X.K H b.1 b.2) pl.isList each er (by rw [back]; exact al) (by rw [back]; exact so) (by rw [many, sizeLine_eq]; omega) (fun b hb => ?_) fun out lo eo => ?_
  · have z := dep b.2 (List.of_mem_zip hb).2
    show X.A.units + 2 + b.2.depth < cLine
    omega
  · obtain ⟨vo, dO⟩ := vals_each eo
    have e1 : ((xs.zip ds).mergeSort (dataLe false fun b : V × PyData => b.2)).map Prod.snd = ds.mergeSort dle := by
      have z := sort_maps (r := dataLe false fun b : V × PyData => b.2) (s := dle) (l := xs.zip ds) Prod.snd fun a _ b _ => rfl
      rw [zip_snd len] at z
      exact z
    rw [e1] at dO
    have ly : (((xs.zip ds).mergeSort (dataLe false fun b : V × PyData => b.2)).map Prod.fst).length = xs.length := by
      rw [List.length_map, List.length_mergeSort, many]
    obtain ⟨e, at_p⟩ := sortedAll_at s.heap its (List.toArray out)
    have gone : s.heap.get? (s.heap.objs.size + 1) = none := by
      cases z : s.heap.get? (s.heap.objs.size + 1) with
      | none => rfl
      | some u => exact absurd (Heap.lt_size z) (Nat.not_lt.mpr (Nat.le_succ _))
    have free : H (s.heap.objs.size + 1) = none := I.hok.fresh (Nat.le_succ _)
    refine ⟨.ref _, upd H (s.heap.objs.size + 1) (.lst (((xs.zip ds).mergeSort (dataLe false fun b : V × PyData => b.2)).map Prod.fst)), I.laidN (t' := s.toks) (fun b u z => sortedAll_old z) gone free ⟨by rw [ly, sizeLine_eq]; omega, _, e, vo, at_p⟩, rfl, q _ _ ly dO free⟩
end
end Lr


namespace Lr
open PySem PySem.Spec PyProof.Rows L2
theorem str_at {ls : List Str} {i : Nat} {x : Str} (h : ls[i]? = some x) : atI (ls.map V.str) ((i : Nat) : Int) = some (V.str x) := atI_nat (by rw [List.getElem?_map, h]; rfl)
/-- a walk over what is a list or a tuple -/
theorem pi_or {X : Cx} {tg it : Expr} {t1 t2 : TI} (h1 : PI X tg it t1) (h2 : PI X tg it t2) : PI X tg it (fun σ H R => t1 σ H R ∨ t2 σ H R) := ⟨fun pins s σ H R I h => by
  rcases h with h | h
  · exact h1.run pins s σ H R I h
  · exact h2.run pins s σ H R I h⟩
/-- ints strictly ascending between 0 and n -/
theorem asc_len {ns : List Int} {n : Nat} (h : ns.Pairwise (· < ·)) (bd : ∀ z ∈ ns, 0 ≤ z ∧ z ≤ (n : Int)) : ns.length ≤ n + 1 := by
  have nd : (ns.map Int.toNat).Nodup := by
    refine List.Pairwise.map Int.toNat (R := fun a b => a < b ∧ (0 ≤ a ∧ 0 ≤ b)) (fun a b h e => by omega) ?_
    refine (List.Pairwise.imp_of_mem (fun {a b} ha hb hab => ?_) h)
    exact ⟨hab, (bd _ ha).1, (bd _ hb).1⟩
  have z := L2.nat_nodup_len (ns.map Int.toNat) (List.range (n + 1)) nd fun x hx => by
    obtain ⟨y, hy, rfl⟩ := List.mem_map.mp hx
    have q := bd y hy
    exact List.mem_range.mpr (by omega)
  rw [List.length_map, List.length_range] at z
  exact z
theorem mem_take_succ {α : Type} {l : List α} {i : Nat} {x : α} (h : l[i]? = some x) : l.take (i + 1) = l.take i ++ [x] := by
  rw [List.take_succ, h]
  rfl
end Lr

namespace Lr
open PySem PySem.Spec PyProof.Rows L2
/-- the new set's object -/
abbrev emS (w : World) : Obj := { cls := .type "set", dict := none, data := .set #[] 0 (.fresh 0 0 (!w.params.followText "set-order")) }
/-- set(xs), xs a list of ints: what the table then holds, in an order that can be told -/
def IsSetOf (w : World) (h0 h' : Heap) (ns : List Int) (c : Nat) : Prop := SetR w h' h0.objs.size (fun j => decide (j ∈ ns)) c ∧ c ≤ ns.length ∧ ∀ b o, h0.get? b = some o → h'.get? b = some o
section
variable {P : Program} {w : World} {A : Around} {E : Value → Shared → Prop} {s : Shared}
theorem set_of_list {l : Addr} {items : Array Value} {ns : List Int} {Q : Value → Shared → Prop} (hh : A.handled = none) (hl : s.heap.IsList l items) (hit : IntsAre items.toList ns) (hb : ns.length + 1 < scanBound)
    (done : ∀ (h' : Heap) (tk c : Nat), IsSetOf w s.heap h' ns c → Q (.ref s.heap.objs.size) { s with heap := h', toks := tk }) : wpAny (model P w) A (call (.type "set") [.ref l]) Q E s := by
  have many : items.size = ns.length := by rw [← Array.length_toList]; exact IntsAre.length hit
  obtain ⟨c, tl, hmro⟩ := F.called_set.mro
  have hmade := F.called_set.made; have hsub := F.called_set.sub
  refine wpAny_call (codeAny_of_tree ?_)
  show wpAny _ _ (callAny (.type "set") _) _ _ _
  refine wpAny_pure ⟨Code.quiet_builtin _ (by decide +kernel), codeAny_builtin F.entry_type_call ?_⟩
  rw [Around.under_plain (weight_type_call_type "set" [.ref l] []) rfl]
  have q1 := F.called_set.notType; have q2 := F.called_set.canCreate
  have q3 := F.typeCall_set_1 (.ref l)
  repeat (any_goals (first | assumption | wp_step))
  refine codeAny_mono (code_set_led1 (.ref l) (E := E) (Q₁ := fun x s₁ => x = .ref s.heap.objs.size ∧ s₁ = { s with heap := s.heap.push (emS w) }) ⟨rfl, rfl⟩) fun r s₁ hr => ?_
  cases r with
  | error e => exact hr
  | ok fl =>
    cases fl with
    | ret x =>
      obtain ⟨rfl, rfl⟩ := hr
      have new_at : (s.heap.push (emS w)).get? s.heap.objs.size = some (emS w) := Heap.get?_push_size _ rfl
      have hT : Shared.TypeIs { s with heap := s.heap.push (emS w) } (.ref s.heap.objs.size) "set" := ⟨_, new_at, rfl⟩
      have hli := F.called_set.init.lookup; have hbi := F.called_set.init.bind (.ref s.heap.objs.size)
      repeat (any_goals (first | assumption | wp_step))
      refine codeAny_mono (codeAny_call_builtin (R := wants (fun r s₂ => r = .none ∧ ∃ h' tk c, s₂ = { s with heap := h', toks := tk } ∧ IsSetOf w s.heap h' ns c) E) F.called_set.init.plain F.entry_set_init (check_set_init_1 hT ?_)) fun r₂ s₂ hr₂ => ?_
      · have hl1 : (s.heap.push (emS w)).IsList l items := hl.push _
        obtain ⟨⟨ocls, odict, odata, oslots⟩, hol, hcl, nl, hdl⟩ := hl
        simp only at hcl hdl
        subst hcl hdl
        have at_l : (s.heap.push (emS w)).get? l = some { cls := .type "list", dict := odict, data := .seq items nl, slots := oslots } := Heap.get?_push_of_some _ hol
        have k1 := F.sub_list_set; have k2 := F.sub_list_frozenset
        have k3 : (Value.type "list" == Value.type "dict") = false := by decide
        unfold Builtin.«set.__init__» noKeywords Builtin.Frozenset.updateFrom
        generalize hPI : pyIter = PI
        wp_walk
        subst hPI
        refine wpAny_pyIter_list hl1 (wpAny_bind (wpAny_runValue ?_))
        have lt : l < s.heap.objs.size := Heap.lt_size hol
        have h3 : A.in1.in1.in1.handled = none := by simp [hh]
        have sz : (s.heap.push (emS w)).objs.size = s.heap.objs.size + 1 := Heap.size_push ..
        have n1 : l ≠ (s.heap.push (emS w)).objs.size := by rw [sz]; exact Nat.ne_of_lt (Nat.lt_succ_of_lt lt)
        have n2 : s.heap.objs.size ∉ [(s.heap.push (emS w)).objs.size, l] := by
          rw [sz]
          intro z
          rcases List.mem_cons.mp z with z | z
          · exact Nat.ne_of_lt (Nat.lt_succ_self _) z
          · exact Nat.ne_of_gt lt (List.mem_singleton.mp z)
        have each : ∀ (i : Nat) (v : Value), items[i]? = some v → ∃ k t, ns[i]? = some k ∧ v = .int k t := fun i v hv => by
          have hi : i < ns.length := by rw [← many]; exact (Array.getElem?_eq_some_iff.mp hv).1
          obtain ⟨t, e⟩ := IntsAre.int_at hit i v (by rw [Array.getElem?_toList]; exact hv)
          rw [List.getD_eq_getElem?_getD, List.getElem?_eq_getElem hi] at e
          exact ⟨ns[i], t, List.getElem?_eq_getElem hi, e⟩
        refine set_update_ints ((Walks.list h3 _ l n1 items).toS) s.heap.objs.size n2 ns many hb each (items.size - 0) 0 _ (by omega) (Nat.zero_le _) ⟨⟨_, Heap.get?_push_size _ rfl, rfl, rfl⟩, (hl1.push _)⟩ ?_ ?_
        · exact ⟨0, Nat.le_refl 0, setR_new_at (Heap.get?_push_of_some _ new_at)⟩
        · intro s' c' hm hc' hS'
          obtain ⟨h', g2, d', tk', os'⟩ := s'
          obtain rfl : g2 = s.gens := hm.gens
          obtain rfl : d' = s.drawn := hm.drawn
          obtain rfl : os' = s.os := hm.os
          show wpAny _ _ _ _ _ _
          refine wpAny_pure ?_
          show wpAny _ _ (ret Value.none) _ _ _
          refine wpAny_pure ⟨rfl, h', tk', c', rfl, hS', by omega, fun b o e => hm.heap b o ?_ (Heap.get?_push_of_some _ (Heap.get?_push_of_some _ e))⟩
          have b0 : b < s.heap.objs.size := Heap.lt_size e
          intro z
          rcases List.mem_cons.mp z with z | z
          · exact Nat.ne_of_lt b0 z
          · have z2 := List.mem_singleton.mp z
            rw [sz] at z2
            exact Nat.ne_of_lt (Nat.lt_succ_of_lt b0) z2
      · cases r₂ with
        | error e => exact hr₂
        | ok fl₂ =>
          cases fl₂ with
          | ret r =>
            obtain ⟨rfl, h', tk, c', rfl, res⟩ := hr₂
            repeat (any_goals (first | assumption | wp_step))
            exact done _ _ _ res
          | _ => exact hr₂.elim
    | _ => exact hr.elim
end
section
variable {X : Cx}
/-- set(xs), xs a list of ints -/
def rSetL_I (K : PySem.W.Frag) (w : World) : List V → Hp → VK → Prop := fun xs H Q => ∃ (l : Addr) (ns : List Int), xs = [V.ref l] ∧ SqL K H l (ns.map V.int) ∧ ns.length ≤ 1000 ∧ ∀ a n, H a = none → n ≤ ns.length → Q (.ref a) (upd H a (SetO w a (fun j => decide (j ∈ ns)) n))
theorem cr_setLI (hc : X.calm = true) : CallR X (.type "set") (rSetL_I X.K X.w) := by
  intro pins s σ H xs us Q I r h
  obtain ⟨l, ns, rfl, hl, hf, q⟩ := h
  rw [Vals.ref1 r]
  obtain ⟨its, rv, pl, hz⟩ := I.list hl
  refine set_of_list (ns := ns) (I.ok.hd hc) pl.isList (by simpa using intsAre_of rv) (by unfold scanBound; omega) fun h' tk c ⟨R, cn, k⟩ => ?_
  exact ⟨.ref s.heap.objs.size, _, I.laid (t' := tk) k (Nat.le_refl _) (setO_new R), rfl, q _ c (I.hok.fresh (Nat.le_refl _)) cn⟩
end
end Lr


namespace Lr
open PySem PySem.Spec PyProof.Rows L2

/-top-/
/-- all but the state's dict and its great numbers stays -/
def Kp (H H' : Hp) (m g : Addr) : Prop := ∀ b o, H b = some o → b ≠ m → b ≠ g → H' b = some o
theorem Kp.trans {H H1 H2 : Hp} {m g : Addr} (a : Kp H H1 m g) (b : Kp H1 H2 m g) : Kp H H2 m g := fun c o e n1 n2 => b c o (a c o e n1 n2) n1 n2
theorem Kp.of {H H' : Hp} {m g : Addr} (s : Same H H') : Kp H H' m g := fun b o e _ _ => s b o e
theorem Kp.put {H H' : Hp} {m g D : Addr} {o : HO} (k : Kp H H' m g) (n : H D = none) : Kp H (upd H' D o) m g := fun b u e n1 n2 => by
  rw [upd_ne (ne_of_none e n)]
  exact k b u e n1 n2
theorem Ms.notm {H : Hp} {m c g : Addr} {n : Nat} (M : Ms H m c g n) {D : Addr} (e : H D = none) : D ≠ m := fun z => by
  rw [z, M.hd] at e
  cases e
theorem Ms.notg {H : Hp} {m c g : Addr} {n : Nat} (M : Ms H m c g n) {D : Addr} (e : H D = none) : D ≠ g := fun z => by
  obtain ⟨gs, _, hg⟩ := M.hg
  rw [z] at e
  exact nomatch hg.symm.trans e
theorem Ms.notc {H : Hp} {m c g : Addr} {n : Nat} (M : Ms H m c g n) {D : Addr} (e : H D = none) : D ≠ c := fun z => by
  obtain ⟨gs, _, hg⟩ := M.hc
  rw [z] at e
  exact nomatch hg.symm.trans e
theorem Ms.same {H H' : Hp} {m c g : Addr} {n : Nat} (M : Ms H m c g n) (s : Same H H') : Ms H' m c g n := by
  obtain ⟨cs, l1, h1⟩ := M.hc
  obtain ⟨gs, l2, h2⟩ := M.hg
  exact ⟨s _ _ M.hd, ⟨cs, l1, s _ _ h1⟩, ⟨gs, l2, s _ _ h2⟩, M.cg⟩
theorem Ms.put {H : Hp} {m c g : Addr} {n : Nat} (M : Ms H m c g n) {D : Addr} {o : HO} (h1 : D ≠ m) (h2 : D ≠ c) (h3 : D ≠ g) : Ms (upd H D o) m c g n := by
  obtain ⟨cs, l1, e1⟩ := M.hc
  obtain ⟨gs, l2, e2⟩ := M.hg
  refine ⟨by rw [upd_ne h1.symm]; exact M.hd, ⟨cs, l1, ?_⟩, ⟨gs, l2, ?_⟩, M.cg⟩
  · unfold IntsAt
    rw [upd_ne h2.symm]
    exact e1
  · unfold IntsAt
    rw [upd_ne h3.symm]
    exact e2
theorem Kp.tk {H H' : Hp} {m c g : Addr} {n : Nat} (k : Kp H H' m g) (M : Ms H m c g n) : Tk H H' := by
  obtain ⟨gs, _, e2⟩ := M.hg
  refine fun b xs => ⟨fun e => k b _ e (fun z => ?_) (fun z => ?_), fun o e => k b _ e (fun z => ?_) (fun z => ?_)⟩
  · rw [z, M.hd] at e
    cases e
  · rw [z] at e
    exact nomatch e2.symm.trans e
  · rw [z, M.hd] at e
    cases e
  · rw [z] at e
    exact nomatch e2.symm.trans e
theorem Kp.free {H H' : Hp} {m c g : Addr} {n : Nat} (k : Kp H H' m g) (M : Ms H' m c g n) {D : Addr} (e : H' D = none) : H D = none := by
  cases z : H D with
  | none => rfl
  | some o =>
    have q := k D o z (M.notm e) (M.notg e)
    rw [e] at q
    cases q
theorem Ms.at_m {H : Hp} {m c g : Addr} {n : Nat} (M : Ms H m c g n) {D : Addr} {xs : List V} (e : H D = some (.lst xs)) : D ≠ m := fun z => by
  rw [z, M.hd] at e
  cases e
abbrev rLenSq (K : PySem.W.Frag) : List V → Hp → VK → Prop := fun xs H Q => ∃ p ys, xs = [.ref p] ∧ (SqL K H p ys ∨ SqT K H p ys) ∧ Q (.int ys.length) H
def spLk (K : PySem.W.Frag) : Sp := fun vs H Q _ => ∃ (x y : V) (d : PyData) (b : Bool), vs = [x, y] ∧ Da K H b x d ∧ Da K H b y d ∧ d.showable = true ∧ d.shown.length ≤ sizeLine ∧ d.depth ≤ 60 ∧ Q (.bl true) H
def spLW (K : PySem.W.Frag) : Sp := fun vs H Q _ => ∃ (m c g l : Addr) (n most : Nat) (ls : List Str), vs = [.ref m, .ref l, .int most] ∧ Ms H m c g n ∧ n + 20 < 100000 ∧ LbAt K H l ls ∧ 1 ≤ ls.length ∧ ls.length ≤ 10 ∧ most ≤ 10 ∧
  ∀ (r : Addr) (H' : Hp) (ws : List Str) (n' : Nat), ws.length ≤ most → (∀ x ∈ ws, x ∈ ls) → Kp H H' m g → Ms H' m c g n' → n' ≤ n + 1 + most → SqT K H' r (ws.map V.str) → Q (.ref r) H'
def spLS (K : PySem.W.Frag) : Sp := fun vs H Q _ => ∃ (m c g l : Addr) (n most : Nat) (ls : List Str), vs = [.ref m, .ref l, .int most] ∧ Ms H m c g n ∧ n + 20 < 100000 ∧ LbAt K H l ls ∧ ls.length ≤ 10 ∧ most ≤ 10 ∧
  ∀ (r : Addr) (H' : Hp) (ws : List Str) (n' : Nat), ws.length ≤ most → (∀ x ∈ ws, x ∈ (("any" :: "all" :: ls) : List Str)) → Kp H H' m g → Ms H' m c g n' → n' ≤ n + 1 + most → SqT K H' r (ws.map V.str) → Q (.ref r) H'
end Lr


namespace Lr
open PySem PySem.Spec PyProof.Rows L2

/-top-/
theorem ixT {X : Cx} {K : PySem.W.Frag} (h : X.K = K := by rfl) : IxR X (rIxT K) := h ▸ ix_tup
theorem ixL {X : Cx} {K : PySem.W.Frag} (h : X.K = K := by rfl) : IxR X (rIxL K) := h ▸ ix_list
theorem lenK {X : Cx} {K : PySem.W.Frag} (h : X.K = K := by rfl) : CallR X (.builtin "len") (rLenSq K) := h ▸ call_len_seq
theorem notInK {X : Cx} {K : PySem.W.Frag} (hu : X.A.units + 65 < cLine) (h : X.K = K := by rfl) : OpR X (compareOp .NotIn) (rNotInD K) := h ▸ op_notInD hu
theorem slLK {X : Cx} {K : PySem.W.Frag} (h : X.K = K := by rfl) : SlR X (rSlL K) := h ▸ sl_list
theorem pg_tupK {X : Cx} {K : PySem.W.Frag} {es : List Expr} {k : Nat} {t : TGs} {n : Nat} {pos : Pos} (hc : X.calm = true) (h : PGs X es t) (e : X.K = K := by rfl)
    (hn : (assignEach es X.env).length = n := by rfl) (hst : (assignEach es X.env).findIdx? (·.1) = none := by rfl) : PG X (.Tuple es k pos) (gTup K n t) := e ▸ pg_tup hc h hn hst
theorem L5_lay {x : Str} (h : x ∈ L5) : PyData.strOk x = true := by
  have z : (L5.all PyData.strOk) = true := by decide +kernel
  exact List.all_eq_true.mp z x h
theorem lay_wd : ∀ {w : List Str}, (∀ x ∈ w, x ∈ L5) → PyData.canLayAll0 (w.map PyData.str) = true
  | [], _ => rfl
  | x :: w, h => by
    show (PyData.strOk x && PyData.canLayAll0 (w.map PyData.str)) = true
    rw [L5_lay (h x List.mem_cons_self), lay_wd fun y hy => h y (List.mem_cons_of_mem _ hy)]
    rfl
theorem depth_strs : ∀ w : List Str, PyData.depthAll (w.map PyData.str) = 0
  | [] => rfl
  | x :: w => by
    show max 0 (PyData.depthAll (w.map PyData.str)) = 0
    rw [depth_strs w]
    rfl
theorem lay_ch {c : Chc} (h : ∀ x ∈ c.2, x ∈ L5) : (dCh c).canLay0 = true := by
  show (true && (PyData.canLayAll0 (c.2.map PyData.str) && true)) = true
  rw [lay_wd h]
  rfl
theorem depth_ch (c : Chc) : (dCh c).depth = 2 := by
  show max 0 (max (PyData.depthAll (c.2.map PyData.str) + 1) 0) + 1 = 2
  rw [depth_strs]
  rfl
theorem shaped_ch {c : Chc} (h : ∀ x ∈ c.2, x ∈ L5) : SeqAt.shaped (dCh c) = true := by
  unfold SeqAt.shaped
  rw [lay_ch h, depth_ch]
  rfl
theorem shaped_chs : ∀ {cs : List Chc}, (∀ c ∈ cs, ∀ x ∈ c.2, x ∈ L5) → PyData.canLayAll0 (cs.map dCh) = true ∧ PyData.depthAll (cs.map dCh) ≤ 2
  | [], _ => ⟨rfl, Nat.zero_le _⟩
  | c :: cs, h => by
    obtain ⟨h1, h2⟩ := shaped_chs fun d hd => h d (List.mem_cons_of_mem _ hd)
    refine ⟨?_, ?_⟩
    · show ((dCh c).canLay0 && PyData.canLayAll0 (cs.map dCh)) = true
      rw [lay_ch (h c List.mem_cons_self), h1]
      rfl
    · show max (dCh c).depth (PyData.depthAll (cs.map dCh)) ≤ 2
      rw [depth_ch]
      omega
theorem shaped_lst {cs : List Chc} (h : ∀ c ∈ cs, ∀ x ∈ c.2, x ∈ L5) : SeqAt.shaped (.list (cs.map dCh)) = true := by
  obtain ⟨h1, h2⟩ := shaped_chs h
  unfold SeqAt.shaped
  rw [Bool.and_eq_true, decide_eq_true_eq]
  refine ⟨h1, ?_⟩
  show PyData.depthAll (cs.map dCh) + 1 ≤ 64
  omega
/-- one of 1, 1, 2, 3 -/
theorem pick3 {r : Int} (h0 : 0 ≤ r) (h1 : r < 4) : ∃ q : Nat, 1 ≤ q ∧ q ≤ 3 ∧ atI [V.int 1, V.int 1, V.int 2, V.int 3] r = some (V.int (q : Nat)) := by
  have c : r = 0 ∨ r = 1 ∨ r = 2 ∨ r = 3 := by omega
  rcases c with rfl | rfl | rfl | rfl
  · exact ⟨1, by decide, by decide, rfl⟩
  · exact ⟨1, by decide, by decide, rfl⟩
  · exact ⟨2, by decide, by decide, rfl⟩
  · exact ⟨3, by decide, by decide, rfl⟩
/-- the roads at the list P -/
def RlAt (K : PySem.W.Frag) (H : Hp) (p : Addr) (rd : List (Int × Int)) : Prop := ∃ ps : List Addr, H p = some (.lst (ps.map V.ref)) ∧ Paired (fun q a => SqT K H q [.int a.1, .int a.2]) ps rd
theorem RlAt.keep {K : PySem.W.Frag} {H H' : Hp} {p : Addr} {rd : List (Int × Int)} (h : RlAt K H p rd) (t : Tk H H') (k : ∀ xs, H p = some (.lst xs) → H' p = some (.lst xs)) : RlAt K H' p rd := by
  obtain ⟨ps, e, pr⟩ := h
  exact ⟨ps, k _ e, paired_mono (fun q a x => t.seq x) pr⟩
theorem RlAt.at {K : PySem.W.Frag} {H : Hp} {p : Addr} {rd : List (Int × Int)} (h : RlAt K H p rd) {j : Int} (j0 : 0 ≤ j) (j1 : j < (rd.length : Nat)) : ∃ (xs : List V) (a : Addr), SqL K H p xs ∧ atI xs j = some (V.ref a) ∧ SqT K H a [.int (rd.getD j.toNat (0, 0)).1, .int (rd.getD j.toNat (0, 0)).2] := by
  obtain ⟨ps, e, pr⟩ := h
  have jn : j.toNat < rd.length := by omega
  obtain ⟨a, ha, hs⟩ := paired_at pr j.toNat (rd.getD j.toNat (0, 0)) (by rw [List.getD_eq_getElem?_getD, List.getElem?_eq_getElem jn]; rfl)
  refine ⟨_, a, SqL.of e, ?_, hs⟩
  have ej : j = ((j.toNat : Nat) : Int) := by omega
  rw [ej]
  exact atI_nat (by rw [List.getElem?_map, ha]; rfl)
theorem eqv_nil : ∀ os : List Int, PyData.eqv (.list (os.map PyData.int)) (.list []) = os.isEmpty
  | [] => rfl
  | _ :: _ => rfl
theorem pick_read {K : PySem.W.Frag} {H : Hp} {m c g : Addr} {n : Nat} {σ : L2.St} {Q : V → Hp → Prop} (M : Ms H m c g n) (nb : n < 100000) (s0 : σ[0]? = some (some (.ref m)))
    (k : ∀ (q : Nat) (H' : Hp), 1 ≤ q → q ≤ 3 → Kp H H' m g → Ms H' m c g (n + 1) → Q (.int (q : Nat)) H') :
    tOp (rIxL K) (tLst (tCons (tC (.int 1)) (tCons (tC (.int 1)) (tCons (tC (.int 2)) (tCons (tC (.int 3)) tNil))))) (tCall spDra [] E0 (tCons (tVar 0) (tCons (tC (.int 4)) tNil))) σ H Q := by
  refine ⟨by show 4 ≤ sizeLine; rw [sizeLine_eq]; decide, fun L nL => ?_⟩
  have s1 : Same H (upd H L (.lst [.int 1, .int 1, .int 2, .int 3])) := same_upd nL
  refine ⟨_, s0, m, c, g, n, 4, rfl, by decide, by decide, nb, M.same s1, fun r H' r0 r1 M' k' => ?_⟩
  obtain ⟨q, q1, q3, at_r⟩ := pick3 r0 r1
  exact ⟨L, _, r, _, rfl, rfl, SqL.of (k' _ _ upd_same (M.notm nL) (M.notg nL)), at_r, k q H' q1 q3 ((Kp.of s1).trans k') M'⟩
def spLG (K : PySem.W.Frag) : Sp := fun vs H Q _ => ∃ (m c g p l : Addr) (road : Int) (n : Nat) (rd : List (Int × Int)) (ls : List Str), vs = [.ref m, .ref p, .ref l, .int road] ∧ Ms H m c g n ∧ n + 200 < 100000 ∧ p ≠ m ∧ p ≠ g ∧ RlAt K H p rd ∧ rd.length ≤ 10 ∧ 0 ≤ road ∧ road < (rd.length : Nat) ∧ LbAt K H l ls ∧ 1 ≤ ls.length ∧ ls.length ≤ 10 ∧ (∀ x ∈ ls, x ∈ L5) ∧
  ∀ (v : V) (H' : Hp) (gs : Gs) (n' : Nat), Kp H H' m g → Ms H' m c g n' → n' ≤ n + 100 → Dp K H' v (dGs gs) → GsOk rd ls road gs → Q v H'
end Lr

namespace Lr
open PySem PySem.Spec PyProof.Rows L2

/-- an edge -/
abbrev Tri := (Int × Str) × Int
def triD (t : Tri) : PyData := .tuple [.int t.1.1, .str t.1.2, .int t.2]
def rowT (e : (Int × Str) × Row) : List Tri := e.2.map fun q => (e.1, q.1)
def trisQ (pt : PT) : List Tri := (pt.map rowT).flatten
def leT (a b : Tri) : Bool := dle (triD a) (triD b)
def TrisAt (H : Hp) (qs : List Addr) (ts : List Tri) : Prop := Paired (fun q t => H q = some (.tup [V.int t.1.1, .str t.1.2, .int t.2])) qs ts
theorem trisQ_snoc (pt : PT) (e : (Int × Str) × Row) : trisQ (pt ++ [e]) = trisQ pt ++ rowT e := by
  unfold trisQ
  rw [List.map_append, List.flatten_append]
  simp
theorem TrisAt.tk {H H' : Hp} {qs : List Addr} {ts : List Tri} (h : TrisAt H qs ts) (s : Tk H H') : TrisAt H' qs ts := paired_imp (fun q t z => (s q _).1 z) h
theorem TrisAt.dp {K : PySem.W.Frag} {H : Hp} : ∀ {qs : List Addr} {ts : List Tri}, TrisAt H qs ts → DpAll K H (qs.map V.ref) (ts.map triD)
  | _, _, .nil => .nil
  | _, _, .cons h t => .cons (.tup (SqT.of h) (.cons (.int _) (.cons (.str _) (.cons (.int _) .nil)))) (TrisAt.dp t)
/-- the values of a sorted list, beside what they hold -/
theorem tris_sorted {H : Hp} {qs : List Addr} {ts : List Tri} (h : TrisAt H qs ts) : ∀ {bs : List (V × PyData)}, (∀ b ∈ bs, b ∈ (qs.map V.ref).zip (ts.map triD)) → ∃ (rs : List Addr) (us : List Tri), bs.map Prod.fst = rs.map V.ref ∧ bs.map Prod.snd = us.map triD ∧ TrisAt H rs us
  | [], _ => ⟨[], [], rfl, rfl, .nil⟩
  | b :: bs, hb => by
    obtain ⟨rs, us, e1, e2, p⟩ := tris_sorted h (bs := bs) fun x hx => hb x (List.mem_cons_of_mem _ hx)
    have m := hb b List.mem_cons_self
    have one : ∀ {qs : List Addr} {ts : List Tri}, TrisAt H qs ts → b ∈ (qs.map V.ref).zip (ts.map triD) → ∃ q t, b = (V.ref q, triD t) ∧ H q = some (.tup [V.int t.1.1, .str t.1.2, .int t.2]) := by
      intro qs ts h
      induction h with
      | nil => exact fun m => nomatch m
      | @cons q t qs ts z _ ih =>
        intro m
        rw [List.map_cons, List.map_cons, List.zip_cons_cons] at m
        rcases List.mem_cons.mp m with e | m
        · exact ⟨q, t, e, z⟩
        · exact ih m
    obtain ⟨q, t, e, z⟩ := one h m
    exact ⟨q :: rs, t :: us, by rw [List.map_cons, List.map_cons, e1, e], by rw [List.map_cons, List.map_cons, e2, e], .cons z p⟩
theorem triD_inj {a b : Tri} (h : triD a = triD b) : a = b := by
  obtain ⟨⟨i, g⟩, x⟩ := a
  obtain ⟨⟨i2, g2⟩, x2⟩ := b
  unfold triD at h
  injection h with h
  injection h with h1 h
  injection h with h2 h
  injection h with h3 h
  injection h1 with h1
  injection h2 with h2
  injection h3 with h3
  have h1 : i = i2 := h1
  have h2 : g = g2 := h2
  have h3 : x = x2 := h3
  rw [h1, h2, h3]
theorem map_inj {α β : Type} {f : α → β} (hf : ∀ a b, f a = f b → a = b) : ∀ {l m : List α}, l.map f = m.map f → l = m
  | [], [], _ => rfl
  | [], _ :: _, h => nomatch h
  | _ :: _, [], h => nomatch h
  | a :: l, b :: m, h => by
    injection h with h1 h2
    rw [hf _ _ h1, map_inj hf h2]
theorem sort_tri (ts : List Tri) : (ts.map triD).mergeSort dle = (ts.mergeSort leT).map triD := (List.map_mergeSort (r := leT) (s := dle) (f := triD) fun a _ b _ => rfl).symm
theorem flat_of : ∀ {l : List PyData}, (∀ d ∈ l, flatD d = true) → flatAll l = true
  | [], _ => rfl
  | d :: r, h => by
    show (flatD d && flatAll r) = true
    rw [h d List.mem_cons_self, flat_of fun x hx => h x (List.mem_cons_of_mem _ hx)]
    rfl
theorem tk_lst2 {H : Hp} {a : Addr} {xs : List V} {o : HO} (e : H a = some (.lst xs)) : Tk H (upd H a o) := fun b ys => by
  refine ⟨fun q => ?_, fun o' q => ?_⟩
  · rw [upd_ne (fun z => by rw [z, e] at q; cases q)]
    exact q
  · rw [upd_ne (fun z => by rw [z, e] at q; cases q)]
    exact q
section
variable {X : Cx}
/-- sorted(xs), xs a list of data that are alike: the values beside their data -/
def rSortedZ (K : PySem.W.Frag) : List V → Hp → VK → Prop := fun vs H Q => ∃ (a : Addr) (xs : List V) (ds : List PyData), vs = [V.ref a] ∧ SqL K H a xs ∧ DpAll K H xs ds ∧ PySem.W.AllAlike ds ∧ PySem.W.Sortable ds ∧ (∀ d ∈ ds, d.depth ≤ 60) ∧ xs.length ≤ 100000 ∧
  ∀ (bs : List (V × PyData)) (p : Addr), (∀ b ∈ bs, b ∈ xs.zip ds) → bs.length = xs.length → bs.map Prod.snd = ds.mergeSort dle → H p = none → Q (.ref p) (upd H p (.lst (bs.map Prod.fst)))
open PySem.W in
theorem cr_sortedZ (hu : X.A.units + 64 < cLine) : CallR X (.builtin "sorted") (rSortedZ X.K) := by
  intro pins s σ H vs us Q I r h
  obtain ⟨a, xs, ds, rfl, hs, hd, al, so, dep, few, q⟩ := h
  rw [Vals.ref1 r]
  obtain ⟨its, rv, pl, hz⟩ := I.list hs
  have len : xs.length = ds.length := dp_len hd
  have each := each_zip rv hd
  have back : ((xs.zip ds).map fun b => b.2) = ds := zip_snd len
  have er : EachIs (fun (v : Value) (b : V × PyData) => ∃ as, Reads s.heap v b.2 as) its (xs.zip ds) := each.mono fun v b h => Dp.reads I b.2 b.1 v h.2 h.1
  have many : (xs.zip ds).length = xs.length := by rw [List.length_zip, ← len, Nat.min_self]
  refine sorted_data (enc := fun b : V × PyData => b.2) (R := fun (v : Value) (b : V × PyData) => RelV b.1 v ∧ Dp X.K H b.1 b.2) pl.isList each er (by rw [back]; exact al) (by rw [back]; exact so) (by rw [many, sizeLine_eq]; omega) (fun b hb => ?_) fun out lo eo => ?_
  · have z := dep b.2 (List.of_mem_zip hb).2
    show X.A.units + 2 + b.2.depth < cLine
    omega
  · obtain ⟨vo, dO⟩ := vals_each eo
    have e1 : ((xs.zip ds).mergeSort (dataLe false fun b : V × PyData => b.2)).map Prod.snd = ds.mergeSort dle := by
      have z := sort_maps (r := dataLe false fun b : V × PyData => b.2) (s := dle) (l := xs.zip ds) Prod.snd fun a _ b _ => rfl
      rw [zip_snd len] at z
      exact z
    have ly : ((xs.zip ds).mergeSort (dataLe false fun b : V × PyData => b.2)).length = xs.length := by
      rw [List.length_mergeSort, many]
    obtain ⟨e, at_p⟩ := sortedAll_at s.heap its (List.toArray out)
    have gone : s.heap.get? (s.heap.objs.size + 1) = none := by
      cases z : s.heap.get? (s.heap.objs.size + 1) with
      | none => rfl
      | some u => exact absurd (Heap.lt_size z) (Nat.not_lt.mpr (Nat.le_succ _))
    have free : H (s.heap.objs.size + 1) = none := I.hok.fresh (Nat.le_succ _)
    refine ⟨.ref _, upd H (s.heap.objs.size + 1) (.lst (((xs.zip ds).mergeSort (dataLe false fun b : V × PyData => b.2)).map Prod.fst)), I.laidN (t' := s.toks) (fun b u z => sortedAll_old z) gone free ⟨by rw [List.length_map, ly, sizeLine_eq]; omega, _, e, vo, at_p⟩, rfl, q _ _ (fun b hb => List.mem_mergeSort.mp hb) ly e1 free⟩
end
def spEO (K : PySem.W.Frag) : Sp := fun vs H Q _ => ∃ (a : Addr) (tb : Tbl) (n : Nat), vs = [.ref a] ∧ TbAt H a tb ∧ TbOk n tb ∧ n ≤ 50 ∧ tb.length ≤ 1000 ∧
  ∀ (H' : Hp) (p : Addr) (qs : List Addr), Same H H' → SqT K H' p (qs.map V.ref) → TrisAt H' qs ((trisQ (pT tb)).mergeSort leT) → Q (.ref p) H'
section
variable {P : Program} {w : World} {K : PySem.W.Frag} {mg : Str → Option Value} {base : Heap}
theorem scEO : FnScope ["table", "state", "sign", "other", "row"] ["table"] (defScope sEO) := ⟨rfl, rfl, rfl, by decide +kernel, rfl, by decide +kernel, by decide +kernel⟩
theorem ok_EO {f : Addr} {fd : FuncData} (F : Fun K "edges_of" "edges_of" sEO f fd) (T : Bt mg) : FnOk P w K mg base CX0 1 f fd ["table"] (spEO K) := by
  refine F.ok scEO (fun vs H Q E h => ?_) (fun cdv A outer s H vs Q E hr h => ?_)
  · obtain ⟨a, tb, n, rfl, _⟩ := h
    rfl
  · obtain ⟨a, tb, n, rfl, ta, tok, n5, tl, k⟩ := h
    have hu64 : (A.deeper (envOfC "edges_of" (defScope sEO) s.heap.objs.size f cdv)).units + 64 < cLine := by
      have z := hr.un
      omega
    refine ⟨_, (pss_one (ps_ret (pe_callTy call_tuple_of (by rfl) T.tuple (by decide +kernel) (pa_cons (pe_callB (cr_sortedZ hu64) (by rfl) T.sorted (by decide +kernel) (pa_cons (pe_locks (pe_lc2 (own := [("state", 1), ("sign", 2), ("row", 4), ("other", 3)]) (vs1 := [3]) (g := gTup K 2 (gCons (gTup K 2 (gCons (gName 1) (gCons (gName 2) gNil))) (gCons (gName 4) gNil))) (te := tTup (tCons (tVar 1) (tCons (tVar 2) (tCons (tVar 3) tNil)))) (g1 := gName 3) (tt := tYes) (tt1 := tYes) rfl scEO.nd (pi_itemsT (pv 0)) (blkOk_by (N := ["table", "state", "sign", "other", "row"]) (sc := defScope sEO) (by decide +kernel)) (by decide)
      (fun _ _ _ _ _ => pg_tupK (by rfl) (pgs_cons (pg_tupK (by rfl) (pgs_cons (pg_name (i := 1) scEO.nd rfl (.inl rfl)) (pgs_cons (pg_name (i := 2) scEO.nd rfl (.inl rfl)) pgs_nil))) (pgs_cons (pg_name (i := 4) scEO.nd rfl (.inl rfl)) pgs_nil))) (fun _ _ _ _ _ => pts_nil)
      (fun _ _ _ _ _ => pi_keys (pv 4)) (fun _ _ _ _ _ => pg_name (i := 3) scEO.nd rfl (.inl rfl)) (fun _ _ _ _ _ => pts_nil) (fun _ _ _ _ _ => pe_tup (pa_cons (pv 1) (pa_cons (pv 2) (pa_cons (pv 3) pa_nil)))))) pa_nil)) pa_nil)))), ?_⟩
    -- what is locked
    let ds : List (Addr × HO) := (a, .dT (tK tb)) :: tb.map fun e => (e.2.1, .dK (rK e.2.2))
    have hds : ds = (a, .dT (tK tb)) :: tb.map fun e => (e.2.1, .dK (rK e.2.2)) := rfl
    have nd : (ds.map (·.1)).Nodup := by
      rw [hds, List.map_cons, List.map_map, List.nodup_cons]
      refine ⟨fun m => ?_, ta.adr⟩
      obtain ⟨e, he, ee⟩ := List.mem_map.mp m
      have q := ta.rows e he
      have ee : e.2.1 = a := ee
      rw [ee, ta.tab] at q
      cases q
    have hd : ∀ p ∈ ds, H p.1 = some p.2 ∧ Mut (some p.2) := fun p hp => by
      rw [hds] at hp
      rcases List.mem_cons.mp hp with rfl | hp
      · exact ⟨ta.tab, trivial⟩
      · obtain ⟨e, he, rfl⟩ := List.mem_map.mp hp
        exact ⟨ta.rows e he, trivial⟩
    have row_in : ∀ e ∈ tb, ((e.2.1, HO.dK (rK e.2.2)) : Addr × HO) ∈ ds := fun e he => by
      rw [hds]
      exact List.mem_cons_of_mem _ (List.mem_map_of_mem (f := fun e : (Int × Str) × Addr × Row => ((e.2.1, HO.dK (rK e.2.2)) : Addr × HO)) he)
    have tab_in : ((a, HO.dT (tK tb)) : Addr × HO) ∈ ds := by
      rw [hds]
      exact List.mem_cons_self
    clear_value ds
    refine ⟨_, locks_in ds nd hd fun HL Qin k1 k2 k3 kq => ?_⟩
    obtain ⟨od, ea⟩ := k2 _ tab_in
    refine ⟨_, rfl, a, od, tK tb, rfl, ea, fun D nD => ?_⟩
    have tl' : (tK tb).length = tb.length := by unfold tK; rw [List.length_map]
    have few : ∀ i, (trisQ (pT (tb.take i))).length ≤ 50000 := fun i => by
      have z : ∀ l : Tbl, (∀ e ∈ l, e.2.2.length ≤ 50) → (trisQ (pT l)).length ≤ l.length * 50 := by
        intro l
        induction l with
        | nil => exact fun _ => Nat.zero_le _
        | cons e r ih =>
          intro h
          have a := ih fun x hx => h x (List.mem_cons_of_mem _ hx)
          have b := h e List.mem_cons_self
          have c : (trisQ (pT (e :: r))).length = e.2.2.length + (trisQ (pT r)).length := by
            unfold trisQ pT rowT
            rw [List.map_cons, List.map_cons, List.flatten_cons, List.length_append, List.length_map]
          rw [c, List.length_cons, Nat.succ_mul]
          omega
      have q := z (tb.take i) fun e he => Nat.le_trans (tok e (List.mem_of_mem_take he)).len n5
      rw [List.length_take] at q
      have q2 : min i tb.length * 50 ≤ 1000 * 50 := Nat.mul_le_mul_right _ (by omega)
      omega
    have snoc : ∀ {i : Nat} {e}, tb[i]? = some e → trisQ (pT (tb.take (i + 1))) = trisQ (pT (tb.take i)) ++ e.2.2.map fun q => (e.1, q.1) := fun {i e} he => by
      have tk : tb.take (i + 1) = tb.take i ++ [e] := by rw [List.take_succ, he]; rfl
      rw [tk]
      unfold pT
      rw [List.map_append]
      exact trisQ_snoc _ _
    refine lc2_it walk_itemsT (fun i H' => ∃ qs : List Addr, H' D = some (.lst (qs.map V.ref)) ∧ TrisAt H' qs (trisQ (pT (tb.take i))) ∧ ∀ b o, HL b = some o → H' b = some o) ⟨[], upd_same, .nil, fun b o e => by rw [upd_ne (ne_of_none e nD)]; exact e⟩ (fun i H' _ ⟨_, _, _, kk⟩ => kk _ _ ea) ?_ ?_
    · rintro i x H3 H4 hi ⟨qs, eD, dy, kk⟩ ⟨T0, key, v0, q0, hk, rfl, nT, rfl, hq⟩
      obtain ⟨e, he, rfl, rfl⟩ : ∃ e, tb[i]? = some e ∧ key = [Sum.inl e.1.1, Sum.inr e.1.2] ∧ v0 = V.ref e.2.1 := by
        unfold tK at hk
        rw [List.getElem?_map, Option.map_eq_some_iff] at hk
        obtain ⟨e, he, hk⟩ := hk
        injection hk with h1 h2
        exact ⟨e, he, h1.symm, h2.symm⟩
      have em := List.mem_of_getElem? he
      obtain ⟨od2, er⟩ := k2 _ (row_in e em)
      have fw := few (i + 1)
      rw [snoc he] at fw ⊢
      rw [List.length_append, List.length_map] at fw
      have sT : Same H3 (upd H3 T0 (.tup [.ref q0, .ref e.2.1])) := same_upd nT
      have eT : (upd H3 T0 (.tup [.ref q0, .ref e.2.1])) T0 = some (.tup [.ref q0, .ref e.2.1]) := upd_same
      revert sT eT
      generalize upd H3 T0 (.tup [.ref q0, .ref e.2.1]) = HT
      intro sT eT
      have hqT := sT _ _ hq
      refine ⟨T0, _, rfl, SqT.of eT, rfl, _, _, rfl, ⟨q0, _, rfl, SqT.of hqT, rfl, _, _, rfl, _, _, rfl, rfl, ?_⟩⟩
      refine ⟨_, _, rfl, rfl, rfl, yes_of ?_⟩
      have kT : ∀ b o, HL b = some o → HT b = some o := fun b o e => sT _ _ (kk _ _ e)
      refine ⟨_, rfl, e.2.1, od2, rfl, .inl ⟨rK e.2.2, kT _ _ er, ?_⟩⟩
      refine lc2_in walk_keys (fun j H' => ∃ qs : List Addr, H' D = some (.lst (qs.map V.ref)) ∧ TrisAt H' qs (trisQ (pT (tb.take i)) ++ (e.2.2.take j).map fun q => (e.1, q.1)) ∧ (∀ b o, HL b = some o → H' b = some o)) ⟨qs, sT _ _ eD, by rw [List.take_zero, List.map_nil, List.append_nil]; exact TrisAt.tk dy (Tk.of sT), kT⟩ (fun j H' _ ⟨_, _, _, q⟩ => q _ _ er) ?_ ?_
      rotate_left
      · rintro H5 ⟨ys5, e5, d5, k5⟩
        have z : (rK e.2.2).length = e.2.2.length := by unfold rK; rw [List.length_map]
        rw [z, List.take_length] at d5
        exact ⟨ys5, e5, d5, k5⟩
      rintro j x H6 H5 hj ⟨ys5, e5, d5, k5⟩ ⟨rfl, key, v1, hk1, rfl⟩
      obtain ⟨q, hq1, rfl⟩ : ∃ q, e.2.2[j]? = some q ∧ key = Sum.inl q.1 := by
        unfold rK at hk1
        rw [List.getElem?_map, Option.map_eq_some_iff] at hk1
        obtain ⟨q, h1, h2⟩ := hk1
        injection h2 with h2 _
        exact ⟨q, h1, h2.symm⟩
      have jl := (List.getElem?_eq_some_iff.mp hq1).1
      have tq : e.2.2.take (j + 1) = e.2.2.take j ++ [q] := by rw [List.take_succ, hq1]; rfl
      refine ⟨rfl, yes_of ?_⟩
      refine ⟨_, rfl, _, rfl, _, rfl, (by rw [sizeLine_eq]; show 3 ≤ 16777216; decide), fun N nN => ?_⟩
      rw [show (HO.tup [kV (Sum.inl e.1.1), kV (Sum.inr e.1.2), kV (Sum.inl q.1)]) = HO.tup [.int e.1.1, .str e.1.2, .int q.1] from rfl]
      have sN : Same H5 (upd H5 N (.tup [.int e.1.1, .str e.1.2, .int q.1])) := same_upd nN
      have eN : (upd H5 N (.tup [.int e.1.1, .str e.1.2, .int q.1])) N = some (.tup [.int e.1.1, .str e.1.2, .int q.1]) := upd_same
      revert sN eN
      generalize upd H5 N (.tup [.int e.1.1, .str e.1.2, .int q.1]) = HN
      intro sN eN
      have eD5 := sN _ _ e5
      have dN : TrisAt HN (ys5 ++ [N]) ((trisQ (pT (tb.take i)) ++ (e.2.2.take j).map fun q => (e.1, q.1)) ++ [(e.1, q.1)]) := paired_app (TrisAt.tk d5 (Tk.of sN)) (.cons eN .nil)
      have yl : ys5.length < sizeLine := by
        have z := Paired.length d5
        rw [List.length_append, List.length_map, List.length_take] at z
        rw [sizeLine_eq]
        omega
      refine ⟨_, eD5, by rw [List.length_map]; exact yl, ys5 ++ [N], by rw [upd_same, List.map_append]; rfl, ?_, fun b o eb => by rw [upd_ne (fun z => by rw [z, nD] at eb; cases eb)]; exact sN _ _ (k5 _ _ eb)⟩
      rw [tq, List.map_append, ← List.append_assoc]
      exact TrisAt.tk dN (tk_lst2 eD5)
    · rintro H5 ⟨qs, e5, d5, k5⟩
      rw [tl', List.take_length] at d5
      refine kq _ H5 (fun p hp od e => k5 _ _ e) fun HU hU1 hU2 => ?_
      have nDd : ∀ p ∈ ds, D ≠ p.1 := fun p hp z => by
        obtain ⟨o, e⟩ := k2 p hp
        rw [← z, nD] at e
        cases e
      have nDH : H D = none := by
        cases z : H D with
        | none => rfl
        | some o =>
          have q := k1 D o z nDd
          rw [nD] at q
          cases q
      have sU : Same H HU := fun b o e => by
        by_cases c : ∃ p ∈ ds, b = p.1
        · obtain ⟨p, hp, rfl⟩ := c
          rw [(hd p hp).1] at e
          rw [hU2 p hp]
          exact e
        · have c2 : ∀ p ∈ ds, b ≠ p.1 := fun p hp z => c ⟨p, hp, z⟩
          exact hU1 _ _ (k5 _ _ (k1 _ _ e c2)) c2
      have eDU := hU1 _ _ e5 nDd
      have tkU : Tk H5 HU := fun b xs => by
        have nt : (H5 b = some (.tup xs) ∨ ∃ o', H5 b = some (.frz o' (.tup xs))) → ∀ p ∈ ds, b ≠ p.1 := fun h p hp z => by
          obtain ⟨od', e'⟩ := k2 p hp
          have q := k5 _ _ e'
          rw [← z] at q
          have mu := (hd p hp).2
          rcases h with h | ⟨o', h⟩
          · have q3 := h.symm.trans q
            cases q3
          · have q3 := h.symm.trans q
            injection q3 with q4
            injection q4 with q5 q6
            rw [← q6] at mu
            exact mu
        exact ⟨fun e => hU1 _ _ e (nt (.inl e)), fun o e => hU1 _ _ e (nt (.inr ⟨o, e⟩))⟩
      have dU := TrisAt.tk d5 tkU
      have fw := few tb.length
      rw [List.take_length] at fw
      have yl := Paired.length dU
      refine ⟨D, qs.map V.ref, (trisQ (pT tb)).map triD, rfl, SqL.of eDU, TrisAt.dp dU, fun d hd d' hd' => ?_, .inl fun d hd => ?_, fun d hd => ?_, by rw [List.length_map, yl]; omega, fun bs p bm bl bt np => ?_⟩
      · obtain ⟨t1, _, rfl⟩ := List.mem_map.mp hd
        obtain ⟨t2, _, rfl⟩ := List.mem_map.mp hd'
        rfl
      · obtain ⟨t1, _, rfl⟩ := List.mem_map.mp hd
        exact ⟨_, _, rfl⟩
      · obtain ⟨t1, _, rfl⟩ := List.mem_map.mp hd
        show Nat.max 0 (Nat.max 0 (Nat.max 0 0)) + 1 ≤ 60
        decide
      · obtain ⟨rs, us, e1, e2, tr⟩ := tris_sorted dU bm
        rw [bt, sort_tri] at e2
        have e3 := map_inj (fun _ _ => triD_inj) e2
        rw [← e3] at tr
        rw [e1]
        have sp : Same HU (upd HU p (.lst (rs.map V.ref))) := same_upd np
        have ep : (upd HU p (.lst (rs.map V.ref))) p = some (.lst (rs.map V.ref)) := upd_same
        revert sp ep
        generalize upd HU p (.lst (rs.map V.ref)) = HP
        intro sp ep
        refine ⟨p, rs.map V.ref, rfl, .inl ⟨SqL.of ep, fun u nu => ?_⟩⟩
        have su : Same HP (upd HP u (.tup (rs.map V.ref))) := same_upd nu
        exact k _ u rs ((sU.trans sp).trans su) (SqT.of upd_same) (TrisAt.tk tr (Tk.of (sp.trans su)))
end
end Lr

namespace Lr
open PySem PySem.Spec PyProof.Rows L2

def spWO (K : PySem.W.Frag) : Sp := fun vs H Q _ => ∃ (a e ad : Addr) (tb : Tbl) (s x w : Int) (g : Str) (row : Row), vs = [.ref a, .ref e] ∧ TbAt H a tb ∧ SqT K H e [.int s, .str g, .int x] ∧ findT tb s g = some (ad, row) ∧ getR row x = some w ∧ ∀ H', Same H H' → Q (.int w) H'
def spPTb (K : PySem.W.Frag) : Sp := fun vs H Q _ => ∃ (fr : Addr) (mv : Mvs) (us : List Addr) (n m : Nat), vs = [.ref fr] ∧ FreeAt K H fr mv us ∧ MvOk n mv ∧ n ≤ 900 ∧ mv.length ≤ 1000 ∧ (∀ x ∈ mv, x.2.length ≤ 1000) ∧ Ends mv m [] ∧
  ∀ (H' : Hp) (a : Addr) (tb : Tbl), Same H H' → H a = none → (∀ e ∈ tb, H e.2.1 = none) → TbAt H' a tb → pT tb = satQ mv m [] → Q (.ref a) H'
section
variable {P : Program} {w : World} {K : PySem.W.Frag} {mg : Str → Option Value} {base : Heap}
theorem scWO : FnScope ["table", "edge"] ["table", "edge"] (defScope sWO) := ⟨rfl, rfl, rfl, by decide +kernel, rfl, by decide +kernel, by decide +kernel⟩
theorem scPTb : FnScope ["free"] ["free"] (defScope sPTb) := ⟨rfl, rfl, rfl, by decide +kernel, rfl, by decide +kernel, by decide +kernel⟩
theorem ok_WO {f : Addr} {fd : FuncData} (F : Fun K "weight_of" "weight_of" sWO f fd) (T : Bt mg) : FnOk P w K mg base CX0 1 f fd ["table", "edge"] (spWO K) := by
  refine F.ok scWO (fun vs H Q E h => ?_) (fun cdv A outer s H vs Q E hr h => ?_)
  · obtain ⟨a, e, ad, tb, st, x, wt, g, row, rfl, _⟩ := h
    rfl
  · obtain ⟨a, e, ad, tb, st, x, wt, g, row, rfl, ta, se, hf, hg, k⟩ := h
    have hu1 : (A.deeper (envOfC "weight_of" (defScope sWO) s.heap.objs.size f cdv)).units + 1 < cLine := by
      have z := hr.un
      omega
    refine ⟨_, (pss_one (ps_ret (pe_dget hu1 (pe_dget hu1 (pv 0) (pe_slice sl_tup (pv 1) po_none (po_some pe_int)) (fun _ _ => rfl)) (pe_ix ix_tup (pv 1) pe_int (fun _ _ => rfl)) (fun _ _ => rfl)))), ?_⟩
    have hin := findT_in hf
    refine ⟨_, rfl, _, rfl, _, rfl, e, _, rfl, se, (fun z => absurd z.2 (by show ¬ (2 = 3); decide)), fun p np => ?_⟩
    have sp : Same H (upd H p (.tup [.int st, .str g])) := same_upd np
    have ep : (upd H p (.tup [.int st, .str g])) p = some (.tup [.int st, .str g]) := upd_same
    rw [show cutV [V.int st, .str g, .int x] none (some 2) = [.int st, .str g] from rfl]
    revert sp ep
    generalize upd H p (.tup [.int st, .str g]) = HP
    intro sp ep
    have d1 : DGet HP a (.ref p) (some (V.ref ad)) := by
      have z := DGet.t (k := [Sum.inl st, Sum.inr g]) (sp _ _ ta.tab) ep
      rw [tK_get, hf] at z
      exact z
    have d2 : DGet HP ad (.int x) (some (V.int wt)) := by
      have z := DGet.k (k := Sum.inl x) (sp _ _ (ta.rows _ hin))
      rw [rK_get, show getR ((st, g), ad, row).2.2 x = some wt from hg] at z
      exact z
    exact ⟨a, _, rfl, d1, _, rfl, e, _, _, _, rfl, rfl, (Tk.of sp).seq se, rfl, ad, _, rfl, d2, k _ sp⟩
theorem ok_PTb {f : Addr} {fd : FuncData} {fSat : Addr} {fdSat : FuncData} (F : Fun K "pop_table" "pop_table" sPTb f fd) (T : Bt mg) (CSat : Cal K mg "saturated" fSat fdSat ["edges", "free"]) (GSat : FnOk P w K mg base CX0 5 fSat fdSat ["edges", "free"] (spSat K)) : FnOk P w K mg base CX0 6 f fd ["free"] (spPTb K) := by
  refine F.ok scPTb (fun vs H Q E h => ?_) (fun cdv A outer s H vs Q E hr h => ?_)
  · obtain ⟨fr, mv, us, n, m, rfl, _⟩ := h
    rfl
  · obtain ⟨fr, mv, us, n, m, rfl, fa, mo, n9, ml, cl, en, k⟩ := h
    have hr5 : Room 5 (A.deeper (envOfC "pop_table" (defScope sPTb) s.heap.objs.size f cdv)) := Room.mono hr (by decide)
    refine ⟨_, (pss_one (ps_ret (pe_call GSat hr5 (by rfl) CSat.g CSat.k CSat.b .nil pass0 (pa_cons (pe_tup pa_nil) (pa_cons (pv 0) pa_nil))))), ?_⟩
    refine ⟨Nat.zero_le _, fun eu nu => ?_⟩
    have su : Same H (upd H eu (.tup [])) := same_upd nu
    have eu0 : (upd H eu (.tup [])) eu = some (.tup []) := upd_same
    revert su eu0
    generalize upd H eu (.tup []) = HU
    intro su eu0
    have fa2 : FreeAt K HU fr mv us := by
      refine ⟨su _ _ fa.tab, paired_imp (fun u m h => ?_) fa.val, fa.nd⟩
      have fl : flatD (.tuple (m.2.map dCh)) = true := flat_of fun d hd => by
        obtain ⟨c, _, rfl⟩ := List.mem_map.mp hd
        exact flat_ch c
      exact dp_tk (Tk.of su) _ _ fl h
    refine ⟨_, rfl, eu, fr, mv, us, n, m, rfl, SqT.of eu0, fa2, mo, n9, ml, cl, en, fun H' a tb sm na nr t e => k H' a tb (su.trans sm) (su.free na) (fun x hx => su.free (nr x hx)) t e⟩
end
end Lr

namespace Lr
open PySem PySem.Spec PyProof.Rows L2
theorem tuple_keys_none : typeLookup (.type "tuple") "keys" = pure none := am_miss_of_fast (by first | decide +kernel | rfl)
section
variable {P : Program} {w : World} {A : Around} {E : Value → Shared → Prop}
/-- a tuple without a dict of its own has no attribute 'keys' -/
theorem miss_tup {s : Shared} {a : Addr} {xs : Array Value} {k : Nat} {sl : Array (Option Value)} {Q : Option Value → Shared → Prop} (hx : s.heap.get? a = some { cls := .type "tuple", dict := none, data := .seq xs k, slots := sl }) (hA : A.handled = none)
    (done : ∀ h' tk, (∀ b ob, s.heap.get? b = some ob → h'.get? b = some ob) → Q none { s with heap := h', toks := tk }) : wpAny (model P w) A (getAttr? (.ref a) "keys") Q E s := by
  obtain ⟨hp, g, d, tk, os⟩ := s
  have hT : ∀ tk', (⟨hp, g, d, tk', os⟩ : Shared).TypeIs (.ref a) "tuple" := fun _ => ⟨_, hx, rfl⟩
  have r1 := tuple_keys_none
  have r2 : (["__module__", "__name__", "__qualname__", "__doc__", "__annotations__"] : List Str).contains "keys" = false := by decide +kernel
  have r3 : ("keys" : Str).length + 100 ≤ sizeLine := by first | size_fits | decide +kernel
  have g1 := sub_AttributeError
  have g3 := PySem.F.slot_tuple_getattribute.lookup
  have g4 := PySem.F.slot_tuple_getattribute.bind (.ref a)
  have g5 := am_tuple_getattr_none
  unfold getAttr? getAttrBy? getAttrBy
  repeat (any_goals (first | assumption | exact hT _ | ((with_reducible show wpAny _ _ (call (Value.builtin "tuple.__getattribute__") _ _) _ _ _); refine call_meets PySem.F.slot_tuple_getattribute (hT _) am_entry_tuple_getattribute (PySem.F.args_tuple_getattribute_2 _ _) (meets_getattribute_miss_tuple a xs k sl "keys" _ r1 r2 r3) ⟨hx, hA, fun h' tk' e hx' => ?_⟩) | wp_step))
  obtain ⟨t', u', he⟩ := hx'.there
  show wpAny _ _ (getattributeRaised _ _ _ _ _ _ _) _ _ _
  unfold getattributeRaised
  repeat (any_goals (first | assumption | wp_step))
  all_goals first | exact done _ _ hx'.keeps | (dsimp only; repeat (any_goals (first | assumption | exact done _ _ hx'.keeps | wp_step)))
end
end Lr

namespace Lr
open PySem PySem.Spec PyProof.Rows L2
abbrev TK (P : Program) (w : World) : HeapKind P w (List L2.Key) := tupleKind (mixKind P w)
theorem tk_keep {P : Program} {w : World} {h h' : Heap} {k : List L2.Key} {a : Addr} (x : (TK P w).is h k a) (kp : ∀ o, h.get? a = some o → h'.get? a = some o) : (TK P w).is h' k a := by
  obtain ⟨o, items, n, h1, h2, h3, h4⟩ := x
  exact ⟨o, items, n, kp _ h1, h2, h3, h4⟩
theorem dh_keep {P : Program} {w : World} {h h' : Heap} {S I : Addr} {xs : List (List L2.Key × Addr × Value)} (x : h.DictOfH (TK P w) S xs) (kp : ∀ b o, b ≠ I → h.get? b = some o → h'.get? b = some o) (hS : S ≠ I) (ks : ∀ q ∈ xs, q.2.1 ≠ I) : h'.DictOfH (TK P w) S xs := by
  obtain ⟨o, es, ep, h1, h2, h3, h4, h5, h6⟩ := x
  exact ⟨o, es, ep, kp _ _ hS h1, h2, h3, h4, fun q hq => tk_keep (h5 q hq) fun o e => kp _ _ (ks q hq) e, h6⟩
section
variable {P : Program} {w : World} {A : Around}
/-- the walk over pairs whose keys are tuples, no key twice -/
theorem upd_tup {R : Result → Shared → Prop} {S I l : Addr} {items : Array Value} {res : Value} (hh : A.handled = none) (room : (TK P w).room A.in1) (lI : l ≠ I) (SI : S ≠ I) (Sl : S ≠ l) :
    ∀ (rest : List (List L2.Key × Addr × Value)) (i : Nat) (acc : List (List L2.Key × Addr × Value)) (ix : Int) (t : Tok) (s : Shared), items.size = i + rest.length → acc.length + rest.length ≤ sizeLine → ((acc ++ rest).map (·.1)).Nodup →
      (∀ q ∈ acc ++ rest, q.2.1 ≠ S ∧ q.2.1 ≠ I) →
      (∀ (j : Nat) (q : List L2.Key × Addr × Value), rest[j]? = some q → (TK P w).is s.heap q.1 q.2.1 ∧ ∃ b : Addr, items[i + j]? = some (.ref b) ∧ b ≠ S ∧ b ≠ I ∧ IsTup s.heap b #[.ref q.2.1, q.2.2]) →
      s.heap.IsTupleIter I l i → s.heap.IsTuple l items → s.heap.DictOfH (TK P w) S acc →
      (∀ h' tk, h'.DictOfH (TK P w) S (acc ++ rest) → (∀ b o, b ≠ S → b ≠ I → s.heap.get? b = some o → h'.get? b = some o) → R (.ok (.ret res)) { s with heap := h', toks := tk }) →
      codeAny (model P w) A (.builtin "dict.update.loop" ⟨[.ref S, .ref I, .int ix t, res], []⟩) R s
  | [], i, acc, ix, t, s, hsz, hln, nd, ap, ht, hit, hl, hm, hR => by
    refine codeAny_builtin ud_entry ?_
    rw [Around.under_plainId ud_plain _]
    show wpAny _ A.in1 (pyNext (.ref I) >>= _) _ _ s
    have none_left : items[i]? = none := Array.getElem?_eq_none (by rw [hsz]; exact Nat.le_refl _)
    refine wpAny_bind (wpAny_pyNext_tuple_end (A := A.in1) hh hit hl none_left fun h' he => ?_)
    show wpAny _ A.in1 (Builtin.Dict.addKeywords S [] >>= _) _ _ _
    refine wpAny_bind (wpAny_pure (wpAny_pure ?_))
    rw [List.append_nil] at hR ap
    exact hR h' s.toks (dh_keep hm (fun b o nb e => he b o nb e) SI fun q hq => (ap q hq).2) fun b o _ nb e => he b o nb e
  | q :: rest, i, acc, ix, t, s, hsz, hln, nd, ap, ht, hit, hl, hm, hR => by
    obtain ⟨isq, b, hb, bS, bI, tup⟩ := ht 0 q rfl
    rw [List.length_cons] at hsz hln
    have qap := ap q (List.mem_append_right _ List.mem_cons_self)
    refine codeAny_builtin ud_entry ?_
    rw [Around.under_plainId ud_plain _]
    show wpAny _ A.in1 (pyNext (.ref I) >>= _) _ _ s
    refine wpAny_bind (wpAny_pyNext_tuple_item (x := .ref b) hit hl (by simpa using hb) fun h1 hit1 hs1 => ?_)
    have k1 : ∀ c o, c ≠ I → s.heap.get? c = some o → h1.get? c = some o := fun c o nc e => hs1.extBut c o nc e
    have tup1 : IsTup h1 b #[.ref q.2.1, q.2.2] := tup.extBut hs1.extBut bI
    have hl1 : h1.IsTuple l items := hl.extBut hs1.extBut lI
    have isq1 := tk_keep isq fun o e => k1 _ o qap.2 e
    have hm1 := dh_keep hm k1 SI fun z hz => (ap z (List.mem_append_left _ hz)).2
    obtain ⟨o, ho, hc, n, hd⟩ := id tup1
    show wpAny _ A.in1 (holding [Value.ref b] _ >>= _) _ _ _
    refine wpAny_bind (wpAny_holding ?_)
    refine wpAny_bind (wpAny_tryCatch ?_)
    unfold Builtin.Dict.pairItems
    refine wpAny_bind (wpAny_typeOf (T := "tuple") ⟨o, ho, hc⟩ ?_)
    rw [if_pos (by first | decide | rfl | simp)]
    refine wpAny_bind (wpAny_seqItems ho hd (wpAny_pure ?_))
    show wpAny _ A.in1 (holding [.ref q.2.1, q.2.2] (dictSet S (.ref q.2.1) q.2.2)) _ _ _
    refine wpAny_holding (wpAny_dictSet_heap (knd := TK P w) (k := q.1) room isq1 hm1 (fun h2 hm2 hs2 => ?_) (by omega))
    have fresh : atKey acc q.1 = none := by
      cases e : acc.find? (fun x => decide (x.1 = q.1)) with
      | none =>
        unfold atKey
        rw [e]
        rfl
      | some z =>
        have z0 := List.find?_some e
        have z1 : z.1 = q.1 := of_decide_eq_true z0
        have z2 := List.mem_of_find?_eq_some e
        rw [List.map_append, List.nodup_append] at nd
        exact absurd z1 (nd.2.2 z.1 (List.mem_map.mpr ⟨z, z2, rfl⟩) q.1 (List.mem_map.mpr ⟨q, List.mem_cons_self, rfl⟩))
    rw [storedH_new fresh] at hm2
    have k2 : ∀ c o, c ≠ S → h1.get? c = some o → h2.get? c = some o := fun c o nc e => hs2.extBut c o nc e
    have again : (acc ++ [(q.1, q.2.1, q.2.2)]) ++ rest = acc ++ q :: rest := by rw [List.append_assoc]; rfl
    refine wpAny_pure ⟨plainId_quiet ud_plain _, upd_tup hh room lI SI Sl rest (i + 1) (acc ++ [(q.1, q.2.1, q.2.2)]) (ix + 1) 0 _ (show items.size = i + 1 + rest.length by omega) (by rw [List.length_append, List.length_singleton]; omega) (by rw [again]; exact nd) (by rw [again]; exact ap) (fun j q' e => ?_) ?_ ?_ hm2 fun h' tk hd' k => ?_⟩
    · obtain ⟨is', b', hb', bS', bI', tup'⟩ := ht (j + 1) q' (by simpa using e)
      have ap' := ap q' (List.mem_append_right _ (List.mem_cons_of_mem _ (List.mem_of_getElem? e)))
      refine ⟨tk_keep is' fun o eo => k2 _ _ ap'.1 (k1 _ _ ap'.2 eo), b', ?_, bS', bI', (tup'.extBut hs1.extBut bI').extBut hs2.extBut bS'⟩
      rw [show i + 1 + j = i + (j + 1) by omega]
      exact hb'
    · obtain ⟨oi, e1, e2, e3⟩ := hit1
      exact ⟨oi, k2 _ _ (Ne.symm SI) e1, e2, e3⟩
    · exact hl1.extBut hs2.extBut (Ne.symm Sl)
    · rw [again] at hd'
      exact hR h' tk hd' fun c oc n1 n2 e => k c oc n1 n2 (k2 _ _ n1 (k1 _ _ n2 e))
/-- dict(t), t a tuple (without a dict of its own) of pairs whose keys are tuples, no key twice -/
theorem call_dict_tup {E : Value → Shared → Prop} {s : Shared} {l : Addr} {items : Array Value} {n : Nat} {sl : Array (Option Value)} {xs : List (List L2.Key × Addr × Value)} {Q : Value → Shared → Prop} (hh : A.handled = none) (room : A.units + 8 < cLine) (at_l : s.heap.get? l = some { cls := .type "tuple", dict := none, data := .seq items n, slots := sl })
    (sz : items.size = xs.length) (few : xs.length ≤ 100000) (nd : (xs.map (·.1)).Nodup)
    (ht : ∀ (j : Nat) (q : List L2.Key × Addr × Value), xs[j]? = some q → (TK P w).is s.heap q.1 q.2.1 ∧ ∃ b : Addr, items[j]? = some (.ref b) ∧ IsTup s.heap b #[.ref q.2.1, q.2.2])
    (done : ∀ h' tk, h'.DictOfH (TK P w) s.heap.objs.size xs → (∀ b o, s.heap.get? b = some o → h'.get? b = some o) → Q (.ref s.heap.objs.size) { s with heap := h', toks := tk }) :
    wpAny (model P w) A (call (.type "dict") [.ref l]) Q E s := by
  refine callType_codes (Q₁ := fun x s₁ => x = .ref s.heap.objs.size ∧ s₁ = { s with heap := s.heap.push { cls := .type "dict", data := .dict #[] } }) PySem.F.kt_called_dict (PySem.F.kt_typeCall_dict_1 _) PySem.F.entry_dict_init (kt_code_dict_new _ ⟨rfl, rfl⟩) ?_
  rintro x s₁ ⟨rfl, rfl⟩
  have new_d : (s.heap.push { cls := .type "dict", data := .dict #[] }).DictOfH (TK P w) s.heap.objs.size [] := Heap.DictOfH.new s.heap
  have k0 : ∀ b o, s.heap.get? b = some o → (s.heap.push { cls := .type "dict", data := .dict #[] }).get? b = some o := fun b o e => Heap.get?_push_of_some _ e
  refine ⟨new_d.typeIs, PySem.F.args_dict_init_2 _ _, ?_⟩
  unfold Builtin.«dict.__init__»
  refine wpAny_bind ?_
  unfold Builtin.Dict.selfAndRest
  refine wpAny_bind (wpAny_notOrdered_dict new_d.typeIs ?_)
  show wpAny _ _ (pure (s.heap.objs.size, [Value.ref l])) _ _ _
  refine wpAny_pure ?_
  show wpAny _ _ (Builtin.Dict.updateFrom "dict.__init__" s.heap.objs.size (.ref l) [] .none) _ _ _
  unfold Builtin.Dict.updateFrom
  refine wpAny_bind (wpAny_typeOf (T := "tuple") ⟨_, k0 _ _ at_l, rfl⟩ ?_)
  rw [if_pos (by first | decide | rfl | simp)]
  refine wpAny_bind (miss_tup (k0 _ _ at_l) hh fun h1 tk1 kp1 => ?_)
  rw [if_pos (show (none : Option Value).isNone = true from rfl)]
  refine wpAny_bind (wpAny_rule ?_)
  have hl1 : h1.IsTuple l items := ⟨_, kp1 _ _ (k0 _ _ at_l), rfl, n, rfl⟩
  have at_S : (s.heap.push { cls := .type "dict", data := .dict #[] }).get? s.heap.objs.size = some { cls := .type "dict", data := .dict #[] } := Heap.get?_push_size _ rfl
  have S1 : s.heap.objs.size < h1.objs.size := Heap.lt_size (kp1 _ _ at_S)
  refine wpAny_bind (wpAny_pyIter_tuple hl1 ?_)
  have k2 : ∀ b o, h1.get? b = some o → (h1.push { cls := .type "tuple_iterator", data := .fields #[.ref l, .int 0 0] }).get? b = some o := fun b o e => Heap.get?_push_of_some _ e
  have lt : l < s.heap.objs.size := Heap.lt_size at_l
  have there : ∀ q ∈ xs, q.2.1 < s.heap.objs.size := fun q hq => by
    obtain ⟨j, hj⟩ := List.mem_iff_getElem?.mp hq
    obtain ⟨⟨o, _, _, e, _⟩, _⟩ := ht j q hj
    exact Heap.lt_size e
  have key := upd_tup (P := P) (w := w) (A := A.in1) (R := wants (fun r s₂ => r = .none ∧ Q (.ref s.heap.objs.size) s₂) E) (S := s.heap.objs.size) (I := h1.objs.size) (l := l) (items := items) (res := Value.none) hh (tupleKind_room_in1 (by show A.units + 1 + 1 < cLine; omega))
    (Nat.ne_of_lt (Nat.lt_trans lt S1)) (Nat.ne_of_lt S1) (Nat.ne_of_gt lt) xs 0 [] 0 0
    { s with heap := h1.push { cls := .type "tuple_iterator", data := .fields #[.ref l, .int 0 0] }, toks := tk1 } (by rw [sz, Nat.zero_add]) (by rw [List.length_nil, Nat.zero_add, sizeLine_eq]; omega) nd
    (fun q hq => ⟨Nat.ne_of_lt (there q hq), Nat.ne_of_lt (Nat.lt_trans (there q hq) S1)⟩)
    (fun j q e => by
      obtain ⟨e0, b, e1, e2⟩ := ht j q e
      have hb : b < s.heap.objs.size := e2.lt
      exact ⟨tk_keep e0 fun o z => k2 _ _ (kp1 _ _ (k0 _ _ z)), b, by rw [Nat.zero_add]; exact e1, Nat.ne_of_lt hb, Nat.ne_of_lt (Nat.lt_trans hb S1), e2.keeps fun c o z => k2 _ _ (kp1 _ _ (k0 _ _ z))⟩)
    ⟨_, Heap.get?_push_size _ rfl, rfl, rfl⟩ (by obtain ⟨o, e, r⟩ := hl1; exact ⟨o, k2 _ _ e, r⟩) (by
      obtain ⟨o, es, ep, e1, r⟩ := new_d
      exact ⟨o, es, ep, k2 _ _ (kp1 _ _ e1), r.1, r.2.1, r.2.2.1, (fun q hq => nomatch hq), r.2.2.2.2⟩)
    (fun h' tk hd' k => ⟨rfl, done h' tk hd' fun b o e => k b o (Nat.ne_of_lt (Heap.lt_size e)) (Nat.ne_of_lt (Nat.lt_trans (Heap.lt_size e) S1)) (k2 _ _ (kp1 _ _ (k0 _ _ e)))⟩)
  first
    | exact wpAny_pure ⟨plainId_quiet ud_plain _, key⟩
    | exact wpAny_bind (wpAny_pure (wpAny_pure ⟨plainId_quiet ud_plain _, key⟩))
end
end Lr

namespace Lr
open PySem PySem.Spec PyProof.Rows L2
section
variable {X : Cx} {pins : List (Addr × Obj)} {σ : L2.St} {H : Hp} {s : Shared}
/-- pairs in the heap, the key's own tuple told -/
def PrT (K : PySem.W.Frag) (H : Hp) (p : Addr) (q : List L2.Key × Addr × V) : Prop := SqT K H p [.ref q.2.1, q.2.2] ∧ H q.2.1 = some (.tup (q.1.map kV))
theorem prs_at (I : Inv X pins σ H s) : ∀ {ps : List Addr} {kvs : List (List L2.Key × Addr × V)}, Paired (PrT X.K H) ps kvs →
    ∃ xs : List (List L2.Key × Addr × Value), Paired (fun (p : List L2.Key × Addr × V) (q : List L2.Key × Addr × Value) => p.1 = q.1 ∧ p.2.1 = q.2.1 ∧ H q.2.1 = some (.tup (q.1.map kV)) ∧ RelV p.2.2 q.2.2) kvs xs ∧ xs.length = ps.length ∧ xs.map (·.1) = kvs.map (·.1) ∧
      ∀ (j : Nat) (q : List L2.Key × Addr × Value), xs[j]? = some q → (TK X.prog X.w).is s.heap q.1 q.2.1 ∧ ∃ b : Addr, ps[j]? = some b ∧ IsTup s.heap b #[.ref q.2.1, q.2.2]
  | _, _, .nil => ⟨[], .nil, rfl, rfl, fun j q e => by simp at e⟩
  | _, _, .cons (a := p) (b := kv) h t => by
    obtain ⟨xs, pr, len, ks, all⟩ := prs_at I t
    obtain ⟨h1, h2⟩ := h
    obtain ⟨its, rv, tup, _⟩ := I.tuple h1
    obtain ⟨u, y, ei, ru, ry⟩ := vals2 rv
    subst ei
    obtain rfl : u = Value.ref kv.2.1 := ru
    refine ⟨(kv.1, kv.2.1, y) :: xs, .cons ⟨rfl, rfl, h2, ry⟩ pr, by rw [List.length_cons, List.length_cons, len], by rw [List.map_cons, List.map_cons, ks], fun j q e => ?_⟩
    cases j with
    | zero =>
      have e' : (kv.1, kv.2.1, y) = q := Option.some.inj e
      subst e'
      exact ⟨key_of I.hok h2, p, rfl, tup⟩
    | succ j =>
      obtain ⟨e0, b, e1, e2⟩ := all j q (by simpa using e)
      exact ⟨e0, b, by simpa using e1, e2⟩
/-- dict(t) of a tuple whose own object is told, pairs whose keys are tuples, no key twice -/
def rDictT (K : PySem.W.Frag) : List V → Hp → VK → Prop := fun vs H Q => ∃ (a : Addr) (o : Obj) (ps : List Addr) (kvs : List (List L2.Key × Addr × V)), vs = [.ref a] ∧ H a = some (.frz o (.tup (ps.map V.ref))) ∧ o.dict = none ∧ Paired (PrT K H) ps kvs ∧ (kvs.map (·.1)).Nodup ∧ kvs.length ≤ 100000 ∧
  ∀ p, H p = none → Q (.ref p) (upd H p (.dT (kvs.map fun q => (q.1, q.2.2))))
theorem cr_dictT (hc : X.calm = true) (hu : X.A.units + 8 < cLine) : CallR X (.type "dict") (rDictT X.K) := by
  intro pins s σ H vs us Q I r h
  obtain ⟨a, o, ps, kvs, rfl, ea, od, pr, nd, few, q⟩ := h
  rw [Vals.ref1 r]
  obtain ⟨at_a, len, its, rv, o', ho', cls, n, dat⟩ := I.hok a _ ea
  rw [at_a] at ho'
  cases ho'
  obtain ⟨c, dct, dt, sl⟩ := o
  simp only at cls dat od
  subst cls dat od
  have ei := refs_at rv
  subst ei
  obtain ⟨xs, prx, lx, kx, all⟩ := prs_at I pr
  have lk : kvs.length = xs.length := Paired.length prx
  refine call_dict_tup (xs := xs) (I.ok.hd hc) hu at_a (by rw [List.size_toArray, List.length_map, lx]) (by omega) (by rw [kx]; exact nd) (fun j z e => ?_) fun h' tk hd k => ?_
  · obtain ⟨e0, b, e1, e2⟩ := all j z e
    exact ⟨e0, b, by simp [e1], e2⟩
  · have free : H s.heap.objs.size = none := I.hok.fresh (Nat.le_refl _)
    have nm : (s.heap.objs.size == sysModules) = false := beq_eq_false_iff_ne.mpr (Nat.ne_of_gt I.big)
    obtain ⟨od, es, ep, e1, e2, e3, e4, e5, e6⟩ := hd
    refine ⟨.ref s.heap.objs.size, upd H s.heap.objs.size (.dT (kvs.map fun q => (q.1, q.2.2))), I.laid (t' := tk) k (Nat.le_refl _) ?_, rfl, q _ free⟩
    refine ⟨by rw [List.length_map, sizeLine_eq]; omega, nm, xs, ?_, od, es, ep, e1, e2, e3, e4, e6⟩
    have go : ∀ {l : List (List L2.Key × Addr × V)} {m : List (List L2.Key × Addr × Value)}, Paired (fun (p : List L2.Key × Addr × V) (q : List L2.Key × Addr × Value) => p.1 = q.1 ∧ p.2.1 = q.2.1 ∧ H q.2.1 = some (.tup (q.1.map kV)) ∧ RelV p.2.2 q.2.2) l m →
        Paired (fun (p : List L2.Key × V) (q : List L2.Key × Addr × Value) => p.1 = q.1 ∧ (upd H s.heap.objs.size (.dT (kvs.map fun q => (q.1, q.2.2)))) q.2.1 = some (.tup (p.1.map kV)) ∧ RelV p.2 q.2.2) (l.map fun q => (q.1, q.2.2)) m := by
      intro l m h
      induction h with
      | nil => exact .nil
      | cons h t ih =>
        obtain ⟨g1, g2, g3, g4⟩ := h
        refine .cons ⟨g1, ?_, g4⟩ ih
        rw [upd_ne (ne_of_none g3 free), g1]
        exact g3
    exact go prx
end
end Lr

namespace Lr
open PySem PySem.Spec PyProof.Rows L2
section
variable {X : Cx}
/-- tuple(xs) of a list: the new object has no dict of its own, and that is told -/
def rTupZ (K : PySem.W.Frag) : List V → Hp → VK → Prop := fun vs H Q => ∃ p ys, vs = [.ref p] ∧ SqL K H p ys ∧ ∀ (l : Addr) (o : Obj), H l = none → o.dict = none → Q (.ref l) (upd H l (.frz o (.tup ys)))
theorem cr_tupZ : CallR X (.type "tuple") (rTupZ X.K) := by
  intro pins s σ H xs us Q I r h
  obtain ⟨p, ys, rfl, hq, q⟩ := h
  obtain ⟨u, rfl, rx⟩ := vals1 r
  cases rx
  obtain ⟨its, r', pl, hz⟩ := I.list hq
  have hlen := r'.length
  refine call_tuple_list pl.isList (fun h' kp => ?_) (by simp only [List.size_toArray] <;> omega)
  have I1 : Inv X pins σ H { s with heap := h' } := I.kept (t' := s.toks) kp
  have I2 : Inv X pins σ (upd H h'.objs.size (.frz { cls := .type "tuple", data := .seq its.toArray } (.tup ys))) { s with heap := h'.push { cls := .type "tuple", data := .seq its.toArray } } :=
    I1.laid (t' := s.toks) (fun b o e => Heap.get?_push_of_some _ e) (Nat.le_refl _) ⟨Heap.get?_push_size _ rfl, hz, its, r', IsTup.new _ _⟩
  exact ⟨.ref h'.objs.size, _, I2, rfl, q _ _ (I1.hok.fresh (Nat.le_refl _)) rfl⟩
end
theorem tupZ_at {K : PySem.W.Frag} {H : Hp} {l : Addr} {o : Obj} {ys : List V} (e : H l = some (.frz o (.tup ys))) : SqT K H l ys := .inl (.inr ⟨o, e⟩)
end Lr


namespace Lr
open PySem PySem.Spec PyProof.Rows L2

/-top-/
theorem slTK {X : Cx} {K : PySem.W.Frag} (h : X.K = K := by rfl) : SlR X (rSlT K) := h ▸ sl_tup
theorem catTK {X : Cx} {K : PySem.W.Frag} (h : X.K = K := by rfl) : OpR X (binaryOp .Add) (rCatT K) := h ▸ op_catT
theorem sortTK {X : Cx} {K : PySem.W.Frag} (h : X.K = K := by rfl) : CallR X (.builtin "sorted") (rSortedTs K) := h ▸ cr_sortedTs
def lbs (q : Nat) : List Str := (["a", "ab", "b", "abc"] : List Str).take (q + 1)
/-- the labels that are drawn -/
def LbsOk (ls : List Str) : Prop := ∃ q : Nat, q ≤ 2 ∧ (ls = lbs q ∨ ls = (lbs q).reverse)
theorem LbsOk.facts {ls : List Str} (h : LbsOk ls) : 1 ≤ ls.length ∧ ls.length ≤ 3 ∧ (∀ x ∈ ls, x ∈ L5) ∧ ls.Nodup := by
  obtain ⟨q, hq, e⟩ := h
  have c : q = 0 ∨ q = 1 ∨ q = 2 := by omega
  rcases c with rfl | rfl | rfl <;> rcases e with rfl | rfl <;> decide +kernel
theorem cut_lbs {r : Int} (h0 : 0 ≤ r) (h1 : r < 3) : ¬ (HT.sIx 4 0 none = 0 ∧ HT.sIx 4 4 (some (1 + r)) = 4) ∧ cutV [V.str "a", V.str "ab", V.str "b", V.str "abc"] none (some (1 + r)) = (lbs r.toNat).map V.str := by
  have c : r = 0 ∨ r = 1 ∨ r = 2 := by omega
  rcases c with rfl | rfl | rfl
  · exact ⟨by decide, rfl⟩
  · exact ⟨by decide, rfl⟩
  · exact ⟨by decide, rfl⟩
def M6 : List Str := ["", "a", "ab", "abc", "b", "bb", "c"]
def rk (x : Str) : Nat := M6.idxOf x
theorem rk_lt {x y : Str} (hx : x ∈ M6) (hy : y ∈ M6) (h : ltCps y.cps.toList x.cps.toList = false) (ne : x ≠ y) : rk x < rk y := by
  have z : (M6.all fun x => M6.all fun y => ltCps y.cps.toList x.cps.toList || x == y || decide (rk x < rk y)) = true := by decide +kernel
  have z1 := List.all_eq_true.mp (List.all_eq_true.mp z x hx) y hy
  rw [h, Bool.false_or, beq_eq_false_iff_ne.mpr ne, Bool.false_or, decide_eq_true_eq] at z1
  exact z1
theorem lt_rk {x y : Str} (hx : x ∈ M6) (hy : y ∈ M6) (h : rk x < rk y) : x.cps.toList < y.cps.toList ∧ y ≠ x := by
  have z : (M6.all fun x => M6.all fun y => !decide (rk x < rk y) || (decide (x.cps.toList < y.cps.toList) && !(y == x))) = true := by decide +kernel
  have z1 := List.all_eq_true.mp (List.all_eq_true.mp z x hx) y hy
  rw [decide_eq_true h, Bool.not_true, Bool.false_or, Bool.and_eq_true, decide_eq_true_eq, Bool.not_eq_true'] at z1
  exact ⟨z1.1, beq_eq_false_iff_ne.mp z1.2⟩
theorem rising_rk : ∀ (p : Str) (l : List Str), (∀ x ∈ p :: l, x ∈ M6) → (p :: l).Nodup → risingS p l = true → (p :: l).Pairwise (fun a b => rk a < rk b)
  | p, [], _, _, _ => List.pairwise_cons.mpr ⟨(fun x hx => nomatch hx), .nil⟩
  | p, x :: r, hm, nd, h => by
    have h2 : (!ltCps x.cps.toList p.cps.toList && risingS x r) = true := h
    rw [Bool.and_eq_true, Bool.not_eq_true'] at h2
    have nd2 := List.nodup_cons.mp nd
    have ih := rising_rk x r (fun y hy => hm y (List.mem_cons_of_mem _ hy)) nd2.2 h2.2
    have l1 : rk p < rk x := rk_lt (hm p List.mem_cons_self) (hm x (List.mem_cons_of_mem _ List.mem_cons_self)) h2.1 fun e => nd2.1 (by rw [e]; exact List.mem_cons_self)
    refine List.pairwise_cons.mpr ⟨fun y hy => ?_, ih⟩
    rcases List.mem_cons.mp hy with rfl | hy
    · exact l1
    · exact Nat.lt_trans l1 ((List.pairwise_cons.mp ih).1 y hy)
theorem sorted_rk {l : List Str} (hm : ∀ x ∈ l, x ∈ M6) (nd : l.Nodup) (h : sortedS l = true) : l.Pairwise (fun a b => rk a < rk b) := by
  cases l with
  | nil => exact .nil
  | cons p l => exact rising_rk p l hm nd h
theorem l5_m6 {x : Str} (h : x ∈ L5) : x ∈ M6 := by
  have z : (L5.all fun x => decide (x ∈ M6)) = true := by decide +kernel
  have z1 := List.all_eq_true.mp z x h
  exact of_decide_eq_true z1
/-- the order of two rows that are drawn -/
def Rr (a b : Rwt) : Prop := a.1.1 < b.1.1 ∨ (a.1.1 = b.1.1 ∧ rk a.1.2 < rk b.1.2 ∧ a.1.2 ∈ M6 ∧ b.1.2 ∈ M6)
theorem Rr.asc {a b : Rwt} (h : Rr a b) : lePair b.1 a.1 = false := by
  unfold lePair
  rcases h with h | ⟨h, hr, ha, hb⟩
  · rw [if_neg (by omega)]
    exact decide_eq_false (by omega)
  · obtain ⟨l1, l2⟩ := lt_rk ha hb hr
    rw [if_pos h.symm, if_neg l2, decide_eq_true l1]
    rfl
theorem sorted_tops {ls ys : List Str} (h : LbsOk ls) (pm : ys.Perm (ls ++ ([""] : List Str))) (st : sortedS ys = true) : ys.length = ls.length + 1 ∧ (∀ y ∈ ys, y = "" ∨ y ∈ ls) ∧ (∀ y ∈ ys, y ∈ M6) ∧ ys.Pairwise (fun a b => rk a < rk b) := by
  obtain ⟨_, _, f3, f4⟩ := h.facts
  have me : ∀ y ∈ ys, y = "" ∨ y ∈ ls := fun y hy => by
    rcases List.mem_append.mp (pm.mem_iff.mp hy) with q | q
    · exact .inr q
    · exact .inl (List.mem_singleton.mp q)
  have m6 : ∀ y ∈ ys, y ∈ M6 := fun y hy => by
    rcases me y hy with rfl | q
    · decide +kernel
    · exact l5_m6 (f3 y q)
  refine ⟨by rw [pm.length_eq, List.length_append]; rfl, me, m6, sorted_rk m6 (pm.nodup_iff.mpr ?_) st⟩
  rw [List.nodup_append]
  exact ⟨f4, List.nodup_cons.mpr ⟨by simp, List.nodup_nil⟩, fun a ha b hb e => (L5_of (f3 a ha)).2.2.2.2.2.1 (by rw [e]; exact List.mem_singleton.mp hb)⟩
theorem lab_read {K : PySem.W.Frag} {b : Bool} {σ : L2.St} {H : Hp} {Q : V → Hp → Prop} {m c g l : Addr} {n : Nat} {ls : List Str} (M : Ms H m c g n) (s6 : σ[6]? = some (some (.ref l))) (el : LbAt K H l ls)
    (k : ∀ (l2 : Addr) (H' : Hp) (ls2 : List Str), (ls2 = ls ∨ ls2 = ls.reverse) → LbAt K H' l2 ls2 → Kp H H' m g → Tk H H' → Ms H' m c g n → Q (.ref l2) H') :
    if b = true then tVar 6 σ H Q else tRevT K (tVar 6) (tPart (tUn (rU fun i => .int (-i)) (tC (.int 1)))) σ H Q := by
  cases b with
  | true => exact ⟨_, s6, k l H ls (.inl rfl) el (Kp.of fun _ _ e => e) (Tk.refl H) M⟩
  | false =>
    refine ⟨_, s6, 1, rfl, -1, rfl, rfl, l, _, rfl, el, fun p np => ?_⟩
    have sm : Same H (upd H p (.tup (ls.map V.str).reverse)) := same_upd np
    refine k p _ ls.reverse (.inr rfl) ?_ (Kp.of sm) (Tk.of sm) (M.same sm)
    have e : (ls.map V.str).reverse = ls.reverse.map V.str := List.map_reverse.symm
    rw [e]
    exact SqT.of upd_same
theorem s2le : 2 ≤ sizeLine := by rw [sizeLine_eq]; decide
theorem s1le : 1 ≤ sizeLine := by rw [sizeLine_eq]; decide
theorem s3le : 3 ≤ sizeLine := by rw [sizeLine_eq]; decide
theorem s4le : 4 ≤ sizeLine := by rw [sizeLine_eq]; decide
/-- a list changes: no tuple does -/
theorem tk_lst {H : Hp} {a : Addr} {xs : List V} {o : HO} (e : H a = some (.lst xs)) : Tk H (upd H a o) := fun b ys => by
  refine ⟨fun q => ?_, fun o' q => ?_⟩
  · rw [upd_ne (fun z => by rw [z, e] at q; cases q)]
    exact q
  · rw [upd_ne (fun z => by rw [z, e] at q; cases q)]
    exact q
theorem dp_prs {K : PySem.W.Frag} {H : Hp} : ∀ {ps : List Addr} {rd : List (Int × Int)}, Paired (fun q a => SqT K H q [.int a.1, .int a.2]) ps rd → DpAll K H (ps.map V.ref) (rd.map dPr)
  | _, _, .nil => .nil
  | _, _, .cons h r => .cons (.tup h (.cons (.int _) (.cons (.int _) .nil))) (dp_prs r)
/-- a row in the heap, its head's own tuple told -/
def HrT (K : PySem.W.Frag) (H : Hp) (a : Addr) (r : Rwt) : Prop := ∃ (h : Addr) (gv : V), SqT K H a [.ref h, gv] ∧ H h = some (.tup [.int r.1.1, .str r.1.2]) ∧ Dp K H gv (dGs r.2)
def HrAll (K : PySem.W.Frag) (H : Hp) (us : List V) (rs : List Rwt) : Prop := ∃ qs : List Addr, us = qs.map V.ref ∧ Paired (HrT K H) qs rs
theorem HrT.tk {K : PySem.W.Frag} {H H' : Hp} {a : Addr} {r : Rwt} (h : HrT K H a r) (t : Tk H H') : HrT K H' a r := by
  obtain ⟨h, gv, s, e, d⟩ := h
  exact ⟨h, gv, t.seq s, (t _ _).1 e, dp_tk t _ _ (flat_gs _) d⟩
theorem HrAll.nil {K : PySem.W.Frag} {H : Hp} : HrAll K H [] [] := ⟨[], rfl, .nil⟩
theorem HrAll.tk {K : PySem.W.Frag} {H H' : Hp} {us : List V} {rs : List Rwt} (h : HrAll K H us rs) (t : Tk H H') : HrAll K H' us rs := by
  obtain ⟨qs, e, p⟩ := h
  exact ⟨qs, e, paired_mono (fun _ _ z => z.tk t) p⟩
theorem HrAll.len {K : PySem.W.Frag} {H : Hp} {us : List V} {rs : List Rwt} (h : HrAll K H us rs) : us.length = rs.length := by
  obtain ⟨qs, rfl, p⟩ := h
  rw [List.length_map, paired_len p]
theorem HrAll.snoc {K : PySem.W.Frag} {H : Hp} {us : List V} {rs : List Rwt} {a : Addr} {r : Rwt} (h : HrAll K H us rs) (g : HrT K H a r) : HrAll K H (us ++ [.ref a]) (rs ++ [r]) := by
  obtain ⟨qs, rfl, p⟩ := h
  exact ⟨qs ++ [a], by rw [List.map_append]; rfl, Paired.snoc p g⟩
theorem HrT.dp {K : PySem.W.Frag} {H : Hp} {a : Addr} {r : Rwt} (h : HrT K H a r) : Dp K H (.ref a) (dRw r) := by
  obtain ⟨h, gv, s, e, d⟩ := h
  exact .tup s (.cons (.tup (SqT.of e) (.cons (.int _) (.cons (.str _) .nil))) (.cons d .nil))
theorem hr_dp {K : PySem.W.Frag} {H : Hp} : ∀ {qs : List Addr} {rs : List Rwt}, Paired (HrT K H) qs rs → DpAll K H (qs.map V.ref) (rs.map dRw)
  | _, _, .nil => .nil
  | _, _, .cons h t => .cons h.dp (hr_dp t)
theorem HrAll.dp {K : PySem.W.Frag} {H : Hp} {us : List V} {rs : List Rwt} (h : HrAll K H us rs) : DpAll K H us (rs.map dRw) := by
  obtain ⟨qs, rfl, p⟩ := h
  exact hr_dp p
theorem Rr.ne {a b : Rwt} (h : Rr a b) : a.1 ≠ b.1 := fun e => by
  rcases h with h | ⟨_, h, _⟩
  · rw [e] at h
    exact Int.lt_irrefl _ h
  · rw [e] at h
    exact Nat.lt_irrefl _ h
/-- a drawn net in the heap, its rows' tuple and heads told as they are -/
def NetZ (K : PySem.W.Frag) (H : Hp) (v : V) (n : Nt) : Prop := ∃ (p r l w : Addr) (o : Obj) (qs : List Addr), v = .ref p ∧ SqT K H p [.ref r, .ref l, .ref w] ∧ H w = some (.frz o (.tup (qs.map V.ref))) ∧ o.dict = none ∧ Paired (HrT K H) qs n.rows ∧ n.rows.Pairwise fun a b => a.1 ≠ b.1
theorem NetZ.tk {K : PySem.W.Frag} {H H' : Hp} {v : V} {n : Nt} (h : NetZ K H v n) (t : Tk H H') : NetZ K H' v n := by
  obtain ⟨p, r, l, w, o, qs, e, s, ew, od, pr, nd⟩ := h
  exact ⟨p, r, l, w, o, qs, e, t.seq s, (t _ _).2 _ ew, od, paired_mono (fun _ _ z => z.tk t) pr, nd⟩
def spLN (K : PySem.W.Frag) : Sp := fun vs H Q _ => ∃ (m c g : Addr) (n : Nat) (R S : Int), vs = [.ref m, .int R, .int S, .int 3] ∧ Ms H m c g n ∧ n + 6000 < 100000 ∧ 1 ≤ R ∧ R ≤ 10 ∧ 1 ≤ S ∧ S ≤ 8 ∧
  ∀ (v : V) (H' : Hp) (N : Nt) (n' : Nat), Kp H H' m g → Ms H' m c g n' → n' ≤ n + 5000 → (N.roads.length : Int) ≤ R → Dp K H' v (dNt N) → NtOk N → LbsOk N.labels → NetZ K H' v N → Q v H'
end Lr

namespace Lr
open PySem PySem.Spec PyProof.Rows L2

/-top-/
theorem walk_zipT {K : PySem.W.Frag} {a b : Addr} {xs ys : List V} {n : Nat} (hn : n = min xs.length ys.length) : Walk (RZ.ItzT K a b) n (fun H => SqT K H a xs ∧ SqT K H b ys) (YPair (fun i => xs[i]?) (fun i => ys[i]?)) := by
  subst hn
  refine ⟨fun i H hi q => ⟨xs, ys, xs[i]'(by omega), ys[i]'(by omega), q.1, q.2, by simp, by simp⟩, fun H q => ⟨xs, ys, q.1, q.2, by omega⟩, fun i H x H' _ q y => ?_⟩
  obtain ⟨T, u, z, e1, n, e2, all1, all2⟩ := y
  exact ⟨T, u, z, e1, n, e2, all1 xs q.1, all2 ys q.2⟩
theorem all_true (n : Nat) : (List.replicate n true).all id = true := by
  rw [List.all_eq_true]
  intro b hb
  rw [List.eq_of_mem_replicate hb]
  rfl
theorem repl_snoc (i : Nat) : (List.replicate (i + 1) true).map V.bl = (List.replicate i true).map V.bl ++ [V.bl true] := by
  rw [List.replicate_succ', List.map_append]
  rfl
theorem rest_read {K : PySem.W.Frag} {H : Hp} {p : Addr} {xs : List V} {Q : V → Hp → Prop} (ep : SqT K H p xs) (k : ∀ (q : Addr) (H' : Hp), Same H H' → SqT K H' q (xs.drop 1) → Q (.ref q) H') : rSlA K (.ref p) (some 1) none H Q := by
  have z0 : HT.sIx xs.length xs.length none = xs.length := rfl
  refine ⟨p, xs, rfl, ep, fun h => ?_, fun h q nq => ?_⟩
  · refine k p H (Same.refl H) ?_
    cases xs with
    | nil => exact ep
    | cons x r =>
      have z : HT.sIx (x :: r).length 0 (some 1) = 1 := by
        unfold HT.sIx
        simp
      rw [z] at h
      exact absurd h.1 (by decide)
  · have c : cutV xs (some 1) none = xs.drop 1 := by
      unfold cutV
      rw [z0]
      cases xs with
      | nil => rfl
      | cons x r =>
        have z : HT.sIx (x :: r).length 0 (some 1) = 1 := by
          unfold HT.sIx
          simp
        rw [z]
        exact List.take_of_length_le (by rw [List.length_drop]; exact Nat.le_refl _)
    rw [c]
    exact k q _ (same_upd nq) (SqT.of upd_same)
/-- failed roads as they may be asked -/
def FlOk (fl : List Int) (n : Nat) : Prop := fl.Pairwise (· < ·) ∧ (∀ z ∈ fl, 0 ≤ z ∧ z < (n : Int)) ∧ fl.length ≤ n
def spAs (K : PySem.W.Frag) : Sp := fun vs H Q _ => ∃ (p : Addr) (fl : List Int), vs = [.ref p] ∧ SqT K H p (fl.map V.int) ∧ fl.length ≤ 10 ∧ fl.Pairwise (· < ·) ∧ ∀ H', Same H H' → Q (.bl true) H'
def spFa (K : PySem.W.Frag) : Sp := fun vs H Q _ => ∃ (r p : Addr) (xs : List V) (fl : List Int), vs = [.ref r, .ref p] ∧ SqT K H r xs ∧ xs.length ≤ 10 ∧ SqT K H p (fl.map V.int) ∧ FlOk fl xs.length ∧ ∀ H', Same H H' → Q (.bl true) H'
def spNF (K : PySem.W.Frag) : Sp := fun vs H Q _ => ∃ (n r p : Addr) (a b : V) (xs : List V) (fl : List Int), vs = [.ref n, .ref p] ∧ SqT K H n [.ref r, a, b] ∧ SqT K H r xs ∧ xs.length ≤ 10 ∧ SqT K H p (fl.map V.int) ∧ FlOk fl xs.length ∧ ∀ H', Same H H' → Q .non H'
section
variable {P : Program} {w : World} {K : PySem.W.Frag} {mg : Str → Option Value} {base : Heap}
theorem scAs : FnScope ["values", "low", "high"] ["values"] (defScope sAs) := ⟨rfl, rfl, rfl, by decide +kernel, rfl, by decide +kernel, by decide +kernel⟩
theorem scFa : FnScope ["roads", "value", "road"] ["roads", "value"] (defScope sFa) := ⟨rfl, rfl, rfl, by decide +kernel, rfl, by decide +kernel, by decide +kernel⟩
theorem scNF : FnScope ["net", "failed"] ["net", "failed"] (defScope sNF) := ⟨rfl, rfl, rfl, by decide +kernel, rfl, by decide +kernel, by decide +kernel⟩
theorem ok_As {f : Addr} {fd : FuncData} (F : Fun K "is_ascending" "is_ascending" sAs f fd) (T : Bt mg) : FnOk P w K mg base CX0 1 f fd ["values"] (spAs K) := by
  refine F.ok scAs (fun vs H Q E h => ?_) (fun cdv A outer s H vs Q E hr h => ?_)
  · obtain ⟨p, fl, rfl, ep, few, asc, k⟩ := h
    rfl
  · obtain ⟨p, fl, rfl, ep, few, asc, k⟩ := h
    refine ⟨_, pss_one (ps_ret (pe_callB (cr_all rfl) (by rfl) T.all (by decide +kernel) (pa_cons (pe_lc (own := [("low", 1), ("high", 2)]) (g := gTup K 2 (gCons (gName 1) (gCons (gName 2) gNil))) (tt := tYes) rfl scAs.nd (RZ.pi_zipA (by rfl) T.zip (pa_cons (pv 0) (pa_cons (pe_slice sl_tupA (pv 0) (po_some pe_int) po_none) pa_nil))) (blkOk_by (N := ["values", "low", "high"]) (sc := defScope sAs) (by decide +kernel)) (fun _ _ _ _ _ => pg_tupK (K := K) rfl (pgs_cons (pg_name (i := 1) scAs.nd rfl (.inl rfl)) (pgs_cons (pg_name (i := 2) scAs.nd rfl (.inl rfl)) pgs_nil))) (fun _ _ _ _ _ => pts_nil)
        (fun _ _ _ _ _ => pe_cmpR op_lt (pv 1) (pv 2) (nomark _))) pa_nil))), ?_⟩
    refine ⟨_, rfl, _, rfl, 1, rfl, ?_⟩
    unfold tNoPart
    refine rest_read ep fun q H1 s1 eq => ?_
    refine ⟨p, q, _, _, rfl, .inr ⟨(Tk.of s1).seq ep, eq, fun D nD => ?_⟩⟩
    refine lc_it (walk_zipT (xs := fl.map V.int) (ys := (fl.map V.int).drop 1) (n := fl.length - 1) (by rw [List.length_drop, List.length_map]; omega)) (fun i H' => H' D = some (.lst ((List.replicate i true).map V.bl)) ∧ Same H1 H' ∧ i ≤ 10) ⟨upd_same, same_upd nD, by decide⟩ (fun i H' _ ⟨_, sm, _⟩ => ⟨((Tk.of s1).trans (Tk.of sm)).seq ep, (Tk.of sm).seq eq⟩) ?_ ?_
    · rintro i x H3 H4 hi ⟨eD, sm, i10⟩ ⟨t, x1, x2, rfl, nt, rfl, e1, e2⟩
      dsimp only at e1 e2
      rw [List.getElem?_map, Option.map_eq_some_iff] at e1
      rw [List.getElem?_drop, List.getElem?_map, Option.map_eq_some_iff] at e2
      obtain ⟨u, hu, rfl⟩ := e1
      obtain ⟨v, hv, rfl⟩ := e2
      have st : Same H3 (upd H3 t (.tup [.int u, .int v])) := same_upd nt
      refine ⟨t, _, rfl, SqT.of upd_same, rfl, _, _, rfl, _, _, rfl, rfl, rfl, yes_of ?_⟩
      obtain ⟨w1, w2⟩ := List.getElem?_eq_some_iff.mp hu
      obtain ⟨w3, w4⟩ := List.getElem?_eq_some_iff.mp hv
      have lt := List.pairwise_iff_getElem.mp asc i (1 + i) w1 w3 (by omega)
      rw [w2, w4] at lt
      refine ⟨_, rfl, _, rfl, _, _, rfl, rfl, ?_⟩
      dsimp only
      rw [decide_eq_true lt]
      refine ⟨_, st _ _ eD, by rw [List.length_map, List.length_replicate, sizeLine_eq]; omega, by rw [upd_same, repl_snoc], fun b o e => by rw [upd_ne (ne_of_none e nD)]; exact st _ _ (sm b o e), by omega⟩
    rintro H2 ⟨eD, sm, _⟩
    refine ⟨D, _, rfl, SqL.of eD, ?_⟩
    rw [all_true]
    exact k H2 (s1.trans sm)
theorem ok_Fa {f : Addr} {fd : FuncData} {fTu : Addr} {fdTu : FuncData} {fRd : Addr} {fdRd : FuncData} {fAs : Addr} {fdAs : FuncData} (F : Fun K "is_failed" "is_failed" sFa f fd) (T : Bt mg) (CTu : Cal K mg "is_tuple" fTu fdTu ["value", "least", "greatest"]) (GTu : FnOk P w K mg base CX0 1 fTu fdTu ["value", "least", "greatest"] (spTu K)) (CRd : Cal K mg "is_road" fRd fdRd ["roads", "value"]) (GRd : FnOk P w K mg base CX0 2 fRd fdRd ["roads", "value"] (spRd K)) (CAs : Cal K mg "is_ascending" fAs fdAs ["values"]) (GAs : FnOk P w K mg base CX0 1 fAs fdAs ["values"] (spAs K)) : FnOk P w K mg base CX0 3 f fd ["roads", "value"] (spFa K) := by
  refine F.ok scFa (fun vs H Q E h => ?_) (fun cdv A outer s H vs Q E hr h => ?_)
  · obtain ⟨r, p, xs, fl, rfl, er, few, ep, ok, k⟩ := h
    rfl
  · obtain ⟨r, p, xs, fl, rfl, er, few, ep, ok, k⟩ := h
    have hr1 : Room 1 (A.deeper (envOfC "is_failed" (defScope sFa) s.heap.objs.size f cdv)) := Room.mono hr (by decide)
    have hr2 : Room 2 (A.deeper (envOfC "is_failed" (defScope sFa) s.heap.objs.size f cdv)) := Room.mono hr (by decide)
    refine ⟨_, pss_one (ps_ret (pe_and (pe_call GTu hr1 (by rfl) CTu.g CTu.k CTu.b .nil pass0 (pa_cons (pv 1) (pa_cons pe_int (pa_cons (pe_callB call_len_seq (by rfl) T.len PySem.boot_len (pa_cons (pv 0) pa_nil)) pa_nil)))) (pe_and (pe_callB (cr_all rfl) (by rfl) T.all (by decide +kernel) (pa_cons (pe_lc (own := [("road", 2)]) (g := gName 2) (tt := tYes) rfl scFa.nd (pi_tup (pv 1)) (blkOk_by (N := ["roads", "value", "road"]) (sc := defScope sFa) (by decide +kernel)) (fun _ _ _ _ _ => pg_name (i := 2) scFa.nd rfl (.inl rfl)) (fun _ _ _ _ _ => pts_nil)
        (fun _ _ _ _ _ => (pe_call GRd hr2 (by rfl) CRd.g CRd.k CRd.b .nil pass0 (pa_cons (pv 0) (pa_cons (pv 2) pa_nil))))) pa_nil)) (pe_one (pe_call GAs hr1 (by rfl) CAs.g CAs.k CAs.b .nil pass0 (pa_cons (pv 1) pa_nil)))))), ?_⟩
    refine ⟨_, rfl, _, rfl, r, _, rfl, .inr er, .ref p, _, _, rfl, .inl ⟨p, _, rfl, ep, by show (0 : Int) ≤ _; omega, _, rfl, ?_⟩⟩
    rw [decide_eq_true (by rw [List.length_map]; have z := ok.2.2; omega)]
    refine iteT ?_
    refine ⟨_, rfl, p, rfl, ⟨_, ep⟩, fun D nD => ?_⟩
    refine lc_tup (K := K) (a := p) (xs := fl.map V.int) (fun i H' => H' D = some (.lst ((List.replicate i true).map V.bl)) ∧ Same H H' ∧ i ≤ 10) ⟨upd_same, same_upd nD, by decide⟩ (fun i H' _ ⟨_, sm, _⟩ => (Tk.of sm).seq ep) ?_ ?_
    · rintro i z H' hi ⟨eD, sm, i3⟩
      rw [List.getElem?_map, Option.map_eq_some_iff] at hi
      obtain ⟨v, hv, rfl⟩ := hi
      have il := (List.getElem?_eq_some_iff.mp hv).1
      obtain ⟨v0, v1⟩ := ok.2.1 v (List.mem_of_getElem? hv)
      have l3 := ok.2.2
      refine ⟨rfl, yes_of ?_⟩
      refine ⟨_, rfl, _, rfl, r, xs, v, rfl, (Tk.of sm).seq er, v0, v1, ?_⟩
      refine ⟨_, eD, by rw [List.length_map, List.length_replicate, sizeLine_eq]; omega, by rw [upd_same, repl_snoc], fun b o e => by rw [upd_ne (ne_of_none e nD)]; exact sm b o e, by omega⟩
    rintro H' ⟨eD, sm, _⟩
    refine ⟨D, _, rfl, SqL.of eD, ?_⟩
    rw [all_true]
    refine ⟨_, rfl, iteT ?_⟩
    exact ⟨_, rfl, p, fl, rfl, (Tk.of sm).seq ep, by have z := ok.2.2; omega, ok.1, fun H2 s2 => k H2 (sm.trans s2)⟩
theorem ok_NF {f : Addr} {fd : FuncData} {fFa : Addr} {fdFa : FuncData} (F : Fun K "need_failed" "need_failed" sNF f fd) (T : Bt mg) (CFa : Cal K mg "is_failed" fFa fdFa ["roads", "value"]) (GFa : FnOk P w K mg base CX0 3 fFa fdFa ["roads", "value"] (spFa K)) : FnOk P w K mg base CX0 4 f fd ["net", "failed"] (spNF K) := by
  refine F.ok scNF (fun vs H Q E h => ?_) (fun cdv A outer s H vs Q E hr h => ?_)
  · obtain ⟨n, r, p, a, b, xs, fl, rfl, en, er, few, ep, ok, k⟩ := h
    rfl
  · obtain ⟨n, r, p, a, b, xs, fl, rfl, en, er, few, ep, ok, k⟩ := h
    have hr3 : Room 3 (A.deeper (envOfC "need_failed" (defScope sNF) s.heap.objs.size f cdv)) := Room.mono hr (by decide)
    refine ⟨_, pss_one (ps_if (pt_not (pt_val (pe_call GFa hr3 (by rfl) CFa.g CFa.k CFa.b .nil pass0 (pa_cons (pe_ix ix_tup (pv 0) pe_int (fun _ _ => rfl)) (pa_cons (pv 1) pa_nil))))) (pss_one ps_never) pss_nil), ?_⟩
    refine ⟨_, rfl, n, _, _, _, rfl, rfl, en, rfl, _, rfl, r, p, xs, fl, rfl, er, few, ep, ok, fun H' sm => ⟨_, rfl, iteF ?_⟩⟩
    exact k H' sm
end
end Lr

namespace Lr
open PySem PySem.Spec PyProof.Rows L2

/-top-/
theorem notinSK {X : Cx} {K : PySem.W.Frag} (h : X.K = K := by rfl) : OpR X (compareOp .NotIn) (rIn K true) := h ▸ op_notIn_seq
theorem inV_ints (y : Int) : ∀ ls : List Int, inV (V.int y) (ls.map V.int) = decide (y ∈ ls)
  | [] => rfl
  | l :: ls => by
    have ih := inV_ints y ls
    unfold inV at ih ⊢
    rw [List.map_cons, List.any_cons, ih]
    have z : eqV (V.int l) (V.int y) = decide (l = y) := by
      simp only [eqV]
      exact Bool.beq_eq_decide_eq l y
    rw [z, Bool.eq_iff_iff, Bool.or_eq_true, decide_eq_true_eq, decide_eq_true_eq, decide_eq_true_eq, List.mem_cons]
    exact ⟨fun h => h.elim (fun e => .inl e.symm) .inr, fun h => h.elim (fun e => .inl e.symm) .inr⟩
theorem flat_ints : ∀ ls : List Int, (ls.map V.int).all flatV = true
  | [] => rfl
  | l :: ls => by
    rw [List.map_cons, List.all_cons, flat_ints ls]
    rfl
theorem alike_strs : ∀ us ws : List Str, PySem.W.alikeAll (us.map PyData.str) (ws.map PyData.str) = true
  | [], _ => by
    unfold PySem.W.alikeAll
    rfl
  | _ :: _, [] => by
    show PySem.W.alikeAll (PyData.str _ :: _) [] = true
    unfold PySem.W.alikeAll
    rfl
  | u :: us, w :: ws => by
    show PySem.W.alikeAll (PyData.str u :: us.map PyData.str) (PyData.str w :: ws.map PyData.str) = true
    unfold PySem.W.alikeAll
    rw [alike_strs us ws]
    rfl
theorem alike_ch (c d : Chc) : PySem.W.alike (dCh c) (dCh d) = true := by
  show PySem.W.alike (.tuple [.int c.1, .tuple (c.2.map .str)]) (.tuple [.int d.1, .tuple (d.2.map .str)]) = true
  simp only [PySem.W.alike, PySem.W.alikeAll, alike_strs, Bool.and_true, Bool.true_and]
/-- the groups of a head, as groups_at tells them -/
def atHd (rows : List Rwt) (h : Hd) : PyData := match rows.find? (fun r => decide (r.1 = h)) with
  | some r => dGs r.2
  | none => .tuple []
def freeOf (fl : List Int) (g : Gr) : Gr := g.filter fun c => !decide (c.1 ∈ fl)
def leCh (c d : Chc) : Bool := dle (dCh c) (dCh d)
def movesGo (fl : List Int) : List Gr → Gr
  | [] => []
  | g :: gs => if freeOf fl g = [] then movesGo fl gs else (freeOf fl g).mergeSort leCh
/-- the choices that can be taken, in their order -/
def moves (rows : List Rwt) (fl : List Int) (h : Hd) : Gr := match rows.find? (fun r => decide (r.1 = h)) with
  | some (_, some gs) => movesGo fl gs
  | _ => []
theorem eqv_hd (a b : Hd) : PyData.eqv (dHd a) (dHd b) = decide (a = b) := by
  show ((a.1 == b.1) && ((a.2 == b.2) && true)) = decide (a = b)
  rw [Bool.and_true, Bool.eq_iff_iff, Bool.and_eq_true, beq_iff_eq, beq_iff_eq, decide_eq_true_eq]
  constructor
  · rintro ⟨h1, h2⟩
    exact Prod.ext h1 h2
  · rintro rfl
    exact ⟨rfl, rfl⟩
theorem sg_lay {ls : List Str} (l5 : ∀ x ∈ ls, x ∈ L5) {y : Str} (h : y = "" ∨ y ∈ ls) : PyData.strOk y = true := by
  rcases h with rfl | h
  · decide +kernel
  · exact L5_lay (l5 y h)
theorem shaped_hd {a : Hd} (h : PyData.strOk a.2 = true) : SeqAt.shaped (dHd a) = true := by
  have e : (dHd a).canLay0 = true := by
    show (true && (PyData.strOk a.2 && true)) = true
    rw [h]
    rfl
  unfold SeqAt.shaped
  rw [e]
  rfl
theorem lay_gs {ls : List Str} (l5 : ∀ x ∈ ls, x ∈ L5) {rd : List (Int × Int)} {road : Int} : ∀ {gs : List Gr}, (∀ g ∈ gs, GrOk rd ls road g) → PyData.canLayAll0 (gs.map dGr) = true ∧ PyData.depthAll (gs.map dGr) ≤ 3
  | [], _ => ⟨rfl, Nat.zero_le _⟩
  | g :: gs, h => by
    obtain ⟨h1, h2⟩ := lay_gs l5 (gs := gs) fun d hd => h d (List.mem_cons_of_mem _ hd)
    obtain ⟨q1, q2⟩ := shaped_chs (cs := g) fun c hc x hx => l5 x (((h g List.mem_cons_self).2.2.1 c hc).2.2.2.2 x hx)
    refine ⟨?_, ?_⟩
    · show (PyData.canLayAll0 (g.map dCh) && PyData.canLayAll0 (gs.map dGr)) = true
      rw [q1, h1]
      rfl
    · show max (PyData.depthAll (g.map dCh) + 1) (PyData.depthAll (gs.map dGr)) ≤ 3
      omega
theorem shaped_gs {ls : List Str} (l5 : ∀ x ∈ ls, x ∈ L5) {rd : List (Int × Int)} {road : Int} : ∀ {gs : Gs}, GsOk rd ls road gs → SeqAt.shaped (dGs gs) = true
  | none, _ => by decide +kernel
  | some gs, h => by
    obtain ⟨q1, q2⟩ := lay_gs l5 h.2.2
    unfold SeqAt.shaped
    rw [Bool.and_eq_true, decide_eq_true_eq]
    refine ⟨q1, ?_⟩
    show PyData.depthAll (gs.map dGr) + 1 ≤ 64
    omega
/-- the parts of a net in the heap -/
theorem net_parts {K : PySem.W.Frag} {H : Hp} {v : V} {n : Nt} (h : Dp K H v (dNt n)) : ∃ (p r l w : Addr) (ps : List Addr), v = .ref p ∧ SqT K H p [.ref r, .ref l, .ref w] ∧ RdAt K H r n.roads ∧ LbAt K H l n.labels ∧ SqT K H w (ps.map V.ref) ∧ Paired (fun q a => Dp K H (.ref q) (dRw a)) ps n.rows := by
  obtain ⟨p, xs, rfl, ep, dxs⟩ := dp_of_tup h
  cases dxs with
  | cons d1 dxs =>
    cases dxs with
    | cons d2 dxs =>
      cases dxs with
      | cons d3 dxs =>
        cases dxs
        obtain ⟨r, _, rfl, _, _⟩ := dp_of_tup d1
        obtain ⟨l, ys, rfl, el, dl⟩ := dp_of_tup d2
        obtain ⟨w, zs, rfl, ew, dw⟩ := dp_of_tup d3
        have eys := strs_dp dl
        subst eys
        obtain ⟨ps, rfl, pr⟩ := refs_of dRw (fun a => ⟨_, rfl⟩) dw
        exact ⟨p, r, l, w, ps, rfl, ep, d1, el, ew, pr⟩
def spGA (K : PySem.W.Frag) : Sp := fun vs H Q _ => ∃ (x : V) (h : Addr) (n : Nt) (i : Int) (y : Str), vs = [x, .ref h] ∧ Dp K H x (dNt n) ∧ NtOk n ∧ SqT K H h [.int i, .str y] ∧ (y = "" ∨ y ∈ n.labels) ∧ ∀ H' v, Same H H' → Dp K H' v (atHd n.rows (i, y)) → Q v H'
def spFC (K : PySem.W.Frag) : Sp := fun vs H Q _ => ∃ (x : V) (f h : Addr) (n : Nt) (fl : List Int) (i : Int) (y : Str), vs = [x, .ref f, .ref h] ∧ Dp K H x (dNt n) ∧ NtOk n ∧ SqT K H f (fl.map V.int) ∧ SqT K H h [.int i, .str y] ∧ (y = "" ∨ y ∈ n.labels) ∧
  ∀ H' p, Same H H' → Dp K H' (.ref p) (.tuple ((moves n.rows fl (i, y)).map dCh)) → Q (.ref p) H'
section
variable {P : Program} {w : World} {K : PySem.W.Frag} {mg : Str → Option Value} {base : Heap}
theorem scGA : FnScope ["net", "head", "row_head", "groups"] ["net", "head"] (defScope sGA) := ⟨rfl, rfl, rfl, by decide +kernel, rfl, by decide +kernel, by decide +kernel⟩
theorem scFC : FnScope ["net", "failed", "head", "groups", "group", "free", "choice"] ["net", "failed", "head"] (defScope sFC) := ⟨rfl, rfl, rfl, by decide +kernel, rfl, by decide +kernel, by decide +kernel⟩
theorem ok_GA {f : Addr} {fd : FuncData} (F : Fun K "groups_at" "groups_at" sGA f fd) (T : Bt mg) : FnOk P w K mg base CX0 1 f fd ["net", "head"] (spGA K) := by
  refine F.ok scGA (fun vs H Q E h => ?_) (fun cdv A outer s H vs Q E hr h => ?_)
  · obtain ⟨x, h, n, i, y, rfl, dx, ok, eh, hy, k⟩ := h
    rfl
  · obtain ⟨x, h, n, i, y, rfl, dx, ok, eh, hy, k⟩ := h
    have hu64 : (A.deeper (envOfC "groups_at" (defScope sGA) s.heap.objs.size f cdv)).units + 64 < cLine := by
      have z := hr.un
      omega
    refine ⟨_, (pss_cons (ps_for PassesOwn.never rfl (pi_tup (pe_ix ix_tup (pv 0) pe_int (fun _ _ => rfl))) (pg_tup (by rfl) (pgs_cons (pg_name (i := 2) scGA.nd rfl (.inl rfl)) (pgs_cons (pg_name (i := 3) scGA.nd rfl (.inl rfl)) pgs_nil))) (pss_one (ps_if (pt_cmpR (op_eqD hu64) (pv 2) (pv 1) (nomark _)) (pss_one (ps_ret (pv 3))) pss_nil)))
      (pss_one (ps_ret (pe_tup pa_nil)))), ?_⟩
    obtain ⟨pn, r, l, w, ps, rfl, en, er, el, ew, pr⟩ := net_parts dx
    refine ⟨_, rfl, pn, _, _, _, rfl, rfl, en, rfl, w, rfl, ⟨_, ew⟩, ?_⟩
    refine for_tup (K := K) (xs := ps.map V.ref) (fun j σ H' => ∃ (u2 u3 : Option V), σ = [some (.ref pn), some (.ref h), u2, u3] ∧ Same H H' ∧ ∀ q ∈ n.rows.take j, q.1 ≠ (i, y)) ⟨_, _, rfl, Same.refl _, fun q hq => by
      rw [List.take_zero] at hq
      cases hq⟩ (fun j σ H' _ ⟨_, _, _, sm, _⟩ => (Tk.of sm).seq ew) ?_ ?_
    · rintro j x σ H' hx ⟨u2, u3, rfl, sm, no⟩
      rw [List.getElem?_map, Option.map_eq_some_iff] at hx
      obtain ⟨a, ha, rfl⟩ := hx
      obtain ⟨q, hq, dq⟩ := paired_get pr j a ha
      obtain ⟨a', zs, ea, sa, dzs⟩ := dp_of_tup dq
      cases ea
      cases dzs with
      | cons d1 dzs =>
        cases dzs with
        | cons d2 dzs =>
          cases dzs
          have qok := ok.ro q (List.mem_of_getElem? hq)
          refine ⟨a, _, rfl, (Tk.of sm).seq sa, rfl, _, _, rfl, _, _, rfl, rfl, ?_⟩
          refine ⟨_, rfl, _, rfl, dHd q.1, dHd (i, y), dp_tk (Tk.of sm) _ _ (flat_hd _) d1, .tup ((Tk.of sm).seq eh) (.cons (.int _) (.cons (.str _) .nil)), shaped_hd (sg_lay ok.lw qok.2.2.1), shaped_hd (sg_lay ok.lw hy), _, rfl, ?_⟩
          rw [eqv_hd]
          by_cases e : q.1 = (i, y)
          · refine ifT (decide_eq_true e) ⟨_, rfl, k H' _ sm ?_⟩
            have fnd : n.rows.find? (fun r => decide (r.1 = (i, y))) = some q := by
              obtain ⟨w1, w2⟩ := List.getElem?_eq_some_iff.mp hq
              refine List.find?_eq_some_iff_getElem.mpr ⟨decide_eq_true e, j, w1, w2, fun m hm => ?_⟩
              have z := no n.rows[m] (List.mem_iff_getElem?.mpr ⟨m, by rw [List.getElem?_take, if_pos hm]; exact List.getElem?_eq_getElem (by omega)⟩)
              rw [decide_eq_false z]
              rfl
            unfold atHd
            rw [fnd]
            exact dp_tk (Tk.of sm) _ _ (flat_gs _) d2
          · refine ifF (decide_eq_false e) ⟨_, _, rfl, sm, fun z hz => ?_⟩
            rw [mem_take_succ hq] at hz
            rcases List.mem_append.mp hz with hz | hz
            · exact no z hz
            · rw [List.mem_singleton.mp hz]
              exact e
    rintro σ H' ⟨u2, u3, rfl, sm, no⟩
    refine ⟨Nat.zero_le _, fun p np => k _ _ (sm.trans (same_upd np)) ?_⟩
    have len := paired_len pr
    rw [List.length_map, len, List.take_length] at no
    have fnd : n.rows.find? (fun r => decide (r.1 = (i, y))) = none := List.find?_eq_none.mpr fun q hq => by
      rw [decide_eq_false (no q hq)]
      exact Bool.false_ne_true
    unfold atHd
    rw [fnd]
    exact .tup (SqT.of upd_same) .nil
theorem ok_FC {f : Addr} {fd : FuncData} {fGA : Addr} {fdGA : FuncData} (F : Fun K "free_choices" "free_choices" sFC f fd) (T : Bt mg) (CGA : Cal K mg "groups_at" fGA fdGA ["net", "head"]) (GGA : FnOk P w K mg base CX0 1 fGA fdGA ["net", "head"] (spGA K)) : FnOk P w K mg base CX0 2 f fd ["net", "failed", "head"] (spFC K) := by
  refine F.ok scFC (fun vs H Q E h => ?_) (fun cdv A outer s H vs Q E hr h => ?_)
  · obtain ⟨x, fa, h, n, fl, i, y, rfl, dx, ok, ef, eh, hy, k⟩ := h
    rfl
  · obtain ⟨x, fa, h, n, fl, i, y, rfl, dx, ok, ef, eh, hy, k⟩ := h
    have hr1 : Room 1 (A.deeper (envOfC "free_choices" (defScope sFC) s.heap.objs.size f cdv)) := Room.mono hr (by decide)
    have hu64 : (A.deeper (envOfC "free_choices" (defScope sFC) s.heap.objs.size f cdv)).units + 64 < cLine := by
      have z := hr.un
      omega
    refine ⟨_, (pss_cons (ps_set (i := 3) scFC.nd rfl (.inl rfl) (pe_call GGA hr1 (by rfl) CGA.g CGA.k CGA.b .nil pass0 (pa_cons (pv 0) (pa_cons (pv 2) pa_nil))))
      (pss_cons (ps_if (pt_cmpR (op_eqD hu64) (pv 3) pe_str (nomark _)) (pss_one (ps_ret (pe_tup pa_nil))) pss_nil)
      (pss_cons (ps_for PassesOwn.never rfl (pi_tup (pv 3)) (pg_name (i := 4) scFC.nd rfl (.inl rfl)) (pss_cons (ps_setLc (i := 5) (own := [("choice", 6)]) (g := gName 6) (tt := _) rfl scFC.nd rfl rfl (sw_true rfl rfl rfl (by decide +kernel)) (pi_tup (pv 4)) (blkOk_by (N := ["net", "failed", "head", "groups", "group", "free", "choice"]) (sc := defScope sFC) (by decide +kernel)) (fun _ _ _ _ _ => pg_name (i := 6) scFC.nd rfl (.inl rfl)) (fun _ _ _ _ _ => pts_one (pt_cmpR (notinSK (K := K)) (pe_ix (ixT (K := K)) (pv 6) pe_int (fun _ _ => rfl)) (pv 1) (by rfl))) (fun _ _ _ _ _ => pv 6)) (pss_one (ps_if (pt_truth (pv 5) (fun _ => rfl)) (pss_one (ps_ret (pe_callTy call_tuple_of (by rfl) T.tuple (by decide +kernel) (pa_cons (pe_callB (cr_sortedD hu64) (by rfl) T.sorted (by decide +kernel) (pa_cons (pv 5) pa_nil)) pa_nil)))) pss_nil))))
      (pss_one (ps_ret (pe_tup pa_nil)))))), ?_⟩
    refine ⟨_, rfl, _, rfl, x, h, n, i, y, rfl, dx, ok, eh, hy, fun H1 gv s1 dg => ?_⟩
    have unf : ∀ z : Gr, z = moves n.rows fl (i, y) → ∀ H' p, Same H H' → Dp K H' (.ref p) (.tuple (z.map dCh)) → Q (.ref p) H' := fun z e H' p sm dp => k H' p sm (by rw [← e]; exact dp)
    have nil_ret : ∀ H' : Hp, Same H H' → [] = moves n.rows fl (i, y) → tTup tNil [some x, some (.ref fa), some (.ref h), some gv, none, none, none] H' Q := fun H' sm e => ⟨Nat.zero_le _, fun p np => unf [] e _ p (sm.trans (same_upd np)) (.tup (SqT.of upd_same) .nil)⟩
    unfold atHd at dg
    unfold moves at unf nil_ret
    cases fnd : n.rows.find? (fun r => decide (r.1 = (i, y))) with
    | none =>
      rw [fnd] at dg unf nil_ret
      refine ⟨_, rfl, .tuple [], .str "home", dg, .str _, by decide +kernel, by decide +kernel, _, rfl, ifF rfl ?_⟩
      obtain ⟨w, xs, rfl, ew, dxs⟩ := dp_of_tup dg
      cases dxs
      refine ⟨_, rfl, w, rfl, ⟨_, ew⟩, ?_⟩
      refine for_tup (K := K) (xs := []) (fun j σ H' => σ = [some x, some (.ref fa), some (.ref h), some (.ref w), none, none, none] ∧ Same H1 H') ⟨rfl, Same.refl _⟩ (fun j σ H' hj ⟨_, sm⟩ => (Tk.of sm).seq ew) (fun j x σ H' hx => (nomatch hx)) ?_
      · rintro σ H' ⟨rfl, sm⟩
        exact nil_ret H' (s1.trans sm) rfl
    | some q =>
      rw [fnd] at dg unf nil_ret
      have qin := List.mem_of_find?_eq_some fnd
      have qok := ok.ro q qin
      obtain ⟨qh, qg⟩ := q
      refine ⟨_, rfl, dGs qg, .str "home", dg, .str _, shaped_gs ok.lw qok.2.2.2, by decide +kernel, _, rfl, ?_⟩
      cases qg with
      | none =>
        exact ifT (by decide +kernel) (nil_ret H1 s1 rfl)
      | some gs =>
        refine ifF rfl ?_
        obtain ⟨w, xs, rfl, ew, dxs⟩ := dp_of_tup dg
        have lxs := dpAll_len dxs
        rw [List.length_map] at lxs
        refine ⟨_, rfl, w, rfl, ⟨_, ew⟩, ?_⟩
        refine for_tup (K := K) (xs := xs) (fun j σ H' => ∃ u4 u5 : Option V, σ = [some x, some (.ref fa), some (.ref h), some (.ref w), u4, u5, none] ∧ Same H1 H' ∧ movesGo fl gs = movesGo fl (gs.drop j)) ⟨_, _, rfl, Same.refl _, by rw [List.drop_zero]⟩ (fun j σ H' hj ⟨_, _, _, sm, _⟩ => (Tk.of sm).seq ew) ?_ ?_
        · rintro j z σ H' hz ⟨u4, u5, rfl, sm, mv⟩
          obtain ⟨dd, hdd, dz⟩ := dpAll_get dxs j z hz
          rw [List.getElem?_map, Option.map_eq_some_iff] at hdd
          obtain ⟨g, hg, rfl⟩ := hdd
          obtain ⟨w1, w2⟩ := List.getElem?_eq_some_iff.mp hg
          rw [List.drop_eq_getElem_cons w1, w2] at mv
          obtain ⟨a, ys, rfl, sa, dys⟩ := dp_of_tup (dp_tk (Tk.of sm) _ _ (flat_gr g) dz)
          obtain ⟨ps, rfl, pr⟩ := refs_of dCh (fun a => ⟨_, rfl⟩) dys
          have lps := paired_len pr
          have gok := qok.2.2.2.2.2 g (List.mem_of_getElem? hg)
          refine ⟨_, rfl, a, rfl, ⟨_, sa⟩, fun D nD => ?_⟩
          refine lc_tup (K := K) (xs := ps.map V.ref) (fun e H2 => ∃ zs, H2 D = some (.lst zs) ∧ Same H' H2 ∧ DpAll K H2 zs ((freeOf fl (g.take e)).map dCh) ∧ zs.length ≤ e) ⟨[], upd_same, same_upd nD, by rw [List.take_zero]; exact .nil, Nat.zero_le _⟩ (fun e H2 _ ⟨_, _, s3, _⟩ => (Tk.of s3).seq sa) ?_ ?_
          · rintro e x2 H2 hx ⟨zs, eD, s3, dzs, lz⟩
            rw [List.getElem?_map, Option.map_eq_some_iff] at hx
            obtain ⟨b, hb, rfl⟩ := hx
            obtain ⟨c, hc, dc⟩ := paired_get pr e b hb
            have eg : e < g.length := (List.getElem?_eq_some_iff.mp hc).1
            obtain ⟨b', us, eb, sb, dus⟩ := dp_of_tup (dp_tk (Tk.of s3) _ _ (flat_ch c) dc)
            cases eb
            cases dus with
            | cons d1 dus =>
              cases d1
              cases dus with
              | cons d2 dus =>
                cases dus
                have tk : freeOf fl (g.take (e + 1)) = freeOf fl (g.take e) ++ (if !decide (c.1 ∈ fl) then [c] else []) := by
                  unfold freeOf
                  rw [mem_take_succ hc, List.filter_append]
                  cases hh : (!decide (c.1 ∈ fl)) <;> simp [hh]
                refine ⟨rfl, _, rfl, b, _, _, V.int c.1, rfl, rfl, sb, rfl, _, rfl, fa, _, rfl, .inr (((Tk.of s1).trans (Tk.of sm)).trans (Tk.of s3) |>.seq ef), rfl, flat_ints fl, _, rfl, ?_⟩
                have ans : (if true = true then !inV (V.int c.1) (fl.map V.int) else inV (V.int c.1) (fl.map V.int)) = !decide (c.1 ∈ fl) := by
                  show (!inV (V.int c.1) (fl.map V.int)) = _
                  rw [inV_ints]
                refine ite2 (fun yes => ?_) (fun no => ?_)
                · have yes' := ans.symm.trans yes
                  rw [if_pos yes'] at tk
                  have lg : g.length ≤ 3 := gok.2.1
                  refine ⟨_, rfl, _, eD, by rw [sizeLine_eq]; omega, zs ++ [.ref b], upd_same, fun q o eq => by rw [upd_ne (ne_of_none eq nD)]; exact s3 _ _ eq, ?_, by simp; omega⟩
                  rw [tk, List.map_append]
                  exact dpAll_app (dp_tkAll (tk_lst eD) _ _ (flat_map _ flat_ch _) dzs) (.cons (dp_tk ((Tk.of s3).trans (tk_lst eD)) _ _ (flat_ch c) dc) .nil)
                · have no' : ¬ (!decide (c.1 ∈ fl)) = true := fun q => no (ans.trans q)
                  rw [if_neg no', List.append_nil] at tk
                  refine ⟨zs, eD, s3, ?_, by omega⟩
                  rw [tk]
                  exact dzs
          · rintro H2 ⟨zs, eD, s3, dzs, lz⟩
            rw [List.length_map, lps, List.take_length] at dzs
            have lzf := dpAll_len dzs
            rw [List.length_map] at lzf
            refine ⟨_, rfl, !zs.isEmpty, .inl ⟨zs, SqL.of eD, rfl⟩, ?_⟩
            by_cases em : freeOf fl g = []
            · refine ifF (by cases zs with | nil => rfl | cons _ _ => rw [em] at lzf; cases lzf) ?_
              refine ⟨_, _, rfl, sm.trans s3, ?_⟩
              rw [mv]
              show (if freeOf fl g = [] then _ else _) = _
              rw [if_pos em]
            · refine ifT (by cases zs with | nil => exact absurd (List.length_eq_zero_iff.mp lzf.symm) em | cons _ _ => rfl) ?_
              have z3 : movesGo fl gs = (freeOf fl g).mergeSort leCh := by
                rw [mv]
                show (if freeOf fl g = [] then _ else _) = _
                rw [if_neg em]
              refine ⟨_, rfl, D, zs, _, rfl, SqL.of eD, dzs, PySem.W.AllAlike.of alike_ch, PySem.W.Sortable.tuples fun c => ⟨_, _, rfl⟩, fun d hd => ?_, ?_, fun ys p ly dy np => ?_⟩
              · obtain ⟨c, _, rfl⟩ := List.mem_map.mp hd
                rw [depth_ch]
                decide
              · rw [List.length_map, lps] at lz
                have lg : g.length ≤ 3 := gok.2.1
                omega
              · have e4 : ((freeOf fl g).map dCh).mergeSort dle = ((freeOf fl g).mergeSort leCh).map dCh := (PySem.W.sort_maps (r := leCh) (s := dle) dCh fun a _ b _ => rfl).symm
                rw [e4] at dy
                refine ⟨p, _, rfl, .inl ⟨SqL.of upd_same, fun t nt => ?_⟩⟩
                have s5 : Same H2 (upd H2 p (.lst ys)) := same_upd np
                have s6 : Same (upd H2 p (.lst ys)) (upd (upd H2 p (.lst ys)) t (.tup ys)) := same_upd nt
                exact unf _ z3.symm _ t ((((s1.trans sm).trans s3).trans s5).trans s6) (.tup (SqT.of upd_same) (dp_tkAll ((Tk.of s5).trans (Tk.of s6)) _ _ (flat_map _ flat_ch _) dy))
        · rintro σ H' ⟨u4, u5, rfl, sm, mv⟩
          rw [lxs, List.drop_length] at mv
          refine ⟨Nat.zero_le _, fun p np => unf [] mv.symm _ p ((s1.trans sm).trans (same_upd np)) (.tup (SqT.of upd_same) .nil)⟩
end
end Lr

namespace Lr
open PySem PySem.Spec PyProof.Rows L2

/-- the heads of roads below n -/
def hdsL (ys : List Str) (n : Nat) : List (Int × Str) := ((List.range n).map fun i : Nat => ys.map fun y => ((i : Int), y)).flatten
theorem hdsL_succ (ys : List Str) (n : Nat) : hdsL ys (n + 1) = hdsL ys n ++ ys.map fun y => ((n : Int), y) := by
  unfold hdsL
  rw [List.range_succ, List.map_append, List.flatten_append]
  simp
theorem hdsL_len (ys : List Str) : ∀ n : Nat, (hdsL ys n).length = n * ys.length
  | 0 => by rw [Nat.zero_mul]; rfl
  | n + 1 => by
    rw [hdsL_succ, List.length_append, hdsL_len ys n, List.length_map, Nat.succ_mul]
def HdsAt (H : Hp) (qs : List Addr) (hs : List (Int × Str)) : Prop := Paired (fun q h => H q = some (.tup [V.int h.1, .str h.2])) qs hs
def spAH (K : PySem.W.Frag) : Sp := fun vs H Q _ => ∃ (x : V) (n : Nt), vs = [x] ∧ Dp K H x (dNt n) ∧ n.roads.length ≤ 10 ∧ n.labels.length ≤ 10 ∧
  ∀ (ys : List Str) (H' : Hp) (p : Addr) (qs : List Addr), ys.Perm (("" : Str) :: n.labels) → sortedS ys = true → Same H H' → SqT K H' p (qs.map V.ref) → HdsAt H' qs (hdsL ys n.roads.length) → Q (.ref p) H'
section
variable {P : Program} {w : World} {K : PySem.W.Frag} {mg : Str → Option Value} {base : Heap}
theorem scAH : FnScope ["net", "tops", "road", "top"] ["net"] (defScope sAH) := ⟨rfl, rfl, rfl, by decide +kernel, rfl, by decide +kernel, by decide +kernel⟩
theorem ok_AH {f : Addr} {fd : FuncData} (F : Fun K "all_heads" "all_heads" sAH f fd) (T : Bt mg) : FnOk P w K mg base CX0 1 f fd ["net"] (spAH K) := by
  refine F.ok scAH (fun vs H Q E h => ?_) (fun cdv A outer s H vs Q E hr h => ?_)
  · obtain ⟨x, n, rfl, _⟩ := h
    rfl
  · obtain ⟨x, n, rfl, dx, n10, l10, k⟩ := h
    refine ⟨_, (pss_cons (ps_set (i := 1) scAH.nd rfl (by first | exact Or.inl rfl | exact Or.inr rfl) (pe_callB cr_sortedS (by rfl) T.sorted (by decide +kernel) (pa_cons (pe_lst (pa_cons pe_str (StX.pa_star (pe_ix ix_tup (pv 0) pe_int (fun _ _ => rfl)) pa_nil))) pa_nil)))
      (pss_one (ps_ret (pe_callTy call_tuple_of (by rfl) T.tuple (by decide +kernel) (pa_cons (pe_lc2 (own := [("road", 2), ("top", 3)]) (vs1 := [3]) (g := gName 2) (g1 := gName 3) (tt := tYes) (tt1 := tYes) (te := tTup (tCons (tVar 2) (tCons (tVar 3) tNil))) (wi1 := iList K (tVar 1)) rfl scAH.nd (pi_range1 (by rfl) T.range (pa_cons (pe_callB call_len_seq (by rfl) T.len PySem.boot_len (pa_cons (pe_ix ix_tup (pv 0) pe_int (fun _ _ => rfl)) pa_nil)) pa_nil)) (blkOk_by (N := ["net", "tops", "road", "top"]) (sc := defScope sAH) (by decide +kernel)) (by decide)
        (fun _ _ _ _ _ => pg_name (i := 2) scAH.nd rfl (.inl rfl)) (fun _ _ _ _ _ => pts_nil) (fun _ _ _ _ _ => pi_list (pv 1)) (fun _ _ _ _ _ => pg_name (i := 3) scAH.nd rfl (.inl rfl)) (fun _ _ _ _ _ => pts_nil) (fun _ _ _ _ _ => pe_tup (pa_cons (pv 2) (pa_cons (pv 3) pa_nil)))) pa_nil))))), ?_⟩
    obtain ⟨p, r, l, w', ps, rfl, en, er, el, ew, pr⟩ := net_parts dx
    obtain ⟨rs, sr, rl, _⟩ := er.sq
    refine ⟨_, rfl, p, _, _, _, rfl, rfl, en, rfl, l, _, rfl, .inl el, by rw [List.append_nil, List.length_cons, List.length_map, sizeLine_eq]; omega, fun L nL => ?_⟩
    have sL : Same H (upd H L (.lst (V.str "" :: (n.labels.map V.str ++ [])))) := same_upd nL
    have eL : (upd H L (.lst (V.str "" :: (n.labels.map V.str ++ [])))) L = some (.lst ((("" : Str) :: n.labels).map V.str)) := by
      rw [upd_same, List.append_nil]
      rfl
    revert sL eL
    generalize upd H L (.lst (V.str "" :: (n.labels.map V.str ++ []))) = HL
    intro sL eL
    refine ⟨L, _, rfl, SqL.of eL, by rw [List.length_cons]; omega, fun ys S pm so nS => ?_⟩
    have yl : ys.length ≤ 11 := by
      have z := pm.length_eq
      rw [List.length_cons] at z
      omega
    have sS : Same HL (upd HL S (.lst (ys.map V.str))) := same_upd nS
    have eS : (upd HL S (.lst (ys.map V.str))) S = some (.lst (ys.map V.str)) := upd_same
    revert sS eS
    generalize upd HL S (.lst (ys.map V.str)) = HS
    intro sS eS
    have s1 := sL.trans sS
    refine ⟨_, rfl, p, _, _, _, rfl, rfl, (Tk.of s1).seq en, rfl, r, _, rfl, .inr ((Tk.of s1).seq sr), _, rfl, by rw [List.length_map]; omega, by rw [List.length_map]; omega, fun D nD => ?_⟩
    rw [List.length_map, Int.toNat_natCast, rl]
    have few : ∀ i, i ≤ n.roads.length → (hdsL ys i).length ≤ 110 := fun i hi => by
      rw [hdsL_len]
      have z := Nat.mul_le_mul (show i ≤ 10 by omega) yl
      omega
    have keepD : ∀ {H5 : Hp} {xs : List V} {o : HO} {qs : List Addr} {hs : List (Int × Str)}, H5 D = some (.lst xs) → HdsAt H5 qs hs → HdsAt (upd H5 D o) qs hs := fun {H5 xs o qs hs} e h => paired_imp (fun q hh z => by
      rw [upd_ne (fun w => by rw [w, e] at z; cases z)]
      exact z) h
    refine lc2_it walk_range (fun i H' => ∃ qs : List Addr, H' D = some (.lst (qs.map V.ref)) ∧ HdsAt H' qs (hdsL ys i) ∧ ∀ b o, HS b = some o → H' b = some o) ⟨[], upd_same, .nil, fun b o e => by rw [upd_ne (ne_of_none e nD)]; exact e⟩ (fun i H' _ _ => trivial) ?_ ?_
    · rintro i x H4 H3 hi ⟨qs, eD, hq, kk⟩ ⟨rfl, hxv⟩
      have hxi : x = V.int (i : Int) := hxv.trans (by show V.int (0 + (i : Int)) = _; rw [Int.zero_add])
      subst hxi
      refine ⟨rfl, yes_of ?_⟩
      refine ⟨_, rfl, S, rfl, ⟨_, SqL.of (kk _ _ eS)⟩, ?_⟩
      refine lc2_in (walk_list (K := K) (a := S) (xs := ys.map V.str)) (fun j H' => ∃ qs : List Addr, H' D = some (.lst (qs.map V.ref)) ∧ HdsAt H' qs (hdsL ys i ++ (ys.take j).map fun y => ((i : Int), y)) ∧ ∀ b o, HS b = some o → H' b = some o) ⟨qs, eD, by rw [List.take_zero, List.map_nil, List.append_nil]; exact hq, kk⟩ (fun j H' _ ⟨_, _, _, q⟩ => SqL.of (q _ _ eS)) ?_ ?_
      · rintro j x H6 H5 hj ⟨qs5, e5, h5, k5⟩ ⟨rfl, hx⟩
        rw [List.getElem?_map, Option.map_eq_some_iff] at hx
        obtain ⟨y, hy, rfl⟩ := hx
        have ty : ys.take (j + 1) = ys.take j ++ [y] := by rw [List.take_succ, hy]; rfl
        have jl := (List.getElem?_eq_some_iff.mp hy).1
        refine ⟨rfl, yes_of ?_⟩
        refine ⟨_, rfl, _, rfl, (by rw [sizeLine_eq]; show 2 ≤ 16777216; decide), fun N nN => ?_⟩
        have sN : Same H5 (upd H5 N (.tup [.int (i : Int), .str y])) := same_upd nN
        have eN : (upd H5 N (.tup [.int (i : Int), .str y])) N = some (.tup [.int (i : Int), .str y]) := upd_same
        revert sN eN
        generalize upd H5 N (.tup [.int (i : Int), .str y]) = HN
        intro sN eN
        have hl : qs5.length ≤ 200 := by
          have z := Paired.length h5
          have z2 := few i (by omega)
          rw [List.length_append, List.length_map, List.length_take] at z
          omega
        refine ⟨_, sN _ _ e5, by rw [List.length_map, sizeLine_eq]; omega, qs5 ++ [N], by rw [upd_same, List.map_append]; rfl, ?_, fun b o eb => by rw [upd_ne (ne_of_none eb nD)]; exact sN _ _ (k5 _ _ eb)⟩
        rw [ty, List.map_append, ← List.append_assoc]
        exact keepD (sN _ _ e5) (paired_snoc2 (paired_imp (fun q h z => sN _ _ z) h5) eN)
      · rintro H5 ⟨qs5, e5, h5, k5⟩
        rw [List.length_map, List.take_length, ← hdsL_succ] at h5
        exact ⟨qs5, e5, h5, k5⟩
    · rintro H5 ⟨qs5, e5, h5, k5⟩
      refine ⟨D, _, rfl, .inl ⟨SqL.of e5, fun u nu => ?_⟩⟩
      have su : Same H5 (upd H5 u (.tup (qs5.map V.ref))) := same_upd nu
      exact k ys _ u qs5 pm so (s1.trans (Same.trans k5 su)) (SqT.of upd_same) (paired_imp (fun q h z => su _ _ z) h5)
end
end Lr

namespace Lr
open PySem PySem.Spec PyProof.Rows L2

theorem hdsL_mem {ys : List Str} {n : Nat} {h : Int × Str} : h ∈ hdsL ys n ↔ 0 ≤ h.1 ∧ h.1 < (n : Int) ∧ h.2 ∈ ys := by
  unfold hdsL
  rw [List.mem_flatten]
  constructor
  · rintro ⟨l, hl, hh⟩
    obtain ⟨i, hi, rfl⟩ := List.mem_map.mp hl
    obtain ⟨y, hy, rfl⟩ := List.mem_map.mp hh
    have z := List.mem_range.mp hi
    exact ⟨by show (0 : Int) ≤ (i : Int); omega, by show (i : Int) < (n : Int); omega, hy⟩
  · obtain ⟨i, y⟩ := h
    rintro ⟨a, b, c⟩
    have a : (0 : Int) ≤ i := a
    have b : i < (n : Int) := b
    refine ⟨ys.map fun y => (((i.toNat : Nat) : Int), y), List.mem_map.mpr ⟨i.toNat, List.mem_range.mpr (by omega), rfl⟩, List.mem_map.mpr ⟨y, c, ?_⟩⟩
    rw [Int.toNat_of_nonneg a]
theorem hdsL_nd {ys : List Str} (hy : ys.Nodup) : ∀ n : Nat, (hdsL ys n).Nodup
  | 0 => List.nodup_nil
  | n + 1 => by
    rw [hdsL_succ, List.nodup_append]
    refine ⟨hdsL_nd hy n, ?_, fun a ha b hb e => ?_⟩
    · rw [List.nodup_iff_pairwise_ne, List.pairwise_map]
      rw [List.nodup_iff_pairwise_ne] at hy
      exact hy.imp fun h e => h (by injection e)
    · obtain ⟨y, hy, rfl⟩ := List.mem_map.mp hb
      have z := (hdsL_mem.mp ha).2.1
      rw [e] at z
      have z : (n : Int) < (n : Int) := z
      omega
def mvOf (N : Nt) (fl : List Int) (ys : List Str) : Mvs := (hdsL ys N.roads.length).map fun h => (h, moves N.rows fl h)
theorem mvOf_keys (N : Nt) (fl : List Int) (ys : List Str) : (mvOf N fl ys).map (·.1) = hdsL ys N.roads.length := by
  unfold mvOf
  rw [List.map_map]
  exact List.map_id' _
theorem lay_no_end {x : Str} (h : x ∈ L5) : x ≠ "" := by
  intro e
  rw [e] at h
  exact absurd h (by decide +kernel)
theorem ys_nd {N : Nt} (ok : NtOk N) {ys : List Str} (pm : ys.Perm (("" : Str) :: N.labels)) : ys.Nodup := by
  refine pm.nodup_iff.mpr (List.nodup_cons.mpr ⟨fun m => ?_, ok.ln⟩)
  exact lay_no_end (ok.lw _ m) rfl
theorem fK_len {mv : Mvs} {us : List Addr} (h : us.length = mv.length) : (fK mv us).length = mv.length := by
  unfold fK
  rw [List.length_map, List.length_zip, h, Nat.min_self]
theorem zip_snoc {α β : Type} : ∀ {a : List α} {b : List β} (x : α) (y : β), a.length = b.length → (a ++ [x]).zip (b ++ [y]) = a.zip b ++ [(x, y)]
  | [], [], _, _, _ => rfl
  | [], _ :: _, _, _, h => nomatch h
  | _ :: _, [], _, _, h => nomatch h
  | c :: a, d :: b, x, y, h => by
    show (c, d) :: (a ++ [x]).zip (b ++ [y]) = _
    rw [zip_snoc x y (Nat.succ.inj h)]
    rfl
theorem putK_new {α : Type} [DecidableEq α] {kvs : List (α × V)} {k : α} {v : V} (h : ∀ p ∈ kvs, p.1 ≠ k) : putK kvs k v = kvs ++ [(k, v)] := by
  unfold putK
  rw [if_neg]
  intro z
  obtain ⟨p, hp, e⟩ := List.any_eq_true.mp z
  exact h p hp (of_decide_eq_true e)
theorem fK_put {mv : Mvs} {us : List Addr} {m : (Int × Str) × List Chc} {u : Addr} (hl : us.length = mv.length) (h : m.1 ∉ mv.map (·.1)) : putK (fK mv us) [Sum.inl m.1.1, Sum.inr m.1.2] (V.ref u) = fK (mv ++ [m]) (us ++ [u]) := by
  rw [putK_new]
  · unfold fK
    rw [zip_snoc m u hl.symm, List.map_append]
    rfl
  · intro p hp e
    unfold fK at hp
    obtain ⟨⟨m2, u2⟩, hz, rfl⟩ := List.mem_map.mp hp
    have e : [Sum.inl m2.1.1, Sum.inr m2.1.2] = ([Sum.inl m.1.1, Sum.inr m.1.2] : List Key) := e
    injection e with e1 e2
    injection e2 with e2 _
    injection e1 with e1
    injection e2 with e2
    refine h (List.mem_map.mpr ⟨m2, (List.of_mem_zip hz).1, ?_⟩)
    exact Prod.ext e1 e2
theorem tk_dT {H : Hp} {a : Addr} {kvs : List (List Key × V)} {o : HO} (e : H a = some (.dT kvs)) : Tk H (upd H a o) := fun b ys => by
  refine ⟨fun q => ?_, fun o' q => ?_⟩
  · rw [upd_ne (fun z => by rw [z, e] at q; cases q)]
    exact q
  · rw [upd_ne (fun z => by rw [z, e] at q; cases q)]
    exact q
theorem flat_gr2 (cs : List Chc) : flatD (.tuple (cs.map dCh)) = true := flat_map _ flat_ch cs
def spCBH (K : PySem.W.Frag) : Sp := fun vs H Q _ => ∃ (x : V) (f : Addr) (N : Nt) (fl : List Int), vs = [x, .ref f] ∧ Dp K H x (dNt N) ∧ NtOk N ∧ SqT K H f (fl.map V.int) ∧
  ∀ (ys : List Str) (H' : Hp) (D : Addr) (us : List Addr), ys.Perm (("" : Str) :: N.labels) → Same H H' → H D = none → FreeAt K H' D (mvOf N fl ys) us → Q (.ref D) H'
section
variable {P : Program} {w : World} {K : PySem.W.Frag} {mg : Str → Option Value} {base : Heap}
theorem scCBH : FnScope ["net", "failed", "head"] ["net", "failed"] (defScope sCBH) := ⟨rfl, rfl, rfl, by decide +kernel, rfl, by decide +kernel, by decide +kernel⟩
theorem ok_CBH {f : Addr} {fd : FuncData} {fAH : Addr} {fdAH : FuncData} {fFC : Addr} {fdFC : FuncData} (F : Fun K "choices_by_head" "choices_by_head" sCBH f fd) (T : Bt mg) (CAH : Cal K mg "all_heads" fAH fdAH ["net"]) (GAH : FnOk P w K mg base CX0 1 fAH fdAH ["net"] (spAH K)) (CFC : Cal K mg "free_choices" fFC fdFC ["net", "failed", "head"]) (GFC : FnOk P w K mg base CX0 2 fFC fdFC ["net", "failed", "head"] (spFC K)) : FnOk P w K mg base CX0 3 f fd ["net", "failed"] (spCBH K) := by
  refine F.ok scCBH (fun vs H Q E h => ?_) (fun cdv A outer s H vs Q E hr h => ?_)
  · obtain ⟨x, fa, N, fl, rfl, _⟩ := h
    rfl
  · obtain ⟨x, fa, N, fl, rfl, dx, ok, sf, k⟩ := h
    have hr1 : Room 1 (A.deeper (envOfC "choices_by_head" (defScope sCBH) s.heap.objs.size f cdv)) := Room.mono hr (by decide)
    have hr2 : Room 2 (A.deeper (envOfC "choices_by_head" (defScope sCBH) s.heap.objs.size f cdv)) := Room.mono hr (by decide)
    have hu1 : (A.deeper (envOfC "choices_by_head" (defScope sCBH) s.heap.objs.size f cdv)).units + 1 < cLine := by
      have z := hr.un
      omega
    refine ⟨_, (pss_one (ps_ret (pe_dcT hu1 (own := [("head", 2)]) (g := gName 2) (tk := tVar 2) (tv := tCall (spFC K) [] E0 (tCons (tVar 0) (tCons (tVar 1) (tCons (tVar 2) tNil)))) rfl scCBH.nd (pi_tup (pe_call GAH hr1 (by rfl) CAH.g CAH.k CAH.b .nil pass0 (pa_cons (pv 0) pa_nil))) (blkOk_by (N := ["net", "failed", "head"]) (sc := defScope sCBH) (by decide +kernel))
      (fun _ _ _ _ _ => pg_name (i := 2) scCBH.nd rfl (.inl rfl)) (fun _ _ _ _ _ => pv 2) (fun _ _ _ _ _ => pe_call GFC hr2 (by rfl) CFC.g CFC.k CFC.b .nil pass0 (pa_cons (pv 0) (pa_cons (pv 1) (pa_cons (pv 2) pa_nil))))))), ?_⟩
    refine ⟨_, rfl, x, N, rfl, dx, ok.r2, Nat.le_trans ok.l2 (by decide), fun ys H1 p qs pm so s1 sq hq => ?_⟩
    refine ⟨p, rfl, ⟨_, sq⟩, fun D nD => ?_⟩
    have hl : qs.length = (hdsL ys N.roads.length).length := Paired.length hq
    have knd : ((mvOf N fl ys).map (·.1)).Nodup := by
      rw [mvOf_keys]
      exact hdsL_nd (ys_nd ok pm) _
    have ml : (mvOf N fl ys).length = qs.length := by
      rw [hl]
      unfold mvOf
      rw [List.length_map]
    have few : (mvOf N fl ys).length ≤ 100 := by
      rw [ml, hl, hdsL_len]
      have z1 := pm.length_eq
      rw [List.length_cons] at z1
      have z2 := ok.l2
      have z3 := ok.r2
      have z4 : N.roads.length * ys.length ≤ 10 * 10 := Nat.mul_le_mul z3 (by omega)
      omega
    refine dct_it (walk_tup (K := K) (a := p) (xs := qs.map V.ref)) (fun i H' => ∃ us : List Addr, H' D = some (.dT (fK ((mvOf N fl ys).take i) us)) ∧ Paired (fun (u : Addr) (m : (Int × Str) × List Chc) => Dp K H' (.ref u) (.tuple (m.2.map dCh))) us ((mvOf N fl ys).take i) ∧ ∀ b o, H1 b = some o → H' b = some o) ⟨[], upd_same, by rw [List.take_zero]; exact .nil, fun b o e => by rw [upd_ne (ne_of_none e nD)]; exact e⟩ (fun i H' _ ⟨_, _, _, kk⟩ => (Tk.of kk).seq sq) ?_ ?_
    rotate_left
    · rintro H' ⟨us, eD, pr, kk⟩
      rw [List.length_map, ← ml, List.take_length] at eD pr
      have nDH : H D = none := by
        cases z : H D with
        | none => rfl
        | some o =>
          have q := s1 _ _ z
          rw [nD] at q
          cases q
      exact k ys H' D us pm (s1.trans kk) nDH ⟨eD, pr, knd⟩
    rintro i z H3 H2 hi ⟨us, eD, pr, kk⟩ ⟨rfl, hz⟩
    rw [List.getElem?_map, Option.map_eq_some_iff] at hz
    obtain ⟨q, hqi, rfl⟩ := hz
    obtain ⟨h, hh, eq⟩ := paired_get hq _ _ hqi
    have hm : (mvOf N fl ys)[i]? = some (h, moves N.rows fl h) := by
      unfold mvOf
      rw [List.getElem?_map, hh]
      rfl
    have tk : (mvOf N fl ys).take (i + 1) = (mvOf N fl ys).take i ++ [(h, moves N.rows fl h)] := by rw [List.take_succ, hm]; rfl
    have hin := hdsL_mem.mp (List.mem_of_getElem? hh)
    have hy : h.2 = "" ∨ h.2 ∈ N.labels := List.mem_cons.mp (pm.mem_iff.mp hin.2.2)
    have s2 : Same H H2 := s1.trans kk
    refine ⟨rfl, ?_⟩
    refine ⟨_, rfl, _, rfl, _, rfl, _, rfl, x, fa, q, N, fl, h.1, h.2, rfl, dp_tk (Tk.of s2) _ _ (flat_nt N) dx, ok, (Tk.of s2).seq sf, SqT.of (kk _ _ eq), hy, fun H5 u s5 d5 => ?_⟩
    have eD5 := s5 _ _ eD
    have ul := Paired.length pr
    have newk : h ∉ ((mvOf N fl ys).take i).map (·.1) := fun m => by
      have nd2 : (((mvOf N fl ys).take (i + 1)).map (·.1)).Nodup := knd.sublist ((List.take_sublist _ _).map _)
      rw [tk, List.map_append, List.nodup_append] at nd2
      exact nd2.2.2 h m h List.mem_cons_self rfl
    refine ⟨_, [Sum.inl h.1, Sum.inr h.2], q, rfl, s5 _ _ (kk _ _ eq), eD5, by rw [fK_len ul, List.length_take, sizeLine_eq]; omega, us ++ [u], ?_, ?_, fun b o e => by rw [upd_ne (ne_of_none e nD)]; exact s5 _ _ (kk _ _ e)⟩
    · rw [upd_same, tk]
      rw [← fK_put (m := (h, moves N.rows fl h)) ul newk]
    · rw [tk]
      refine paired_snoc2 (paired_imp (fun v m dv => dp_tk ((Tk.of s5).trans (tk_dT eD5)) _ _ (flat_gr2 _) dv) pr) ?_
      exact dp_tk (tk_dT eD5) _ _ (flat_gr2 _) d5
end
end Lr

namespace Lr
open PySem PySem.Spec PyProof.Rows L2

/-! the order of triples -/
theorem leT_total : PySem.W.TotalLe leT := PySem.W.sortLe_total (listOrd itemOrd) false fun t => PySem.W.keyToks (triD t)
theorem leT_anti {a b : Tri} (h1 : leT a b = true) (h2 : leT b a = true) : a = b := by
  obtain ⟨⟨i, g⟩, x⟩ := a
  obtain ⟨⟨i2, g2⟩, x2⟩ := b
  have l : ∀ (p q : Tri), leT p q = !PySem.W.dataLt (triD q) (triD p) := fun p q => rfl
  rw [l, Bool.not_eq_true'] at h1 h2
  have e := (listOrd itemOrd).total (PySem.W.keyToks (triD ((i, g), x))) (PySem.W.keyToks (triD ((i2, g2), x2))) h2 h1
  simp only [triD, PySem.W.keyToks, PySem.W.keyToksAll, List.cons_append, List.nil_append, List.cons.injEq, Sum.inl.injEq, Sum.inr.injEq, true_and, and_true] at e
  obtain ⟨e1, e2, e3⟩ := e
  obtain ⟨⟨g⟩⟩ := g
  obtain ⟨⟨g2⟩⟩ := g2
  have e2 : g = g2 := e2
  rw [e1, e2, e3]
theorem sort_sorted (l : List Tri) : (l.mergeSort leT).Pairwise (fun a b => leT a b = true) := PySem.W.sort_pairwise leT_total l
/-- one list alone is in order and holds just these, each once -/
theorem sorted_one : ∀ {a b : List Tri}, a.Pairwise (fun x y => leT x y = true) → b.Pairwise (fun x y => leT x y = true) → a.Nodup → b.Nodup → (∀ t, t ∈ a ↔ t ∈ b) → a = b
  | [], [], _, _, _, _, _ => rfl
  | [], y :: b, _, _, _, _, h => nomatch (h y).mpr List.mem_cons_self
  | x :: a, [], _, _, _, _, h => nomatch (h x).mp List.mem_cons_self
  | x :: a, y :: b, ha, hb, na, nb, h => by
    obtain ⟨ha1, ha2⟩ := List.pairwise_cons.mp ha
    obtain ⟨hb1, hb2⟩ := List.pairwise_cons.mp hb
    obtain ⟨na1, na2⟩ := List.nodup_cons.mp na
    obtain ⟨nb1, nb2⟩ := List.nodup_cons.mp nb
    have e : x = y := by
      rcases List.mem_cons.mp ((h x).mp List.mem_cons_self) with e | m
      · exact e
      · rcases List.mem_cons.mp ((h y).mpr List.mem_cons_self) with e | m2
        · exact e.symm
        · exact leT_anti (ha1 y m2) (hb1 x m)
    subst e
    rw [sorted_one ha2 hb2 na2 nb2 fun t => ⟨fun m => (List.mem_cons.mp ((h t).mp (List.mem_cons_of_mem _ m))).resolve_left fun e => na1 (e ▸ m), fun m => (List.mem_cons.mp ((h t).mpr (List.mem_cons_of_mem _ m))).resolve_left fun e => nb1 (e ▸ m)⟩]

/-! what the triples of a table are -/
theorem look_mem : ∀ {pt : PT} {k : Int × Str} {row : Row}, (pt.map (·.1)).Nodup → (k, row) ∈ pt → lookQ pt k = row
  | [], _, _, _, h => nomatch h
  | e :: r, k, row, nd, h => by
    rw [List.map_cons, List.nodup_cons] at nd
    rcases List.mem_cons.mp h with rfl | h
    · unfold lookQ
      rw [List.find?_cons, decide_eq_true (rfl : (k, row).1 = k)]
      rfl
    · have ne : e.1 ≠ k := fun z => nd.1 (by rw [z]; exact List.mem_map_of_mem (f := fun e : (Int × Str) × Row => e.1) h)
      have ih := look_mem nd.2 h
      unfold lookQ at ih ⊢
      rw [List.find?_cons, decide_eq_false ne]
      exact ih
theorem look_some : ∀ {pt : PT} {k : Int × Str} {p : Int × Int}, p ∈ lookQ pt k → (k, lookQ pt k) ∈ pt
  | [], _, _, h => nomatch h
  | e :: r, k, p, h => by
    by_cases c : e.1 = k
    · have z : lookQ (e :: r) k = e.2 := by
        unfold lookQ
        rw [List.find?_cons, decide_eq_true c]
        rfl
      rw [z, ← c]
      exact List.mem_cons_self
    · have z : lookQ (e :: r) k = lookQ r k := by
        unfold lookQ
        rw [List.find?_cons, decide_eq_false c]
      rw [z] at h ⊢
      exact List.mem_cons_of_mem _ (look_some h)
theorem tris_mem {pt : PT} (nd : (pt.map (·.1)).Nodup) {t : Tri} : t ∈ trisQ pt ↔ ∃ w, (t.2, w) ∈ lookQ pt t.1 := by
  unfold trisQ
  rw [List.mem_flatten]
  constructor
  · rintro ⟨l, hl, ht⟩
    obtain ⟨e, he, rfl⟩ := List.mem_map.mp hl
    obtain ⟨q, hq, rfl⟩ := List.mem_map.mp ht
    exact ⟨q.2, by rw [look_mem (k := e.1) (row := e.2) nd he]; exact hq⟩
  · rintro ⟨w, hw⟩
    exact ⟨_, List.mem_map.mpr ⟨_, look_some hw, rfl⟩, List.mem_map.mpr ⟨_, hw, rfl⟩⟩
theorem tris_nd : ∀ {pt : PT}, (pt.map (·.1)).Nodup → (∀ e ∈ pt, (e.2.map (·.1)).Nodup) → (trisQ pt).Nodup
  | [], _, _ => List.nodup_nil
  | e :: r, nd, h => by
    rw [List.map_cons, List.nodup_cons] at nd
    show (rowT e ++ trisQ r).Nodup
    rw [List.nodup_append]
    refine ⟨?_, tris_nd nd.2 fun x hx => h x (List.mem_cons_of_mem _ hx), fun a ha b hb z => ?_⟩
    · unfold rowT
      have z := h e List.mem_cons_self
      rw [List.nodup_iff_pairwise_ne, List.pairwise_map] at z ⊢
      exact z.imp fun ne q => ne (by injection q)
    · obtain ⟨q, hq, rfl⟩ := List.mem_map.mp ha
      obtain ⟨w, hw⟩ := (tris_mem nd.2).mp hb
      rw [← z] at hw
      exact nd.1 (List.mem_map.mpr ⟨_, look_some hw, rfl⟩)
mutual
theorem der_mono {mv mv' : Mvs} (h : ∀ e ∈ mv, e ∈ mv') : ∀ {k : Int × Str} {q w : Int}, Der mv k q w → Der mv' k q w
  | _, _, _, .mk a hc t => .mk (h _ a) hc (way_mono h t)
theorem way_mono {mv mv' : Mvs} (h : ∀ e ∈ mv, e ∈ mv') : ∀ {s : Int} {ws : List Str} {q w : Int}, WayD mv s ws q w → WayD mv' s ws q w
  | _, _, _, _, .nil => .nil
  | _, _, _, _, .cons a t => .cons (der_mono h a) (way_mono h t)
end
def mvN (N : Nt) (fl : List Int) : Mvs := mvOf N fl (("" : Str) :: N.labels)
theorem mvOf_mem {N : Nt} {fl : List Int} {ys : List Str} {e : (Int × Str) × List Chc} : e ∈ mvOf N fl ys ↔ e.1 ∈ hdsL ys N.roads.length ∧ e.2 = moves N.rows fl e.1 := by
  unfold mvOf
  constructor
  · intro h
    obtain ⟨x, hx, rfl⟩ := List.mem_map.mp h
    exact ⟨hx, rfl⟩
  · rintro ⟨h1, h2⟩
    exact List.mem_map.mpr ⟨e.1, h1, Prod.ext rfl h2.symm⟩
theorem mvOf_perm {N : Nt} {fl : List Int} {ys : List Str} (pm : ys.Perm (("" : Str) :: N.labels)) (e : (Int × Str) × List Chc) : e ∈ mvOf N fl ys ↔ e ∈ mvN N fl := by
  unfold mvN
  rw [mvOf_mem, mvOf_mem, hdsL_mem, hdsL_mem, pm.mem_iff]
theorem der_perm {N : Nt} {fl : List Int} {ys : List Str} (pm : ys.Perm (("" : Str) :: N.labels)) {k : Int × Str} {q w : Int} : Der (mvOf N fl ys) k q w ↔ Der (mvN N fl) k q w :=
  ⟨der_mono fun e h => (mvOf_perm pm e).mp h, der_mono fun e h => (mvOf_perm pm e).mpr h⟩
theorem movesGo_mem {fl : List Int} {c : Chc} : ∀ {gs : List Gr}, c ∈ movesGo fl gs → ∃ g ∈ gs, c ∈ g ∧ c.1 ∉ fl
  | [], h => nomatch h
  | g :: gs, h => by
    unfold movesGo at h
    split at h
    · obtain ⟨g', hg, x⟩ := movesGo_mem h
      exact ⟨g', List.mem_cons_of_mem _ hg, x⟩
    · have m := List.mem_mergeSort.mp h
      unfold freeOf at m
      obtain ⟨m1, m2⟩ := List.mem_filter.mp m
      refine ⟨g, List.mem_cons_self, m1, fun z => ?_⟩
      rw [decide_eq_true z] at m2
      cases m2
theorem moves_ok {N : Nt} (ok : NtOk N) {fl : List Int} {h : Hd} {c : Chc} (m : c ∈ moves N.rows fl h) : ChOk N.roads N.labels h.1 c := by
  unfold moves at m
  split at m
  · rename_i q gs e
    have qin := List.mem_of_find?_eq_some e
    have hp := List.find?_some e
    have hq : q = h := of_decide_eq_true hp
    have g1 := (ok.ro _ qin).2.2.2
    obtain ⟨g, hg, hc, _⟩ := movesGo_mem m
    have z := (g1.2.2 g hg).2.2.1 c hc
    rw [← hq]
    exact z
  · cases m
theorem movesGo_len {fl : List Int} : ∀ {gs : List Gr}, (∀ g ∈ gs, g.length ≤ 3) → (movesGo fl gs).length ≤ 3
  | [], _ => Nat.zero_le _
  | g :: gs, h => by
    unfold movesGo
    split
    · exact movesGo_len fun x hx => h x (List.mem_cons_of_mem _ hx)
    · rw [List.length_mergeSort]
      unfold freeOf
      exact Nat.le_trans (List.length_filter_le _ _) (h g List.mem_cons_self)
theorem moves_len {N : Nt} (ok : NtOk N) {fl : List Int} {h : Hd} : (moves N.rows fl h).length ≤ 3 := by
  unfold moves
  split
  · rename_i q gs e
    have g1 := (ok.ro _ (List.mem_of_find?_eq_some e)).2.2.2
    exact movesGo_len fun g hg => (g1.2.2 g hg).2.1
  · exact Nat.zero_le _
theorem lay_len : ∀ y ∈ L5, y.length ≤ 100 := by decide +kernel
theorem mvOf_ok {N : Nt} (ok : NtOk N) {fl : List Int} {ys : List Str} (pm : ys.Perm (("" : Str) :: N.labels)) : MvOk N.roads.length (mvOf N fl ys) := by
  intro m hm
  obtain ⟨h1, h2⟩ := mvOf_mem.mp hm
  have hy := pm.mem_iff.mp (hdsL_mem.mp h1).2.2
  refine ⟨?_, fun c hc => ?_⟩
  · rcases List.mem_cons.mp hy with e | hy
    · rw [e]
      decide +kernel
    · exact lay_len _ (ok.lw _ hy)
  · rw [h2] at hc
    obtain ⟨a, b, _, d, _⟩ := moves_ok ok hc
    exact ⟨a, b, by omega⟩
/-- the pops of a net: in order, each once, just what is popped off -/
def IsPops (N : Nt) (fl : List Int) (ts : List Tri) : Prop := ts.Pairwise (fun a b => leT a b = true) ∧ ts.Nodup ∧ ∀ t, t ∈ ts ↔ ∃ w, Der (mvN N fl) t.1 t.2 w
theorem pops_one {N : Nt} {fl : List Int} {a b : List Tri} (h : IsPops N fl a) (h' : IsPops N fl b) : a = b := sorted_one h.1 h'.1 h.2.1 h'.2.1 fun t => (h.2.2 t).trans (h'.2.2 t).symm
theorem sat_pops {N : Nt} (ok : NtOk N) {fl : List Int} {ys : List Str} (pm : ys.Perm (("" : Str) :: N.labels)) {m : Nat} (en : Ends (mvOf N fl ys) m []) : IsPops N fl ((trisQ (satQ (mvOf N fl ys) m [])).mergeSort leT) := by
  have mo := mvOf_ok ok (fl := fl) pm
  obtain ⟨so, qok⟩ := sat_sound mo m [] (QOk.nil _ _) (fun k q w h => nomatch h)
  have cl := sat_closed _ m [] en
  refine ⟨sort_sorted _, (List.mergeSort_perm _ _).nodup_iff.mpr (tris_nd qok.nd fun e he => (qok.row e he).nd), fun t => ?_⟩
  rw [List.mem_mergeSort, tris_mem qok.nd]
  constructor
  · rintro ⟨w, hw⟩
    exact ⟨w, (der_perm pm).mp (so _ _ _ hw)⟩
  · rintro ⟨w, hw⟩
    obtain ⟨v, _, hv⟩ := der_in cl mo qok ((der_perm pm).mpr hw)
    exact ⟨v, hv⟩
theorem mvOf_len {N : Nt} (ok : NtOk N) {fl : List Int} {ys : List Str} (pm : ys.Perm (("" : Str) :: N.labels)) : (mvOf N fl ys).length ≤ 100 := by
  unfold mvOf
  rw [List.length_map, hdsL_len]
  have z1 := pm.length_eq
  rw [List.length_cons] at z1
  have z2 := ok.l2
  have z4 : N.roads.length * ys.length ≤ 10 * 10 := Nat.mul_le_mul ok.r2 (by omega)
  omega

def spPop (K : PySem.W.Frag) : Sp := fun vs H Q _ => ∃ (x : V) (f : Addr) (N : Nt) (fl : List Int), vs = [x, .ref f] ∧ Dp K H x (dNt N) ∧ NtOk N ∧ SqT K H f (fl.map V.int) ∧ FlOk fl N.roads.length ∧
  ∀ (H' : Hp) (p : Addr) (qs : List Addr) (ts : List Tri), Same H H' → SqT K H' p (qs.map V.ref) → TrisAt H' qs ts → IsPops N fl ts → Q (.ref p) H'
section
variable {P : Program} {w : World} {K : PySem.W.Frag} {mg : Str → Option Value} {base : Heap}
theorem scPop : FnScope ["net", "failed"] ["net", "failed"] (defScope sPop) := ⟨rfl, rfl, rfl, by decide +kernel, rfl, by decide +kernel, by decide +kernel⟩
theorem ok_Pop {f : Addr} {fd : FuncData} {fNN : Addr} {fdNN : FuncData} {fNF : Addr} {fdNF : FuncData} {fCBH : Addr} {fdCBH : FuncData} {fPTb : Addr} {fdPTb : FuncData} {fEO : Addr} {fdEO : FuncData} (F : Fun K "pops" "pops" sPop f fd) (T : Bt mg) (CNN : Cal K mg "need_net" fNN fdNN ["net"]) (GNN : FnOk P w K mg base CX0 8 fNN fdNN ["net"] (spNN K)) (CNF : Cal K mg "need_failed" fNF fdNF ["net", "failed"]) (GNF : FnOk P w K mg base CX0 4 fNF fdNF ["net", "failed"] (spNF K))
    (CCBH : Cal K mg "choices_by_head" fCBH fdCBH ["net", "failed"]) (GCBH : FnOk P w K mg base CX0 3 fCBH fdCBH ["net", "failed"] (spCBH K)) (CPTb : Cal K mg "pop_table" fPTb fdPTb ["free"]) (GPTb : FnOk P w K mg base CX0 6 fPTb fdPTb ["free"] (spPTb K)) (CEO : Cal K mg "edges_of" fEO fdEO ["table"]) (GEO : FnOk P w K mg base CX0 1 fEO fdEO ["table"] (spEO K)) : FnOk P w K mg base CX0 9 f fd ["net", "failed"] (spPop K) := by
  refine F.ok scPop (fun vs H Q E h => ?_) (fun cdv A outer s H vs Q E hr h => ?_)
  · obtain ⟨x, fa, N, fl, rfl, _⟩ := h
    rfl
  · obtain ⟨x, fa, N, fl, rfl, dx, ok, sf, fo, k⟩ := h
    have hr8 : Room 8 (A.deeper (envOfC "pops" (defScope sPop) s.heap.objs.size f cdv)) := Room.mono hr (by decide)
    have hr6 : Room 6 (A.deeper (envOfC "pops" (defScope sPop) s.heap.objs.size f cdv)) := Room.mono hr (by decide)
    have hr4 : Room 4 (A.deeper (envOfC "pops" (defScope sPop) s.heap.objs.size f cdv)) := Room.mono hr (by decide)
    have hr3 : Room 3 (A.deeper (envOfC "pops" (defScope sPop) s.heap.objs.size f cdv)) := Room.mono hr (by decide)
    have hr1 : Room 1 (A.deeper (envOfC "pops" (defScope sPop) s.heap.objs.size f cdv)) := Room.mono hr (by decide)
    refine ⟨_, (pss_cons (ps_expr (pe_call GNN hr8 (by rfl) CNN.g CNN.k CNN.b .nil pass0 (pa_cons (pv 0) pa_nil)))
      (pss_cons (ps_expr (pe_call GNF hr4 (by rfl) CNF.g CNF.k CNF.b .nil pass0 (pa_cons (pv 0) (pa_cons (pv 1) pa_nil))))
      (pss_one (ps_ret (pe_call GEO hr1 (by rfl) CEO.g CEO.k CEO.b .nil pass0 (pa_cons (pe_call GPTb hr6 (by rfl) CPTb.g CPTb.k CPTb.b .nil pass0 (pa_cons (pe_call GCBH hr3 (by rfl) CCBH.g CCBH.k CCBH.b .nil pass0 (pa_cons (pv 0) (pa_cons (pv 1) pa_nil))) pa_nil)) pa_nil)))))), ?_⟩
    obtain ⟨pn, pr, pl, pw, pps, rfl, en, er, el, ew, ppr⟩ := net_parts dx
    obtain ⟨rs, sr, rl, _⟩ := er.sq
    refine ⟨_, rfl, _, N, rfl, dx, ok, fun H1 s1 => ?_⟩
    refine ⟨_, rfl, _, rfl, pn, pr, fa, .ref pl, .ref pw, rs.map V.ref, fl, rfl, (Tk.of s1).seq en, (Tk.of s1).seq sr, by rw [List.length_map, rl]; exact ok.r2, (Tk.of s1).seq sf, by rw [List.length_map, rl]; exact fo, fun H2 s2 => ?_⟩
    have s12 := s1.trans s2
    refine ⟨_, rfl, _, rfl, _, fa, N, fl, rfl, dp_tk (Tk.of s12) _ _ (flat_nt N) dx, ok, (Tk.of s12).seq sf, fun ys H3 D us pm s3 nD fr => ?_⟩
    have mo := mvOf_ok ok (fl := fl) pm
    obtain ⟨m, en2⟩ := ends_nil fr.nd mo
    refine ⟨D, mvOf N fl ys, us, N.roads.length, m, rfl, fr, mo, by have z := ok.r2; omega, Nat.le_trans (mvOf_len ok pm) (by decide), fun y hy => ?_, en2, fun H4 a tb s4 na nr ta pt => ?_⟩
    · obtain ⟨_, e⟩ := mvOf_mem.mp hy
      rw [e]
      exact Nat.le_trans (moves_len ok) (by decide)
    obtain ⟨so, qok⟩ := sat_sound mo m [] (QOk.nil _ _) (fun k q w h => nomatch h)
    rw [← pt] at qok
    have tok : TbOk N.roads.length tb := tbOk_p qok
    have tl : tb.length ≤ 1000 := by
      have z := qok.len
      unfold pT at z
      rw [List.length_map, List.length_map] at z
      have z2 := mvOf_len ok (fl := fl) pm
      omega
    refine ⟨a, tb, N.roads.length, rfl, ta, tok, by have z := ok.r2; omega, tl, fun H5 p qs s5 sq tr => ?_⟩
    rw [pt] at tr
    exact k H5 p qs _ (((s12.trans s3).trans s4).trans s5) sq tr (sat_pops ok pm en2)
end
end Lr

namespace Lr
open PySem PySem.Spec PyProof.Rows L2

abbrev St := Tri × Int
def keyS (t : Tri) : List Key := [Sum.inl t.1.1, Sum.inr t.1.2, Sum.inl t.2]
def stK (es : List St) : List (List Key × V) := es.map fun e => (keyS e.1, V.int e.2)
theorem keyS_inj {a b : Tri} (h : keyS a = keyS b) : a = b := by
  obtain ⟨⟨i, g⟩, x⟩ := a
  obtain ⟨⟨i2, g2⟩, x2⟩ := b
  unfold keyS at h
  injection h with h1 h
  injection h with h2 h
  injection h with h3 h
  injection h1 with h1
  injection h2 with h2
  injection h3 with h3
  have h1 : i = i2 := h1
  have h2 : g = g2 := h2
  have h3 : x = x2 := h3
  rw [h1, h2, h3]
theorem stK_put {es : List St} {e : St} (h : e.1 ∉ es.map (·.1)) : putK (stK es) (keyS e.1) (V.int e.2) = stK (es ++ [e]) := by
  rw [putK_new]
  · unfold stK
    rw [List.map_append]
    rfl
  · intro p hp z
    unfold stK at hp
    obtain ⟨e2, he, rfl⟩ := List.mem_map.mp hp
    exact h (List.mem_map.mpr ⟨e2, he, keyS_inj z⟩)
theorem stK_get : ∀ {es : List St} {e : St}, (es.map (·.1)).Nodup → e ∈ es → valV (stK es) (keyS e.1) = some (V.int e.2)
  | [], _, _, h => nomatch h
  | y :: r, e, nd, h => by
    rw [List.map_cons, List.nodup_cons] at nd
    by_cases c : keyS y.1 = keyS e.1
    · have e1 := keyS_inj c
      rcases List.mem_cons.mp h with rfl | h
      · exact valV_pos (p := (keyS e.1, V.int e.2)) rfl
      · exact absurd (List.mem_map_of_mem (f := fun e : St => e.1) h) (e1 ▸ nd.1)
    · rcases List.mem_cons.mp h with rfl | h
      · exact absurd rfl c
      · exact (valV_neg (p := (keyS y.1, V.int y.2)) c).trans (stK_get nd.2 h)
/-- the pops with their least steps -/
def IsSteps (N : Nt) (fl : List Int) (es : List St) : Prop := IsPops N fl (es.map (·.1)) ∧ ∀ e ∈ es, Der (mvN N fl) e.1.1 e.1.2 e.2 ∧ ∀ w', Der (mvN N fl) e.1.1 e.1.2 w' → e.2 ≤ w'
def wtT (tb : Tbl) (t : Tri) : Int := (getR (lookT tb t.1.1 t.1.2) t.2).getD 0
def spPSt (K : PySem.W.Frag) : Sp := fun vs H Q _ => ∃ (x : V) (f : Addr) (N : Nt) (fl : List Int), vs = [x, .ref f] ∧ Dp K H x (dNt N) ∧ NtOk N ∧ SqT K H f (fl.map V.int) ∧ FlOk fl N.roads.length ∧
  ∀ (H' : Hp) (D : Addr) (es : List St), Same H H' → H D = none → H' D = some (.dT (stK es)) → es.length ≤ 50000 → IsSteps N fl es → Q (.ref D) H'
section
variable {P : Program} {w : World} {K : PySem.W.Frag} {mg : Str → Option Value} {base : Heap}
theorem scPSt : FnScope ["net", "failed", "table", "pop"] ["net", "failed"] (defScope sPSt) := ⟨rfl, rfl, rfl, by decide +kernel, rfl, by decide +kernel, by decide +kernel⟩
theorem ok_PSt {f : Addr} {fd : FuncData} {fNN : Addr} {fdNN : FuncData} {fNF : Addr} {fdNF : FuncData} {fCBH : Addr} {fdCBH : FuncData} {fPTb : Addr} {fdPTb : FuncData} {fEO : Addr} {fdEO : FuncData} {fWO : Addr} {fdWO : FuncData} (F : Fun K "pop_steps" "pop_steps" sPSt f fd) (T : Bt mg) (CNN : Cal K mg "need_net" fNN fdNN ["net"]) (GNN : FnOk P w K mg base CX0 8 fNN fdNN ["net"] (spNN K)) (CNF : Cal K mg "need_failed" fNF fdNF ["net", "failed"]) (GNF : FnOk P w K mg base CX0 4 fNF fdNF ["net", "failed"] (spNF K))
    (CCBH : Cal K mg "choices_by_head" fCBH fdCBH ["net", "failed"]) (GCBH : FnOk P w K mg base CX0 3 fCBH fdCBH ["net", "failed"] (spCBH K)) (CPTb : Cal K mg "pop_table" fPTb fdPTb ["free"]) (GPTb : FnOk P w K mg base CX0 6 fPTb fdPTb ["free"] (spPTb K)) (CEO : Cal K mg "edges_of" fEO fdEO ["table"]) (GEO : FnOk P w K mg base CX0 1 fEO fdEO ["table"] (spEO K))
    (CWO : Cal K mg "weight_of" fWO fdWO ["table", "edge"]) (GWO : FnOk P w K mg base CX0 1 fWO fdWO ["table", "edge"] (spWO K)) : FnOk P w K mg base CX0 9 f fd ["net", "failed"] (spPSt K) := by
  refine F.ok scPSt (fun vs H Q E h => ?_) (fun cdv A outer s H vs Q E hr h => ?_)
  · obtain ⟨x, fa, N, fl, rfl, _⟩ := h
    rfl
  · obtain ⟨x, fa, N, fl, rfl, dx, ok, sf, fo, k⟩ := h
    have hr8 : Room 8 (A.deeper (envOfC "pop_steps" (defScope sPSt) s.heap.objs.size f cdv)) := Room.mono hr (by decide)
    have hr6 : Room 6 (A.deeper (envOfC "pop_steps" (defScope sPSt) s.heap.objs.size f cdv)) := Room.mono hr (by decide)
    have hr4 : Room 4 (A.deeper (envOfC "pop_steps" (defScope sPSt) s.heap.objs.size f cdv)) := Room.mono hr (by decide)
    have hr3 : Room 3 (A.deeper (envOfC "pop_steps" (defScope sPSt) s.heap.objs.size f cdv)) := Room.mono hr (by decide)
    have hr1 : Room 1 (A.deeper (envOfC "pop_steps" (defScope sPSt) s.heap.objs.size f cdv)) := Room.mono hr (by decide)
    have hu1 : (A.deeper (envOfC "pop_steps" (defScope sPSt) s.heap.objs.size f cdv)).units + 1 < cLine := by
      have z := hr.un
      omega
    refine ⟨_, (pss_cons (ps_expr (pe_call GNN hr8 (by rfl) CNN.g CNN.k CNN.b .nil pass0 (pa_cons (pv 0) pa_nil)))
      (pss_cons (ps_expr (pe_call GNF hr4 (by rfl) CNF.g CNF.k CNF.b .nil pass0 (pa_cons (pv 0) (pa_cons (pv 1) pa_nil))))
      (pss_cons (ps_set (i := 2) scPSt.nd rfl (by first | exact Or.inl rfl | exact Or.inr rfl) (pe_call GPTb hr6 (by rfl) CPTb.g CPTb.k CPTb.b .nil pass0 (pa_cons (pe_call GCBH hr3 (by rfl) CCBH.g CCBH.k CCBH.b .nil pass0 (pa_cons (pv 0) (pa_cons (pv 1) pa_nil))) pa_nil)))
      (pss_one (ps_ret (pe_dcT hu1 (own := [("pop", 3)]) (g := gName 3) (tk := tVar 3) (tv := tCall (spWO K) [] E0 (tCons (tVar 2) (tCons (tVar 3) tNil))) rfl scPSt.nd (pi_tup (pe_call GEO hr1 (by rfl) CEO.g CEO.k CEO.b .nil pass0 (pa_cons (pv 2) pa_nil))) (blkOk_by (N := ["net", "failed", "table", "pop"]) (sc := defScope sPSt) (by decide +kernel))
        (fun _ _ _ _ _ => pg_name (i := 3) scPSt.nd rfl (.inl rfl)) (fun _ _ _ _ _ => pv 3) (fun _ _ _ _ _ => pe_call GWO hr1 (by rfl) CWO.g CWO.k CWO.b .nil pass0 (pa_cons (pv 2) (pa_cons (pv 3) pa_nil))))))))), ?_⟩
    obtain ⟨pn, pr, pl, pw, pps, rfl, en, er, el, ew, ppr⟩ := net_parts dx
    obtain ⟨rs, sr, rl, _⟩ := er.sq
    refine ⟨_, rfl, _, N, rfl, dx, ok, fun H1 s1 => ?_⟩
    refine ⟨_, rfl, _, rfl, pn, pr, fa, .ref pl, .ref pw, rs.map V.ref, fl, rfl, (Tk.of s1).seq en, (Tk.of s1).seq sr, by rw [List.length_map, rl]; exact ok.r2, (Tk.of s1).seq sf, by rw [List.length_map, rl]; exact fo, fun H2 s2 => ?_⟩
    have s12 := s1.trans s2
    refine ⟨_, rfl, _, rfl, _, fa, N, fl, rfl, dp_tk (Tk.of s12) _ _ (flat_nt N) dx, ok, (Tk.of s12).seq sf, fun ys H3 D us pm s3 nD fr => ?_⟩
    have mo := mvOf_ok ok (fl := fl) pm
    obtain ⟨m, en2⟩ := ends_nil fr.nd mo
    refine ⟨D, mvOf N fl ys, us, N.roads.length, m, rfl, fr, mo, by have z := ok.r2; omega, Nat.le_trans (mvOf_len ok pm) (by decide), fun y hy => ?_, en2, fun H4 a tb s4 na nr ta pt => ?_⟩
    · obtain ⟨_, e⟩ := mvOf_mem.mp hy
      rw [e]
      exact Nat.le_trans (moves_len ok) (by decide)
    obtain ⟨so, qok⟩ := sat_sound mo m [] (QOk.nil _ _) (fun k q w h => nomatch h)
    rw [← pt] at qok
    have tok : TbOk N.roads.length tb := tbOk_p qok
    have tl : tb.length ≤ 1000 := by
      have z := qok.len
      unfold pT at z
      rw [List.length_map, List.length_map] at z
      have z2 := mvOf_len ok (fl := fl) pm
      omega
    have n10 := ok.r2
    refine ⟨_, rfl, a, tb, N.roads.length, rfl, ta, tok, by omega, tl, fun H5 p qs s5 sq tr => ?_⟩
    refine ⟨p, rfl, ⟨_, sq⟩, fun E nE => ?_⟩
    generalize hts : (trisQ (pT tb)).mergeSort leT = ts at tr
    have isp : IsPops N fl ts := by
      rw [← hts, pt]
      exact sat_pops ok pm en2
    have inT : ∀ t ∈ ts, ∃ ad row, findT tb t.1.1 t.1.2 = some (ad, row) ∧ getR row t.2 = some (wtT tb t) ∧ (t.2, wtT tb t) ∈ lookQ (satQ (mvOf N fl ys) m []) t.1 := fun t ht => by
      rw [← hts, List.mem_mergeSort] at ht
      obtain ⟨w0, hw⟩ := (tris_mem qok.nd).mp ht
      have lk : lookT tb t.1.1 t.1.2 = lookQ (pT tb) t.1 := look_p tb t.1.1 t.1.2
      have gm := get_mem (lookQ_ok qok t.1).nd hw
      have gm : getR (lookQ (pT tb) t.1) t.2 = some w0 := gm
      have wt : wtT tb t = w0 := by
        unfold wtT
        rw [lk, gm]
        rfl
      cases fd : findT tb t.1.1 t.1.2 with
      | none =>
        have z : lookT tb t.1.1 t.1.2 = [] := by
          unfold lookT
          rw [fd]
          rfl
        rw [← lk, z] at hw
        cases hw
      | some e =>
        have z : lookT tb t.1.1 t.1.2 = e.2 := by
          unfold lookT
          rw [fd]
          rfl
        refine ⟨e.1, e.2, rfl, ?_, ?_⟩
        · rw [wt, ← z, lk]
          exact gm
        · rw [wt, ← pt]
          exact hw
    have tsl : ts.length ≤ 50000 := by
      have c : ts.length = (trisQ (pT tb)).length := by rw [← hts, List.length_mergeSort]
      rw [c]
      have z : ∀ l : Tbl, (∀ e ∈ l, e.2.2.length ≤ 10) → (trisQ (pT l)).length ≤ l.length * 10 := by
        intro l
        induction l with
        | nil => exact fun _ => Nat.zero_le _
        | cons e r ih =>
          intro h
          have a := ih fun x hx => h x (List.mem_cons_of_mem _ hx)
          have b := h e List.mem_cons_self
          have c : (trisQ (pT (e :: r))).length = e.2.2.length + (trisQ (pT r)).length := by
            unfold trisQ pT rowT
            rw [List.map_cons, List.map_cons, List.flatten_cons, List.length_append, List.length_map]
          rw [c, List.length_cons, Nat.succ_mul]
          omega
      have q := z tb fun e he => Nat.le_trans (tok e he).len n10
      omega
    let es : List Tri → List St := fun l => l.map fun t => (t, wtT tb t)
    have hes : ∀ l, es l = l.map fun t => (t, wtT tb t) := fun l => rfl
    have esk : ∀ l, (es l).map (·.1) = l := fun l => by
      rw [hes, List.map_map]
      exact List.map_id' _
    have esl : ∀ l, (es l).length = l.length := fun l => by rw [hes, List.length_map]
    have esa : ∀ l t, es (l ++ [t]) = es l ++ [(t, wtT tb t)] := fun l t => by
      rw [hes, hes, List.map_append]
      rfl
    clear_value es
    have qtl := Paired.length tr
    refine dct_it (walk_tup (K := K) (a := p) (xs := qs.map V.ref)) (fun i H' => H' E = some (.dT (stK (es (ts.take i)))) ∧ ∀ b o, H5 b = some o → H' b = some o) ⟨by rw [List.take_zero, hes]; exact upd_same, fun b o e => by rw [upd_ne (ne_of_none e nE)]; exact e⟩ (fun i H' _ ⟨_, kk⟩ => (Tk.of kk).seq sq) ?_ ?_
    rotate_left
    · rintro H' ⟨eE, kk⟩
      rw [List.length_map, qtl, List.take_length] at eE
      have sH := ((((s12.trans s3).trans s4).trans s5).trans kk)
      have nEH : H E = none := by
        cases z : H E with
        | none => rfl
        | some o =>
          have q := (((s12.trans s3).trans s4).trans s5) _ _ z
          rw [nE] at q
          cases q
      refine k H' E (es ts) sH nEH eE (by rw [esl]; exact tsl) ⟨by rw [esk]; exact isp, fun e he => ?_⟩
      rw [hes] at he
      obtain ⟨t, ht, rfl⟩ := List.mem_map.mp he
      obtain ⟨_, _, _, _, hw⟩ := inT t ht
      obtain ⟨d, lst⟩ := (sat_rows mo en2 t.1 t.2 (wtT tb t)).mp hw
      exact ⟨(der_perm pm).mp d, fun w' h' => lst w' ((der_perm pm).mpr h')⟩
    rintro i z H7 H6 hi ⟨eE, kk⟩ ⟨rfl, hz⟩
    rw [List.getElem?_map, Option.map_eq_some_iff] at hz
    obtain ⟨q, hqi, rfl⟩ := hz
    obtain ⟨t, ht, eq⟩ := paired_get tr _ _ hqi
    have tm := List.mem_of_getElem? ht
    obtain ⟨ad, row, fnd, gw, _⟩ := inT t tm
    have tk : ts.take (i + 1) = ts.take i ++ [t] := by rw [List.take_succ, ht]; rfl
    have s56 := s5.trans kk
    refine ⟨rfl, ?_⟩
    refine ⟨_, rfl, _, rfl, _, rfl, a, q, ad, tb, t.1.1, t.2, wtT tb t, t.1.2, row, rfl, ta.same s56, SqT.of (kk _ _ eq), fnd, gw, fun H8 s8 => ?_⟩
    have newk : t ∉ (es (ts.take i)).map (·.1) := fun m => by
      rw [esk] at m
      have nd2 := isp.2.1.sublist (List.take_sublist (i + 1) ts)
      rw [tk, List.nodup_append] at nd2
      exact nd2.2.2 t m t List.mem_cons_self rfl
    refine ⟨_, keyS t, q, rfl, s8 _ _ (kk _ _ eq), s8 _ _ eE, ?_, ?_, fun b o e => by rw [upd_ne (ne_of_none e nE)]; exact s8 _ _ (kk _ _ e)⟩
    · unfold stK
      rw [List.length_map, esl, List.length_take, sizeLine_eq]
      omega
    · rw [upd_same, tk, esa]
      rw [← stK_put (e := (t, wtT tb t)) newk]
end
end Lr


namespace Lr
open PySem PySem.Spec PyProof.Rows L2

/-top-/
theorem neDK {X : Cx} {K : PySem.W.Frag} (hu : X.A.units + 64 < cLine) (h : X.K = K := by rfl) : OpR X (compareOp .NotEq) (rNeD K) := h ▸ op_neD hu
/-- the roads at the tuple p -/
def TlAt (K : PySem.W.Frag) (H : Hp) (p : Addr) (rd : List (Int × Int)) : Prop := ∃ ps : List Addr, SqT K H p (ps.map V.ref) ∧ Paired (fun q a => SqT K H q [.int a.1, .int a.2]) ps rd
theorem TlAt.tk {K : PySem.W.Frag} {H H' : Hp} {p : Addr} {rd : List (Int × Int)} (h : TlAt K H p rd) (t : Tk H H') : TlAt K H' p rd := by
  obtain ⟨ps, e, pr⟩ := h
  exact ⟨ps, t.seq e, paired_mono (fun q a x => t.seq x) pr⟩
theorem TlAt.at {K : PySem.W.Frag} {H : Hp} {p : Addr} {rd : List (Int × Int)} (h : TlAt K H p rd) {j : Int} (j0 : 0 ≤ j) (j1 : j < (rd.length : Nat)) : ∃ (xs : List V) (a : Addr), SqT K H p xs ∧ atI xs j = some (V.ref a) ∧ SqT K H a [.int (rd.getD j.toNat (0, 0)).1, .int (rd.getD j.toNat (0, 0)).2] := by
  obtain ⟨ps, e, pr⟩ := h
  have jn : j.toNat < rd.length := by omega
  obtain ⟨a, ha, hs⟩ := paired_at pr j.toNat (rd.getD j.toNat (0, 0)) (by rw [List.getD_eq_getElem?_getD, List.getElem?_eq_getElem jn]; rfl)
  refine ⟨_, a, e, ?_, hs⟩
  have ej : j = ((j.toNat : Nat) : Int) := by omega
  rw [ej]
  exact atI_nat (by rw [List.getElem?_map, ha]; rfl)
/-- one of 0, 1, 1, 2, 2, wide -/
theorem pick6 {W : Nat} {r : Int} (w3 : W ≤ 3) (h0 : 0 ≤ r) (h1 : r < 6) : ∃ q : Nat, q ≤ 3 ∧ atI [V.int 0, V.int 1, V.int 1, V.int 2, V.int 2, V.int (W : Nat)] r = some (V.int (q : Nat)) := by
  have c : r = 0 ∨ r = 1 ∨ r = 2 ∨ r = 3 ∨ r = 4 ∨ r = 5 := by omega
  rcases c with rfl | rfl | rfl | rfl | rfl | rfl
  · exact ⟨0, by decide, rfl⟩
  · exact ⟨1, by decide, rfl⟩
  · exact ⟨1, by decide, rfl⟩
  · exact ⟨2, by decide, rfl⟩
  · exact ⟨2, by decide, rfl⟩
  · exact ⟨W, w3, rfl⟩
def spLGp (K : PySem.W.Frag) : Sp := fun vs H Q _ => ∃ (m c g p l : Addr) (road : Int) (n W : Nat) (rd : List (Int × Int)) (ls : List Str), vs = [.ref m, .ref p, .ref l, .int road, .int (W : Nat)] ∧ Ms H m c g n ∧ n + 50 < 100000 ∧ TlAt K H p rd ∧ rd.length ≤ 10 ∧ 0 ≤ road ∧ road < (rd.length : Nat) ∧ LbAt K H l ls ∧ 1 ≤ ls.length ∧ ls.length ≤ 10 ∧ W ≤ 3 ∧ (∀ x ∈ ls, x ∈ L5) ∧
  ∀ (L : Addr) (H' : Hp) (us : List V) (cs : List Chc) (n' : Nat), Kp H H' m g → Ms H' m c g n' → n' ≤ n + 15 → H' L = some (.lst us) → L ≠ m → L ≠ g → H L = none → DpAll K H' us (cs.map dCh) → cs.length ≤ 2 → cs.Nodup → (∀ e ∈ cs, ChOk rd ls road e) → Q (.ref L) H'
section
variable {P : Program} {w : World} {K : PySem.W.Frag} {mg : Str → Option Value} {base : Heap}
theorem scLGp : FnScope ["m", "roads", "labels", "road", "wide", "onward_so", "k", "some", "n", "word", "one"] ["m", "roads", "labels", "road", "wide"] (defScope sLGp) := ⟨rfl, rfl, rfl, by decide +kernel, rfl, by decide +kernel, by decide +kernel⟩
theorem ok_LGp {f : Addr} {fd : FuncData} {fDr : Addr} {fdDr : FuncData} (F : Fun K "_law_group" "_law_group" sLGp f fd) (T : Bt mg) (CDr : Cal K mg "_law_draw" fDr fdDr ["m", "limit"]) (GDr : FnOk P w K mg base CX0 2 fDr fdDr ["m", "limit"] spDra) : FnOk P w K mg base CX0 4 f fd ["m", "roads", "labels", "road", "wide"] (spLGp K) := by
  refine F.ok scLGp (fun vs H Q E h => ?_) (fun cdv A outer s H vs Q E hr h => ?_)
  · obtain ⟨m, c, g, p, l, road, n, W, rd, ls, rfl, M, nb, rl, r10, h0, h1, el, l1, l2, hW, l5, k⟩ := h
    rfl
  · obtain ⟨m, c, g, p, l, road, n, W, rd, ls, rfl, M, nb, rl, r10, h0, h1, el, l1, l2, hW, l5, k⟩ := h
    have hr2 : Room 2 (A.deeper (envOfC "_law_group" (defScope sLGp) s.heap.objs.size f cdv)) := Room.mono hr (by decide)
    have hu64 : (A.deeper (envOfC "_law_group" (defScope sLGp) s.heap.objs.size f cdv)).units + 64 < cLine := by
      have z := hr.un
      omega
    have hu65 : (A.deeper (envOfC "_law_group" (defScope sLGp) s.heap.objs.size f cdv)).units + 65 < cLine := by
      have z := hr.un
      omega
    refine ⟨_, pss_cons (ps_setLc (i := 5) (own := [("k", 6)]) (g := gName 6) (tt := _) rfl scLGp.nd rfl rfl (sw_true rfl rfl rfl (by decide +kernel)) (pi_range1 (by rfl) T.range (pa_cons (pe_callB (lenK (K := K)) (by rfl) T.len PySem.boot_len (pa_cons (pv 1) pa_nil)) pa_nil)) (blkOk_by (N := ["m", "roads", "labels", "road", "wide", "onward_so", "k", "some", "n", "word", "one"]) (sc := defScope sLGp) (by decide +kernel)) (fun _ _ _ _ _ => pg_name (i := 6) scLGp.nd rfl (.inl rfl)) (fun _ _ _ _ _ => pts_one (pt_cmpR op_eq (pe_ix (ixT (K := K)) (pe_ix (ixT (K := K)) (pv 1) (pv 6) (fun _ _ => rfl)) pe_int (fun _ _ => rfl)) (pe_ix (ixT (K := K)) (pe_ix (ixT (K := K)) (pv 1) (pv 3) (fun _ _ => rfl)) pe_int (fun _ _ => rfl)) (nomark _))) (fun _ _ _ _ _ => pv 6))
      (pss_cons (ps_set (i := 7) scLGp.nd rfl (by first | exact Or.inl rfl | exact Or.inr rfl) (pe_lst pa_nil))
      (pss_cons (ps_for PassesOwn.never rfl (pi_range1 (by rfl) T.range (pa_cons (pe_ifExp (pt_cmpR (op_neD hu64) (pv 5) (pe_lst pa_nil) (nomark _)) (pe_op op_add pe_int (pe_call GDr hr2 (by rfl) CDr.g CDr.k CDr.b .nil pass0 (pa_cons (pv 0) (pa_cons pe_int pa_nil)))) pe_int) pa_nil)) (pg_name (i := 8) scLGp.nd rfl (by first | exact Or.inl rfl | exact Or.inr rfl))
        (pss_cons (ps_set (i := 9) scLGp.nd rfl (by first | exact Or.inl rfl | exact Or.inr rfl) (pe_callTy call_tuple_of (by rfl) T.tuple (by decide +kernel) (pa_cons (pe_lc (own := [("k", 6)]) (g := gName 6) (tt := tYes) (te := tOp (rIxT K) (tVar 2) (tCall spDra [] E0 (tCons (tVar 0) (tCons (tCB (rLenSq K) (tCons (tVar 2) tNil)) tNil)))) rfl scLGp.nd (pi_range1 (by rfl) T.range (pa_cons (pe_ix (ixL (K := K)) (pe_lst (pa_cons pe_int (pa_cons pe_int (pa_cons pe_int (pa_cons pe_int (pa_cons pe_int (pa_cons (pv 4) pa_nil))))))) (pe_call GDr hr2 (by rfl) CDr.g CDr.k CDr.b .nil pass0 (pa_cons (pv 0) (pa_cons pe_int pa_nil))) (fun _ _ => rfl)) pa_nil)) (blkOk_by (N := ["m", "roads", "labels", "road", "wide", "onward_so", "k", "some", "n", "word", "one"]) (sc := defScope sLGp) (by decide +kernel)) (fun _ _ _ _ _ => pg_name (i := 6) scLGp.nd rfl (.inl rfl)) (fun _ _ _ _ _ => pts_nil)
        (fun _ _ _ _ _ => (pe_ix ix_tup (pv 2) (pe_call GDr hr2 (by rfl) CDr.g CDr.k CDr.b .nil pass0 (pa_cons (pv 0) (pa_cons (pe_callB call_len_seq (by rfl) T.len PySem.boot_len (pa_cons (pv 2) pa_nil)) pa_nil))) (fun _ _ => rfl)))) pa_nil)))
        (pss_cons (ps_set (i := 10) scLGp.nd rfl (by first | exact Or.inl rfl | exact Or.inr rfl) (pe_tup (pa_cons (pe_ix (ixL (K := K)) (pv 5) (pe_call GDr hr2 (by rfl) CDr.g CDr.k CDr.b .nil pass0 (pa_cons (pv 0) (pa_cons (pe_callB (lenK (K := K)) (by rfl) T.len PySem.boot_len (pa_cons (pv 5) pa_nil)) pa_nil))) (fun _ _ => rfl)) (pa_cons (pv 9) pa_nil))))
        (pss_one (ps_set (i := 7) scLGp.nd rfl (by first | exact Or.inl rfl | exact Or.inr rfl) (pe_op op_cat (pv 7) (pe_op op_rep (pe_lst (pa_cons (pv 10) pa_nil)) (pe_callTy call_int1 (by rfl) T.int (by decide +kernel) (pa_cons (pe_cmpR (notInK (K := K) hu65) (pv 10) (pv 7) (by rfl)) pa_nil)))))))))
      (pss_one (ps_ret (pv 7))))), ?_⟩
    obtain ⟨ps, ep, pr⟩ := id rl
    have lp := paired_len pr
    refine ⟨_, rfl, p, _, rfl, .inr ep, _, rfl, by omega, by rw [List.length_map]; omega, fun O nO => ?_⟩
    have en : (((ps.map V.ref).length : Nat) : Int).toNat = rd.length := by rw [List.length_map, lp]; omega
    rw [en]
    refine lc_range (lo := 0) (n := rd.length) (fun i H' => ∃ os : List Int, H' O = some (.lst (os.map V.int)) ∧ Same H H' ∧ os.length ≤ i ∧ i ≤ 10 ∧ ∀ o ∈ os, 0 ≤ o ∧ o < (rd.length : Nat) ∧ (rd.getD o.toNat (0, 0)).1 = (rd.getD road.toNat (0, 0)).2) ⟨[], upd_same, same_upd nO, Nat.le_refl _, by decide, fun o ho => nomatch ho⟩ ?_ ?_
    · rintro i H' hi ⟨os, eO, sm, lo, i10, oo⟩
      have rl' : TlAt K H' p rd := rl.tk (Tk.of sm)
      have z0 : (0 : Int) + (i : Int) = (i : Int) := by omega
      rw [z0]
      obtain ⟨xs1, a1, q1, t1, s1⟩ := rl'.at (j := (i : Int)) (by omega) (by omega)
      obtain ⟨xs2, a2, q2, t2, s2⟩ := rl'.at h0 h1
      refine ⟨rfl, ?_⟩
      refine ⟨_, rfl, _, rfl, p, _, _, _, rfl, rfl, q1, t1, a1, _, _, _, rfl, rfl, s1, (show atI [V.int (rd.getD (i : Int).toNat (0, 0)).1, V.int (rd.getD (i : Int).toNat (0, 0)).2] 0 = some (V.int (rd.getD (i : Int).toNat (0, 0)).1) from rfl), ?_⟩
      refine ⟨_, rfl, _, rfl, p, _, _, _, rfl, rfl, q2, t2, a2, _, _, _, rfl, rfl, s2, (show atI [V.int (rd.getD road.toNat (0, 0)).1, V.int (rd.getD road.toNat (0, 0)).2] 1 = some (V.int (rd.getD road.toNat (0, 0)).2) from rfl), ?_⟩
      refine ⟨rfl, _, rfl, ?_⟩
      by_cases e : (rd.getD (i : Int).toNat (0, 0)).1 = (rd.getD road.toNat (0, 0)).2
      · refine ifT (decide_eq_true (by rw [e])) ?_
        refine ⟨_, rfl, _, eO, by rw [List.length_map, sizeLine_eq]; omega, os ++ [(i : Int)], ?_, fun b o e => by rw [upd_ne (ne_of_none e nO)]; exact sm b o e, by simp; omega, by omega, fun o ho => ?_⟩
        · rw [upd_same, List.map_append]
          rfl
        · rcases List.mem_append.mp ho with ho | ho
          · exact oo o ho
          · rw [List.mem_singleton.mp ho]
            exact ⟨by omega, by omega, e⟩
      · exact ifF (decide_eq_false (fun z => e (by injection z))) ⟨os, eO, sm, by omega, by omega, oo⟩
    rintro H1 ⟨os, eO, s1, lo, _, oo⟩
    have M1 := M.same s1
    have nOm : O ≠ m := M1.at_m eO
    have nOg : O ≠ g := M.notg nO
    refine ⟨Nat.zero_le _, fun S nS => ?_⟩
    have nSm := M1.notm nS
    have nSg := M1.notg nS
    have HS : H S = none := s1.free nS
    have s2 : Same H1 (upd H1 S (.lst [])) := same_upd nS
    have eS : (upd H1 S (.lst [])) S = some (.lst []) := upd_same
    revert s2 eS
    generalize upd H1 S (.lst []) = H2
    intro s2 eS
    refine ⟨_, rfl, Nat.zero_le _, fun Z nZ => ?_⟩
    have s3 : Same H2 (upd H2 Z (.lst [])) := same_upd nZ
    have eZ : (upd H2 Z (.lst [])) Z = some (.lst []) := upd_same
    revert s3 eZ
    generalize upd H2 Z (.lst []) = H3
    intro s3 eZ
    have s13 := (s1.trans s2).trans s3
    have M3 := M.same s13
    have eO3 := s3 _ _ (s2 _ _ eO)
    have eS3 := s3 _ _ eS
    refine ⟨.list (os.map .int), .list [], .lst (SqL.of eO3) (dp_ints os), .lst (SqL.of eZ) .nil, shaped_ints os, rfl, _, rfl, ?_⟩
    by_cases emp : os = []
    · refine ifF (by rw [eqv_nil, emp]; rfl) ?_
      refine ⟨0, rfl, by decide, by decide, ?_⟩
      refine for_range (lo := 0) (n := 0) (fun i σ H' => σ = [some (.ref m), some (.ref p), some (.ref l), some (.int road), some (.int (W : Nat)), some (.ref O), none, some (.ref S), none, none, none] ∧ H' = H3) ⟨rfl, rfl⟩ (fun i σ H' hi _ => absurd hi (Nat.not_lt_zero _)) ?_
      rintro σ H' ⟨rfl, rfl⟩
      exact ⟨_, rfl, k S _ [] [] n (Kp.of s13) M3 (by omega) eS3 nSm nSg HS .nil (by decide) List.nodup_nil fun e he => nomatch he⟩
    refine ifT (by rw [eqv_nil]; cases os with | nil => exact absurd rfl emp | cons _ _ => rfl) ?_
    refine ⟨_, rfl, m, c, g, n, 2, rfl, by decide, by decide, by omega, M3, fun r H4 r0 r1 M4 (k4 : Kp H3 H4 m g) => ⟨_, _, rfl, rfl, 1 + r, rfl, by omega, by omega, ?_⟩⟩
    have k04 := (Kp.of s13 (m := m) (g := g)).trans k4
    refine for_range (lo := 0) (n := (1 + r).toNat) (fun i σ H' => ∃ (u8 u9 u10 : Option V) (L : Addr) (us : List V) (cs : List Chc) (n' : Nat), σ = [some (.ref m), some (.ref p), some (.ref l), some (.int road), some (.int (W : Nat)), some (.ref O), none, some (.ref L), u8, u9, u10] ∧ Kp H H' m g ∧ Ms H' m c g n' ∧ n' ≤ n + 1 + 6 * i ∧ H' O = some (.lst (os.map V.int)) ∧ H' L = some (.lst us) ∧ L ≠ m ∧ L ≠ g ∧ H L = none ∧ DpAll K H' us (cs.map dCh) ∧ cs.length ≤ i ∧ cs.Nodup ∧ ∀ e ∈ cs, ChOk rd ls road e)
      ⟨_, _, _, S, [], [], n + 1, rfl, k04, M4, by omega, k4 _ _ eO3 nOm nOg, k4 _ _ eS3 nSm nSg, nSm, nSg, HS, .nil, Nat.le_refl _, List.nodup_nil, fun e he => nomatch he⟩ ?_ ?_
    · rintro i σ H' hi ⟨u8, u9, u10, L, us, cs, n', rfl, kp, M', nb', eO', eL', nLm, nLg, HL, dus, lcs, nd, cok⟩
      have i2 : i < 2 := by omega
      refine ⟨_, rfl, by rw [sizeLine_eq]; show 6 ≤ 16777216; decide, fun PL nPL => ?_⟩
      have sP : Same H' (upd H' PL (.lst [.int 0, .int 1, .int 1, .int 2, .int 2, .int (W : Nat)])) := same_upd nPL
      have eP : (upd H' PL (.lst [.int 0, .int 1, .int 1, .int 2, .int 2, .int (W : Nat)])) PL = some (.lst [.int 0, .int 1, .int 1, .int 2, .int 2, .int (W : Nat)]) := upd_same
      revert sP eP
      generalize upd H' PL (.lst [.int 0, .int 1, .int 1, .int 2, .int 2, .int (W : Nat)]) = HB
      intro sP eP
      refine ⟨_, rfl, m, c, g, n', 6, rfl, by decide, by decide, by omega, M'.same sP, fun r5 H5 r50 r51 M5 (k5 : Kp HB H5 m g) => ?_⟩
      obtain ⟨q, q3, at_r⟩ := pick6 hW r50 r51
      refine ⟨PL, _, r5, _, rfl, rfl, SqL.of (k5 _ _ eP (M'.notm nPL) (M'.notg nPL)), at_r, ?_⟩
      refine ⟨(q : Int), rfl, by omega, by omega, fun D nD => ?_⟩
      have eq' : ((q : Nat) : Int).toNat = q := by omega
      rw [eq']
      have kp5 : Kp H' H5 m g := (Kp.of sP).trans k5
      have el5 : LbAt K H5 l ls := ((kp.trans kp5).tk M).seq el
      refine lc_range (lo := 0) (n := q) (fun e H7 => ∃ (ws : List Str) (n2 : Nat), ws.length = e ∧ (∀ x ∈ ws, x ∈ ls) ∧ H7 D = some (.lst (ws.map V.str)) ∧ Kp H5 H7 m g ∧ Ms H7 m c g n2 ∧ n2 ≤ n' + 1 + e)
        ⟨[], n' + 1, rfl, (fun x hx => nomatch hx), upd_same, (Kp.of (fun _ _ e => e)).put nD, M5.put (M5.notm nD) (M5.notc nD) (M5.notg nD), by omega⟩ ?_ ?_
      · rintro e H7 he ⟨ws, n2, lw, mem, eD, kp7, M7, nb7⟩
        refine ⟨rfl, yes_of ?_⟩
        refine ⟨_, rfl, _, rfl, _, rfl, l, _, rfl, .inr ((kp7.tk M5).seq el5), m, c, g, n2, _, rfl, by rw [List.length_map]; omega, by rw [List.length_map]; omega, by omega, M7, fun z H8 z0 z1 M8 (k8 : Kp H7 H8 m g) => ?_⟩
        rw [List.length_map] at z1
        have zl : z.toNat < ls.length := by omega
        have ez : z = ((z.toNat : Nat) : Int) := by omega
        refine ⟨l, _, z, _, rfl, rfl, ((kp7.trans k8).tk M5).seq el5, by rw [ez]; exact str_at (List.getElem?_eq_getElem zl), ?_⟩
        refine ⟨_, k8 D _ eD (M5.notm nD) (M5.notg nD), by rw [List.length_map, lw, sizeLine_eq]; omega, ws ++ [ls[z.toNat]], n2 + 1, by simp [lw], fun x hx => ?_, ?_, (kp7.trans k8).put nD, M8.put (M5.notm nD) (M5.notc nD) (M5.notg nD), by omega⟩
        · rcases List.mem_append.mp hx with hx | hx
          · exact mem x hx
          · rw [List.mem_singleton.mp hx]
            exact List.getElem_mem zl
        · rw [upd_same, List.map_append]
          rfl
      rintro H6 ⟨ws, n2, lw, mem, eD, kp6, M6, nb6⟩
      refine ⟨D, _, rfl, .inl ⟨SqL.of eD, fun wr nwr => ?_⟩⟩
      have sW : Same H6 (upd H6 wr (.tup (ws.map V.str))) := same_upd nwr
      have eW : (upd H6 wr (.tup (ws.map V.str))) wr = some (.tup (ws.map V.str)) := upd_same
      revert sW eW
      generalize upd H6 wr (.tup (ws.map V.str)) = HW
      intro sW eW
      have kW : Kp H' HW m g := (kp5.trans kp6).trans (Kp.of sW)
      have MW := M6.same sW
      have eOW := kW _ _ eO' nOm nOg
      have opos : 0 < os.length := by
        cases os with
        | nil => exact absurd rfl emp
        | cons _ _ => exact Nat.succ_pos _
      refine ⟨_, rfl, _, rfl, _, rfl, O, _, rfl, .inl (SqL.of eOW), m, c, g, n2, _, rfl, by rw [List.length_map]; omega, by rw [List.length_map]; omega, by omega, MW, fun z H9 z0 z1 M9 (k9 : Kp HW H9 m g) => ?_⟩
      rw [List.length_map] at z1
      have zl : z.toNat < os.length := by omega
      have ez : z = ((z.toNat : Nat) : Int) := by omega
      have om := oo _ (List.getElem_mem zl)
      have at_z : atI (os.map V.int) z = some (V.int os[z.toNat]) := by
        have q : atI (os.map V.int) ((z.toNat : Nat) : Int) = some (V.int os[z.toNat]) := atI_nat (by rw [List.getElem?_map, List.getElem?_eq_getElem zl]; rfl)
        rw [← ez] at q
        exact q
      refine ⟨O, _, z, V.int os[z.toNat], rfl, rfl, SqL.of (k9 _ _ eOW nOm nOg), at_z, ?_⟩
      refine ⟨_, rfl, by show 2 ≤ sizeLine; rw [sizeLine_eq]; decide, fun tt ntt => ?_⟩
      have sT : Same H9 (upd H9 tt (.tup [.int os[z.toNat], .ref wr])) := same_upd ntt
      have eT : (upd H9 tt (.tup [.int os[z.toNat], .ref wr])) tt = some (.tup [.int os[z.toNat], .ref wr]) := upd_same
      revert sT eT
      generalize upd H9 tt (.tup [.int os[z.toNat], .ref wr]) = HT
      intro sT eT
      have kT : Kp H' HT m g := (kW.trans k9).trans (Kp.of sT)
      have MT := M9.same sT
      refine ⟨_, rfl, _, rfl, by show 1 ≤ sizeLine; rw [sizeLine_eq]; decide, fun R1 nR1 => ?_⟩
      have sR : Same HT (upd HT R1 (.lst [.ref tt])) := same_upd nR1
      have eR : (upd HT R1 (.lst [.ref tt])) R1 = some (.lst [.ref tt]) := upd_same
      revert sR eR
      generalize upd HT R1 (.lst [.ref tt]) = HR
      intro sR eR
      have kR : Kp H' HR m g := kT.trans (Kp.of sR)
      have MR := MT.same sR
      have eLR := kR _ _ eL' nLm nLg
      have tkR : Tk H' HR := kR.tk M'
      have dusR := dp_tkAll tkR _ _ (flat_map _ flat_ch _) dus
      have tTR : Tk HW HR := ((k9.tk MW).trans (Tk.of sT)).trans (Tk.of sR)
      have dT : Dp K HR (.ref tt) (dCh (os[z.toNat], ws)) := .tup ((Tk.of sR).seq (SqT.of eT)) (.cons (.int _) (.cons (.tup (tTR.seq (SqT.of eW)) (dp_strs ws)) .nil))
      have cokT : ChOk rd ls road (os[z.toNat], ws) := ⟨om.1, om.2.1, om.2.2, by show ws.length ≤ 3; omega, mem⟩
      have w5 : ∀ x ∈ (os[z.toNat], ws).2, x ∈ L5 := fun x hx => l5 x (mem x hx)
      have c5 : ∀ e ∈ cs, ∀ x ∈ e.2, x ∈ L5 := fun e he x hx => l5 x ((cok e he).2.2.2.2 x hx)
      refine ⟨_, rfl, _, rfl, dCh (os[z.toNat], ws), cs.map dCh, dT, .lst (SqL.of eLR) dusR, shaped_ch w5, shaped_lst c5, .inr ⟨_, rfl, ?_⟩⟩
      have lus : us.length = cs.length := by
        have z := dpAll_len dus
        rw [List.length_map] at z
        exact z
      have kpR : Kp H HR m g := kp.trans kR
      rcases Bool.eq_false_or_eq_true ((cs.map dCh).any (fun z_1 => PyData.eqv z_1 (dCh (os[z.toNat], ws)))) with hb | hb
      · rw [hb]
        refine ⟨R1, 0, _, rfl, rfl, eR, by decide, by decide, by rw [sizeLine_eq]; show 0 ≤ 16777216; decide, fun R2 nR2 => ?_⟩
        have sR2 : Same HR (upd HR R2 (.lst (List.replicate (0 : Int).toNat [V.ref tt]).flatten)) := same_upd nR2
        have eR2 : (upd HR R2 (.lst (List.replicate (0 : Int).toNat [V.ref tt]).flatten)) R2 = some (.lst (List.replicate (0 : Int).toNat [V.ref tt]).flatten) := upd_same
        revert sR2 eR2
        generalize upd HR R2 (.lst (List.replicate (0 : Int).toNat [V.ref tt]).flatten) = HR2
        intro sR2 eR2
        have eR2 : HR2 R2 = some (.lst []) := eR2
        refine ⟨L, R2, _, _, rfl, rfl, sR2 _ _ eLR, eR2, by rw [sizeLine_eq]; show us.length + 0 ≤ 16777216; omega, fun L2 nL2 => ?_⟩
        have MR2 := MR.same sR2
        have kR2 : Kp H HR2 m g := kpR.trans (Kp.of sR2)
        have tk2 : Tk HR (upd HR2 L2 (.lst (us ++ []))) := (Tk.of sR2).trans (Tk.of (same_upd nL2))
        exact ⟨_, _, _, L2, _, cs, n2 + 1, rfl, kR2.trans (Kp.of (same_upd nL2)), MR2.same (same_upd nL2), by omega, (same_upd nL2) _ _ (sR2 _ _ (kR _ _ eO' nOm nOg)), upd_same, MR2.notm nL2, MR2.notg nL2, kR2.free MR2 nL2, by revert tk2; generalize upd HR2 L2 (.lst (us ++ [])) = HX; intro tk2; rw [List.append_nil]; exact dp_tkAll tk2 _ _ (flat_map _ flat_ch _) dusR, by omega, nd, cok⟩
      · rw [hb]
        refine ⟨R1, 1, _, rfl, rfl, eR, by decide, by decide, by rw [sizeLine_eq]; show 1 ≤ 16777216; decide, fun R2 nR2 => ?_⟩
        have sR2 : Same HR (upd HR R2 (.lst (List.replicate (1 : Int).toNat [V.ref tt]).flatten)) := same_upd nR2
        have eR2 : (upd HR R2 (.lst (List.replicate (1 : Int).toNat [V.ref tt]).flatten)) R2 = some (.lst (List.replicate (1 : Int).toNat [V.ref tt]).flatten) := upd_same
        revert sR2 eR2
        generalize upd HR R2 (.lst (List.replicate (1 : Int).toNat [V.ref tt]).flatten) = HR2
        intro sR2 eR2
        have eR2 : HR2 R2 = some (.lst [V.ref tt]) := eR2
        refine ⟨L, R2, _, _, rfl, rfl, sR2 _ _ eLR, eR2, by rw [sizeLine_eq]; show us.length + 1 ≤ 16777216; omega, fun L2 nL2 => ?_⟩
        have MR2 := MR.same sR2
        have kR2 : Kp H HR2 m g := kpR.trans (Kp.of sR2)
        have tk2 : Tk HR (upd HR2 L2 (.lst (us ++ [.ref tt]))) := (Tk.of sR2).trans (Tk.of (same_upd nL2))
        refine ⟨_, _, _, L2, _, cs ++ [(os[z.toNat], ws)], n2 + 1, rfl, kR2.trans (Kp.of (same_upd nL2)), MR2.same (same_upd nL2), by omega, (same_upd nL2) _ _ (sR2 _ _ (kR _ _ eO' nOm nOg)), upd_same, MR2.notm nL2, MR2.notg nL2, kR2.free MR2 nL2, ?_, by simp; omega, ?_, fun e he => ?_⟩
        · rw [List.map_append]
          exact dpAll_app (dp_tkAll tk2 _ _ (flat_map _ flat_ch _) dusR) (.cons (dp_tk tk2 _ _ (flat_ch _) dT) .nil)
        · have nin : (os[z.toNat], ws) ∉ cs := fun hk => by
            have z : (cs.map dCh).any (fun y => PyData.eqv y (dCh (os[z.toNat], ws))) = true := List.any_eq_true.mpr ⟨_, List.mem_map.mpr ⟨_, hk, rfl⟩, SeqAt.eqv_refl _ (lay_ch w5)⟩
            rw [z] at hb
            cases hb
          rw [List.nodup_append]
          exact ⟨nd, List.nodup_cons.mpr ⟨by simp, List.nodup_nil⟩, fun a ha b hb q => nin (by rw [List.mem_singleton.mp hb] at q; rw [← q]; exact ha)⟩
        · rcases List.mem_append.mp he with he | he
          · exact cok e he
          · rw [List.mem_singleton.mp he]
            exact cokT
    rintro σ H' ⟨u8, u9, u10, L, us, cs, n', rfl, kp, M', nb', eO', eL', nLm, nLg, HL, dus, lcs, nd, cok⟩
    exact ⟨_, rfl, k L H' us cs n' kp M' (by omega) eL' nLm nLg HL dus (by omega) nd cok⟩
end
end Lr


namespace Lr
open PySem PySem.Spec PyProof.Rows L2

/-top-/
def lbc (q : Nat) : List Str := (["a", "b", "c"] : List Str).take (q + 1)
theorem lbc_facts {q : Nat} (h : q ≤ 2) : 1 ≤ (lbc q).length ∧ (lbc q).length ≤ 3 ∧ (∀ x ∈ lbc q, x ∈ L5) ∧ (lbc q).Nodup ∧ (∀ y ∈ ("" : Str) :: lbc q, y ∈ M6) ∧ (("" : Str) :: lbc q).Pairwise (fun a b => rk a < rk b) := by
  have c : q = 0 ∨ q = 1 ∨ q = 2 := by omega
  rcases c with rfl | rfl | rfl <;> decide +kernel
theorem cut3_read {K : PySem.W.Frag} {H : Hp} {m c g lp : Addr} {n : Nat} {r : Int} {Q : VK} (r0 : 0 ≤ r) (r1 : r < 3) (M : Ms H m c g n) (hs : SqT K H lp [V.str "a", V.str "b", V.str "c"])
    (k : ∀ (l : Addr) (H' : Hp), LbAt K H' l (lbc r.toNat) → Same H H' → Q (.ref l) H') : rSlA K (.ref lp) none (some (1 + r)) H Q := by
  have c : r = 0 ∨ r = 1 ∨ r = 2 := by omega
  refine ⟨lp, _, rfl, hs, fun wh => ?_, fun nw l nl => ?_⟩
  · rcases c with rfl | rfl | rfl
    · exact absurd wh (by decide)
    · exact absurd wh (by decide)
    · exact k lp H hs (Same.refl H)
  · rcases c with rfl | rfl | rfl
    · exact k l _ (SqT.of upd_same) (same_upd nl)
    · exact k l _ (SqT.of upd_same) (same_upd nl)
    · exact absurd (by decide) nw
/-- a drawn list of choices, none of the lists that change -/
def LsAt (K : PySem.W.Frag) (m g D : Addr) (H : Hp) (a : Addr) (cs : List Chc) : Prop := a ≠ m ∧ a ≠ g ∧ a ≠ D ∧ ∃ us : List V, H a = some (.lst us) ∧ DpAll K H us (cs.map dCh)
theorem LsAt.kp {K : PySem.W.Frag} {m g D : Addr} {H H' : Hp} {a : Addr} {cs : List Chc} (h : LsAt K m g D H a cs) (k : Kp H H' m g) (t : Tk H H') : LsAt K m g D H' a cs := by
  obtain ⟨h1, h2, h3, us, e, d⟩ := h
  exact ⟨h1, h2, h3, us, k _ _ e h1 h2, dp_tkAll t _ _ (flat_map _ flat_ch _) d⟩
theorem LsAt.put {K : PySem.W.Frag} {m g D : Addr} {H : Hp} {a : Addr} {cs : List Chc} {xs : List V} {o : HO} (h : LsAt K m g D H a cs) (e : H D = some (.lst xs)) : LsAt K m g D (upd H D o) a cs := by
  obtain ⟨h1, h2, h3, us, e2, d⟩ := h
  exact ⟨h1, h2, h3, us, by rw [upd_ne h3]; exact e2, dp_tkAll (tk_lst e) _ _ (flat_map _ flat_ch _) d⟩
theorem LsAt.same {K : PySem.W.Frag} {m g D : Addr} {H H' : Hp} {a : Addr} {cs : List Chc} (h : LsAt K m g D H a cs) (s : Same H H') : LsAt K m g D H' a cs := h.kp (Kp.of s) (Tk.of s)
theorem eqv_nilC : ∀ cs : List Chc, PyData.eqv (.list (cs.map dCh)) (.list []) = cs.isEmpty
  | [] => rfl
  | _ :: _ => rfl
theorem eqv_nilG : ∀ gs : List Gr, PyData.eqv (.tuple (gs.map dGr)) (.tuple []) = gs.isEmpty
  | [] => rfl
  | _ :: _ => rfl
theorem shaped_grs : ∀ {gs : List Gr}, (∀ g ∈ gs, ∀ c ∈ g, ∀ x ∈ c.2, x ∈ L5) → PyData.canLayAll0 (gs.map dGr) = true ∧ PyData.depthAll (gs.map dGr) ≤ 3
  | [], _ => ⟨rfl, Nat.zero_le _⟩
  | g :: gs, h => by
    obtain ⟨h1, h2⟩ := shaped_grs fun d hd => h d (List.mem_cons_of_mem _ hd)
    obtain ⟨h3, h4⟩ := shaped_chs (h g List.mem_cons_self)
    refine ⟨?_, ?_⟩
    · show (PyData.canLayAll0 (g.map dCh) && PyData.canLayAll0 (gs.map dGr)) = true
      rw [h3, h1]
      rfl
    · show max (PyData.depthAll (g.map dCh) + 1) (PyData.depthAll (gs.map dGr)) ≤ 3
      omega
theorem shaped_tgr {gs : List Gr} (h : ∀ g ∈ gs, ∀ c ∈ g, ∀ x ∈ c.2, x ∈ L5) : SeqAt.shaped (.tuple (gs.map dGr)) = true := by
  obtain ⟨h1, h2⟩ := shaped_grs h
  unfold SeqAt.shaped
  rw [Bool.and_eq_true, decide_eq_true_eq]
  refine ⟨h1, ?_⟩
  show PyData.depthAll (gs.map dGr) + 1 ≤ 64
  omega
theorem some_plus : ∀ b : Bool, ∃ q : Nat, 1 ≤ q ∧ q ≤ 2 ∧ ((1 : Int) + (if b = true then 1 else 0)) = (q : Nat)
  | true => ⟨2, by decide, by decide, rfl⟩
  | false => ⟨1, by decide, by decide, rfl⟩
def spLNc (K : PySem.W.Frag) : Sp := fun vs H Q _ => ∃ (m c g : Addr) (n W : Nat) (R : Int), vs = [.ref m, .int R, .int (W : Nat)] ∧ Ms H m c g n ∧ n + 2000 < 100000 ∧ 1 ≤ R ∧ R ≤ 10 ∧ W ≤ 3 ∧
  ∀ (v : V) (H' : Hp) (N : Nt) (n' : Nat), Kp H H' m g → Ms H' m c g n' → n' ≤ n + 1500 → (N.roads.length : Int) ≤ R → Dp K H' v (dNt N) → NtOk N → Q v H'
def spLNz (K : PySem.W.Frag) : Sp := fun vs H Q _ => ∃ (m c g : Addr) (n W : Nat) (R : Int), vs = [.ref m, .int R, .int (W : Nat)] ∧ Ms H m c g n ∧ n + 2000 < 100000 ∧ 1 ≤ R ∧ R ≤ 10 ∧ W ≤ 3 ∧
  ∀ (v : V) (H' : Hp) (N : Nt) (n' : Nat), Kp H H' m g → Ms H' m c g n' → n' ≤ n + 1500 → (N.roads.length : Int) ≤ R → Dp K H' v (dNt N) → NtOk N → NetZ K H' v N → Q v H'
abbrev rTupOf (K : PySem.W.Frag) : List V → Hp → VK → Prop := fun xs H Q => ∃ p ys, xs = [.ref p] ∧ ((SqL K H p ys ∧ ∀ l, H l = none → Q (.ref l) (upd H l (.tup ys))) ∨ (SqT K H p ys ∧ Q (.ref p) H))
theorem tupK {X : Cx} {K : PySem.W.Frag} (h : X.K = K := by rfl) : CallR X (.type "tuple") (rTupOf K) := h ▸ call_tuple_of

section
variable {P : Program} {w : World} {K : PySem.W.Frag} {mg : Str → Option Value} {base : Heap}
theorem scLN : FnScope ["m", "most", "wide", "houses", "labels", "roads", "k", "rows", "road", "top", "way", "groups", "n", "one"] ["m", "most", "wide"] (defScope sLN) := ⟨rfl, rfl, rfl, by decide +kernel, rfl, by decide +kernel, by decide +kernel⟩
theorem ok_LN {f : Addr} {fd : FuncData} {fDr : Addr} {fdDr : FuncData} {fLGp : Addr} {fdLGp : FuncData} (F : Fun K "_law_net" "_law_net" sLN f fd) (T : Bt mg) (CDr : Cal K mg "_law_draw" fDr fdDr ["m", "limit"]) (GDr : FnOk P w K mg base CX0 2 fDr fdDr ["m", "limit"] spDra) (CLGp : Cal K mg "_law_group" fLGp fdLGp ["m", "roads", "labels", "road", "wide"]) (GLGp : FnOk P w K mg base CX0 4 fLGp fdLGp ["m", "roads", "labels", "road", "wide"] (spLGp K)) : FnOk P w K mg base CX0 5 f fd ["m", "most", "wide"] (spLNz K) := by
  refine F.ok scLN (fun vs H Q E h => ?_) (fun cdv A outer s H vs Q E hr h => ?_)
  · obtain ⟨m, c, g, n, W, R, rfl, M, nb, R1, R10, hW, k⟩ := h
    rfl
  · obtain ⟨m, c, g, n, W, R, rfl, M, nb, R1, R10, hW, k⟩ := h
    have hr2 : Room 2 (A.deeper (envOfC "_law_net" (defScope sLN) s.heap.objs.size f cdv)) := Room.mono hr (by decide)
    have hr4 : Room 4 (A.deeper (envOfC "_law_net" (defScope sLN) s.heap.objs.size f cdv)) := Room.mono hr (by decide)
    have hu64 : (A.deeper (envOfC "_law_net" (defScope sLN) s.heap.objs.size f cdv)).units + 64 < cLine := by
      have z := hr.un
      omega
    refine ⟨_, pss_cons (ps_asg (pe_tup (pa_cons (pe_op op_add pe_int (pe_call GDr hr2 (by rfl) CDr.g CDr.k CDr.b .nil pass0 (pa_cons (pv 0) (pa_cons pe_int pa_nil)))) (pa_cons (pe_slice sl_tupA (pe_tup (pa_cons pe_str (pa_cons pe_str (pa_cons pe_str pa_nil)))) po_none (po_some (pe_op op_add pe_int (pe_call GDr hr2 (by rfl) CDr.g CDr.k CDr.b .nil pass0 (pa_cons (pv 0) (pa_cons pe_int pa_nil)))))) pa_nil))) (pg_tup (by rfl) (pgs_cons (pg_name (i := 3) scLN.nd rfl (by first | exact Or.inl rfl | exact Or.inr rfl)) (pgs_cons (pg_name (i := 4) scLN.nd rfl (by first | exact Or.inl rfl | exact Or.inr rfl)) pgs_nil))))
      (pss_cons (ps_set (i := 5) scLN.nd rfl (by first | exact Or.inl rfl | exact Or.inr rfl) (pe_callTy call_tuple_of (by rfl) T.tuple (by decide +kernel) (pa_cons (pe_lc (own := [("k", 6)]) (g := gName 6) (tt := tYes) (te := tTup (tCons (tCall spDra [] E0 (tCons (tVar 0) (tCons (tVar 3) tNil))) (tCons (tCall spDra [] E0 (tCons (tVar 0) (tCons (tVar 3) tNil))) tNil))) rfl scLN.nd (pi_range1 (by rfl) T.range (pa_cons (pe_op op_add pe_int (pe_call GDr hr2 (by rfl) CDr.g CDr.k CDr.b .nil pass0 (pa_cons (pv 0) (pa_cons (pv 1) pa_nil)))) pa_nil)) (blkOk_by (N := ["m", "most", "wide", "houses", "labels", "roads", "k", "rows", "road", "top", "way", "groups", "n", "one"]) (sc := defScope sLN) (by decide +kernel)) (fun _ _ _ _ _ => pg_name (i := 6) scLN.nd rfl (.inl rfl)) (fun _ _ _ _ _ => pts_nil)
        (fun _ _ _ _ _ => (pe_tup (pa_cons (pe_call GDr hr2 (by rfl) CDr.g CDr.k CDr.b .nil pass0 (pa_cons (pv 0) (pa_cons (pv 3) pa_nil))) (pa_cons (pe_call GDr hr2 (by rfl) CDr.g CDr.k CDr.b .nil pass0 (pa_cons (pv 0) (pa_cons (pv 3) pa_nil))) pa_nil))))) pa_nil)))
      (pss_cons (ps_set (i := 7) scLN.nd rfl (by first | exact Or.inl rfl | exact Or.inr rfl) (pe_lst pa_nil))
      (pss_cons (ps_for PassesOwn.never rfl (pi_range1 (by rfl) T.range (pa_cons (pe_callB (lenK (K := K)) (by rfl) T.len PySem.boot_len (pa_cons (pv 5) pa_nil)) pa_nil)) (pg_name (i := 8) scLN.nd rfl (by first | exact Or.inl rfl | exact Or.inr rfl))
        (pss_one (ps_for PassesOwn.never rfl (pi_tup (pe_op (catTK (K := K)) (pe_tup (pa_cons pe_str pa_nil)) (pv 4))) (pg_name (i := 9) scLN.nd rfl (by first | exact Or.inl rfl | exact Or.inr rfl))
          (pss_cons (ps_set (i := 10) scLN.nd rfl (by first | exact Or.inl rfl | exact Or.inr rfl) (pe_call GDr hr2 (by rfl) CDr.g CDr.k CDr.b .nil pass0 (pa_cons (pv 0) (pa_cons pe_int pa_nil))))
          (pss_cons (ps_setLc (i := 11) (own := [("n", 12)]) (g := gName 12) (tt := tYes) (te := tCall (spLGp K) [] E0 (tCons (tVar 0) (tCons (tVar 5) (tCons (tVar 4) (tCons (tVar 8) (tCons (tVar 2) tNil)))))) rfl scLN.nd rfl rfl (sw_true rfl rfl rfl (by decide +kernel)) (pi_range1 (by rfl) T.range (pa_cons (pe_op op_add pe_int (pe_callTy call_int1 (by rfl) T.int (by decide +kernel) (pa_cons (pe_cmpR op_gt (pv 10) pe_int (nomark _)) pa_nil))) pa_nil)) (blkOk_by (N := ["m", "most", "wide", "houses", "labels", "roads", "k", "rows", "road", "top", "way", "groups", "n", "one"]) (sc := defScope sLN) (by decide +kernel)) (fun _ _ _ _ _ => pg_name (i := 12) scLN.nd rfl (.inl rfl)) (fun _ _ _ _ _ => pts_nil) (fun _ _ _ _ _ => (pe_call GLGp hr4 (by rfl) CLGp.g CLGp.k CLGp.b .nil pass0 (pa_cons (pv 0) (pa_cons (pv 5) (pa_cons (pv 4) (pa_cons (pv 8) (pa_cons (pv 2) pa_nil))))))))
          (pss_cons (ps_set (i := 11) scLN.nd rfl (by first | exact Or.inl rfl | exact Or.inr rfl) (pe_callTy call_tuple_of (by rfl) T.tuple (by decide +kernel) (pa_cons (pe_lc (own := [("one", 13)]) (g := gName 13) (tt := _) rfl scLN.nd (pi_list (pv 11)) (blkOk_by (N := ["m", "most", "wide", "houses", "labels", "roads", "k", "rows", "road", "top", "way", "groups", "n", "one"]) (sc := defScope sLN) (by decide +kernel)) (fun _ _ _ _ _ => pg_name (i := 13) scLN.nd rfl (.inl rfl)) (fun _ _ _ _ _ => pts_one (pt_cmpR (neDK (K := K) hu64) (pv 13) (pe_lst pa_nil) (nomark _)))
        (fun _ _ _ _ _ => (pe_callTy (tupK (K := K)) (by rfl) T.tuple (by decide +kernel) (pa_cons (pv 13) pa_nil)))) pa_nil)))
          (pss_one (ps_if (PW.pt (pw_or (pt_cmpR op_eq (pv 10) pe_int (nomark _)) (pw_or1 (PW.pt (pw_and (pt_cmpR op_eq (pv 10) pe_int (nomark _)) (pw_and1 (pt_cmpR op_eq (pv 9) pe_str (nomark _)))))))) (pss_one (ps_expr (pe_bm PySem.F.plainAttrs_list PySem.F.slot_list_append PySem.F.type_list_append mt_append (pv 7) (pa_cons (pe_tup (pa_cons (pe_tup (pa_cons (pv 8) (pa_cons (pv 9) pa_nil))) (pa_cons pe_str pa_nil))) pa_nil)))) (pss_one (ps_if (PW.pt (pw_and (pt_cmpR op_gt (pv 10) pe_int (nomark _)) (pw_and1 (pt_cmpR (op_neD hu64) (pv 11) (pe_tup pa_nil) (nomark _))))) (pss_one (ps_expr (pe_bm PySem.F.plainAttrs_list PySem.F.slot_list_append PySem.F.type_list_append mt_append (pv 7) (pa_cons (pe_tup (pa_cons (pe_tup (pa_cons (pv 8) (pa_cons (pv 9) pa_nil))) (pa_cons (pv 11) pa_nil))) pa_nil)))) pss_nil))))))))))
      (pss_one (ps_ret (pe_tup (pa_cons (pv 5) (pa_cons (pv 4) (pa_cons (pe_callTy cr_tupZ (by rfl) T.tuple (by decide +kernel) (pa_cons (pv 7) pa_nil)) pa_nil))))))))), ?_⟩
    refine ⟨_, rfl, m, c, g, n, 3, rfl, by decide, by decide, by omega, M, fun r1 H1 r10 r11 M1 (k1 : Kp H H1 m g) => ⟨_, _, rfl, rfl, s3le, fun lp nlp => ?_⟩⟩
    have s5 : Same H1 (upd H1 lp (.tup [.str "a", .str "b", .str "c"])) := same_upd nlp
    have elp : (upd H1 lp (.tup [.str "a", .str "b", .str "c"])) lp = some (.tup [.str "a", .str "b", .str "c"]) := upd_same
    revert s5 elp
    generalize upd H1 lp (.tup [.str "a", .str "b", .str "c"]) = H2
    intro s5 elp
    have M2 := M1.same s5
    refine ⟨_, rfl, m, c, g, _, 3, rfl, by decide, by decide, by omega, M2, fun r3 H3 r30 r31 M3 (k3 : Kp H2 H3 m g) => ?_⟩
    refine ⟨_, _, rfl, rfl, _, rfl, ?_⟩
    refine cut3_read r30 r31 M3 ((k3.tk M2).seq (SqT.of elp)) fun l H40 el40 s40 => ?_
    refine ⟨s2le, fun tq ntq => ?_⟩
    have stq : Same H40 (upd H40 tq (.tup [.int (2 + r1), .ref l])) := same_upd ntq
    have etq : (upd H40 tq (.tup [.int (2 + r1), .ref l])) tq = some (.tup [.int (2 + r1), .ref l]) := upd_same
    revert stq etq
    generalize upd H40 tq (.tup [.int (2 + r1), .ref l]) = H4
    intro stq etq
    refine ⟨tq, _, rfl, SqT.of etq, rfl, _, _, rfl, _, _, rfl, rfl, ?_⟩
    have s4 := s40.trans stq
    have el4 : LbAt K H4 l (lbc r3.toNat) := (Tk.of stq).seq el40
    obtain ⟨f1, f2, f3, f4, f5, f6⟩ := lbc_facts (q := r3.toNat) (by omega)
    generalize lbc r3.toNat = ls at el4 f1 f2 f3 f4 f5 f6
    have M4 := M3.same s4
    have k04 : Kp H H4 m g := ((k1.trans (Kp.of s5)).trans k3).trans (Kp.of s4)
    refine ⟨_, rfl, _, rfl, m, c, g, n + 2, R, rfl, by omega, by omega, by omega, M4, fun r2 H5 r20 r21 M5 (k5 : Kp H4 H5 m g) => ⟨_, _, rfl, rfl, 1 + r2, rfl, by omega, by omega, fun D nD => ?_⟩⟩
    have nDm := M5.notm nD
    have nDg := M5.notg nD
    have nDc := M5.notc nD
    refine lc_range (lo := 0) (n := (1 + r2).toNat) (fun i H' => ∃ (ps : List Addr) (rd : List (Int × Int)), H' D = some (.lst (ps.map V.ref)) ∧ Paired (fun q a => SqT K H' q [.int a.1, .int a.2]) ps rd ∧ rd.length = i ∧ Kp H5 H' m g ∧ Ms H' m c g (n + 3 + 2 * i) ∧ ∀ e ∈ rd, 0 ≤ e.1 ∧ e.1 ≤ 7 ∧ 0 ≤ e.2 ∧ e.2 ≤ 7)
      ⟨[], [], upd_same, .nil, rfl, (Kp.of (fun _ _ e => e)).put nD, M5.put nDm nDc nDg, fun e he => nomatch he⟩ ?_ ?_
    · rintro i H' hi ⟨ps, rd, eD, pr, lrd, kp, M', hrd⟩
      refine ⟨rfl, yes_of ?_⟩
      refine ⟨_, rfl, _, rfl, m, c, g, _, _, rfl, by omega, by omega, by omega, M', fun x H6 x0 x1 M6 (k6 : Kp H' H6 m g) => ?_⟩
      refine ⟨_, rfl, _, rfl, m, c, g, _, _, rfl, by omega, by omega, by omega, M6, fun y H7 y0 y1 M7 (k7 : Kp H6 H7 m g) => ?_⟩
      refine ⟨s2le, fun tt ntt => ?_⟩
      have st : Same H7 (upd H7 tt (.tup [.int x, .int y])) := same_upd ntt
      have ett : (upd H7 tt (.tup [.int x, .int y])) tt = some (.tup [.int x, .int y]) := upd_same
      revert st ett
      generalize upd H7 tt (.tup [.int x, .int y]) = H8
      intro st ett
      have eD8 := st _ _ (k7 _ _ (k6 _ _ eD nDm nDg) nDm nDg)
      have lps := Paired.length pr
      have t1 : Tk H' (upd H8 D (.lst (ps.map V.ref ++ [.ref tt]))) := (((k6.trans k7).tk M').trans (Tk.of st)).trans (tk_lst eD8)
      refine ⟨_, eD8, by rw [List.length_map, sizeLine_eq]; omega, ps ++ [tt], rd ++ [(x, y)], by rw [upd_same, List.map_append]; rfl, ?_, by simp [lrd], (((kp.trans k6).trans k7).trans (Kp.of st)).put nD, (M7.same st).put nDm nDc nDg, fun e he => ?_⟩
      · exact Paired.snoc (paired_mono (fun q a z => t1.seq z) pr) ((tk_lst eD8).seq (SqT.of ett))
      · rcases List.mem_append.mp he with he | he
        · exact hrd e he
        · rw [List.mem_singleton.mp he]
          exact ⟨x0, by show x ≤ 7; omega, y0, by show y ≤ 7; omega⟩
    rintro H6 ⟨ps, rd, eD, pr, lrd, kp, M6, hrd⟩
    refine ⟨D, _, rfl, .inl ⟨SqL.of eD, fun pt npt => ?_⟩⟩
    have s7 : Same H6 (upd H6 pt (.tup (ps.map V.ref))) := same_upd npt
    have ept : (upd H6 pt (.tup (ps.map V.ref))) pt = some (.tup (ps.map V.ref)) := upd_same
    revert s7 ept
    generalize upd H6 pt (.tup (ps.map V.ref)) = H7
    intro s7 ept
    have rd1 : 1 ≤ rd.length := by omega
    have rd2 : rd.length ≤ 10 := by omega
    have rdR : (rd.length : Int) ≤ R := by omega
    have M7 : Ms H7 m c g (n + 3 + 2 * rd.length) := by rw [lrd]; exact M6.same s7
    have k07 : Kp H H7 m g := ((k04.trans k5).trans kp).trans (Kp.of s7)
    have tl7 : TlAt K H7 pt rd := ⟨ps, SqT.of ept, paired_mono (fun q a z => (Tk.of s7).seq z) pr⟩
    have el7 : LbAt K H7 l ls := ((((k5.trans kp).trans (Kp.of s7))).tk M4).seq el4
    refine ⟨Nat.zero_le _, fun F nF => ?_⟩
    have nFm := M7.notm nF
    have nFg := M7.notg nF
    have nFc := M7.notc nF
    have sF : Same H7 (upd H7 F (.lst [])) := same_upd nF
    have eF : (upd H7 F (.lst [])) F = some (.lst []) := upd_same
    revert sF eF
    generalize upd H7 F (.lst []) = H8
    intro sF eF
    have M8 := M7.same sF
    obtain ⟨ps8, ept8, pr8⟩ := id tl7
    have lp8 := paired_len pr8
    refine ⟨_, rfl, pt, _, rfl, .inr ((Tk.of sF).seq ept8), _, rfl, by omega, by rw [List.length_map]; omega, ?_⟩
    have en : (((ps8.map V.ref).length : Nat) : Int).toNat = rd.length := by rw [List.length_map, lp8]; omega
    rw [en]
    refine for_range (lo := 0) (n := rd.length) (fun i σ H' => ∃ (u8 u9 u10 u11 : Option V) (us : List V) (rs : List Rwt) (n' : Nat), σ = [some (.ref m), some (.int R), some (.int (W : Nat)), some (.int (2 + r1)), some (.ref l), some (.ref pt), none, some (.ref F), u8, u9, u10, u11, none, none] ∧ Kp H7 H' m g ∧ Ms H' m c g n' ∧ n' ≤ n + 30 + 128 * i ∧ H' F = some (.lst us) ∧ HrAll K H' us rs ∧ rs.length ≤ i * (ls.length + 1) ∧ (∀ e ∈ rs, RwOk rd ls e) ∧ rs.Pairwise Rr ∧ ∀ e ∈ rs, e.1.1 < (i : Nat))
      ⟨_, _, _, _, [], [], _, rfl, Kp.of sF, M8, by omega, eF, HrAll.nil, Nat.zero_le _, (fun e he => nomatch he), .nil, fun e he => nomatch he⟩ ?_ ?_
    · rintro i σ HB hi ⟨u8, u9, u10, u11, us, rs, n1, rfl, kp1, M1', nb1, eF1, du1, lr1, ok1, pw1, lt1⟩
      refine ⟨s1le, fun e1 ne1 => ?_⟩
      have se1 : Same HB (upd HB e1 (.tup [.str ""])) := same_upd ne1
      have ee1 : (upd HB e1 (.tup [.str ""])) e1 = some (.tup [.str ""]) := upd_same
      revert se1 ee1
      generalize upd HB e1 (.tup [.str ""]) = HB1
      intro se1 ee1
      have elB : LbAt K HB1 l ls := ((kp1.tk M7).trans (Tk.of se1)).seq el7
      refine ⟨_, rfl, e1, l, [.str ""], ls.map V.str, rfl, rfl, SqT.of ee1, elB, (fun z => nomatch z), by rw [List.length_map, sizeLine_eq]; show 1 + ls.length ≤ 16777216; omega, (fun z => ?_), fun _ cp ncp => ?_⟩
      · cases ls with
        | nil => exact absurd f1 (by decide)
        | cons _ _ => cases z
      have scp : Same HB1 (upd HB1 cp (.tup ([V.str ""] ++ ls.map V.str))) := same_upd ncp
      have ecp : (upd HB1 cp (.tup ([V.str ""] ++ ls.map V.str))) cp = some (.tup ((("" : Str) :: ls).map V.str)) := upd_same
      revert scp ecp
      generalize upd HB1 cp (.tup ([V.str ""] ++ ls.map V.str)) = HC
      intro scp ecp
      have sBC := se1.trans scp
      have MC := M1'.same sBC
      refine ⟨cp, rfl, ⟨_, SqT.of ecp⟩, ?_⟩
      have i0 : (0 : Int) + (i : Int) = (i : Int) := by omega
      rw [i0]
      refine for_tup (K := K) (a := cp) (xs := (("" : Str) :: ls).map V.str) (fun j σ H' => ∃ (u9 u10 u11 : Option V) (us : List V) (rs : List Rwt) (n' : Nat), σ = [some (.ref m), some (.int R), some (.int (W : Nat)), some (.int (2 + r1)), some (.ref l), some (.ref pt), none, some (.ref F), some (.int (i : Int)), u9, u10, u11, none, none] ∧ Kp H7 H' m g ∧ Ms H' m c g n' ∧ n' ≤ n + 30 + 128 * i + 32 * j ∧ H' F = some (.lst us) ∧ HrAll K H' us rs ∧ rs.length ≤ i * (ls.length + 1) + j ∧ (∀ e ∈ rs, RwOk rd ls e) ∧ rs.Pairwise Rr ∧ (∀ e ∈ rs, e.1.1 < (i : Nat) ∨ (e.1.1 = (i : Nat) ∧ ∃ j', j' < j ∧ (("" : Str) :: ls)[j']? = some e.1.2)) ∧ SqT K H' cp ((("" : Str) :: ls).map V.str))
        ⟨_, _, _, us, rs, n1, rfl, kp1.trans (Kp.of sBC), MC, by omega, sBC _ _ eF1, HrAll.tk du1 (Tk.of sBC), by omega, ok1, pw1, (fun e he => .inl (lt1 e he)), SqT.of ecp⟩
        (fun j σ H' _ ⟨_, _, _, _, _, _, _, _, _, _, _, _, _, _, _, _, z⟩ => z) ?_ ?_
      · rintro j xv σ HD hx ⟨u9, u10, u11, us, rs, n2, rfl, kp2, M2', nb2, eF2, du2, lr2, ok2, pw2, lt2, ecp2⟩
        rw [List.getElem?_map, Option.map_eq_some_iff] at hx
        obtain ⟨y, hy, rfl⟩ := hx
        have jl : j < ls.length + 1 := List.getElem?_eq_some_iff.mp hy |>.1
        have yin : y ∈ ("" : Str) :: ls := List.mem_of_getElem? hy
        refine ⟨_, rfl, m, c, g, n2, 8, rfl, by decide, by decide, by omega, M2', fun wy HE w0 w1 ME (kE : Kp HD HE m g) => ?_⟩
        have kpE : Kp H7 HE m g := kp2.trans kE
        refine ⟨_, rfl, _, _, rfl, rfl, .inr ⟨_, rfl, _, _, rfl, rfl, ?_⟩⟩
        obtain ⟨q, q1, q2, eqq⟩ := some_plus (decide (wy > 5))
        refine ⟨(q : Int), congrArg (fun z => [V.int z]) eqq, by omega, by omega, fun G nG => ?_⟩
        have eq_ : ((q : Nat) : Int).toNat = q := by omega
        rw [eq_]
        have nGm := ME.notm nG
        have nGg := ME.notg nG
        have nGc := ME.notc nG
        have eFE := kE _ _ eF2 nFm nFg
        have nFG : F ≠ G := ne_of_none eFE nG
        refine lc_range (lo := 0) (n := q) (fun e H' => ∃ (as_ : List Addr) (css : List (List Chc)) (n' : Nat), H' G = some (.lst (as_.map V.ref)) ∧ Paired (LsAt K m g G H') as_ css ∧ css.length = e ∧ Kp HE H' m g ∧ Ms H' m c g n' ∧ n' ≤ n2 + 1 + 15 * e ∧ ∀ cs ∈ css, cs.length ≤ 2 ∧ cs.Nodup ∧ ∀ x ∈ cs, ChOk rd ls (i : Int) x)
          ⟨[], [], _, upd_same, .nil, rfl, (Kp.of (fun _ _ e => e)).put nG, ME.put nGm nGc nGg, by omega, fun e he => nomatch he⟩ ?_ ?_
        · rintro e H' he ⟨as_, css, n', eG, pr, lcs, kp, M', nb', hcs⟩
          have tk8 : Tk H7 H' := (kpE.trans kp).tk M7
          refine ⟨rfl, yes_of ?_⟩
          refine ⟨_, rfl, _, rfl, _, rfl, _, rfl, _, rfl, m, c, g, pt, l, (i : Int), n', W, rd, ls, rfl, M', by omega, tl7.tk tk8, rd2, by omega, by omega, tk8.seq el7, f1, by omega, hW, f3, fun L H6 us cs n6 (k6 : Kp H' H6 m g) M6 nb6 eL nLm nLg HL dus lc nd cok => ?_⟩
          have eG6 := k6 _ _ eG nGm nGg
          have nLG : L ≠ G := fun z => by
            rw [z] at HL
            exact nomatch HL.symm.trans eG
          refine ⟨_, eG6, by have z := paired_len pr; rw [List.length_map, sizeLine_eq]; omega, as_ ++ [L], css ++ [cs], n6, by rw [upd_same, List.map_append]; rfl, ?_, by simp [lcs], (kp.trans k6).put nG, M6.put nGm nGc nGg, by omega, fun z hz => ?_⟩
          · exact Paired.snoc (paired_mono (fun a cs z => (z.kp k6 (k6.tk M')).put eG6) pr) ((show LsAt K m g G H6 L cs from ⟨nLm, nLg, nLG, us, eL, dus⟩).put eG6)
          · rcases List.mem_append.mp hz with hz | hz
            · exact hcs z hz
            · rw [List.mem_singleton.mp hz]
              exact ⟨lc, nd, cok⟩
        rintro HG ⟨as_, css, n3, eG, prG, lcs, kG, MG, nb3, hcs⟩
        refine ⟨_, rfl, G, rfl, ⟨_, SqL.of eG⟩, fun G2 nG2 => ?_⟩
        refine lc_list (K := K) (xs := as_.map V.ref) (fun e H' => ∃ (ts : List V) (gs : List Gr), H' G2 = some (.lst ts) ∧ Same HG H' ∧ DpAll K H' ts (gs.map dGr) ∧ gs.length ≤ e ∧ ts.length = gs.length ∧ ∀ z ∈ gs, GrOk rd ls (i : Int) z)
          ⟨[], [], upd_same, same_upd nG2, .nil, Nat.zero_le _, rfl, fun z hz => nomatch hz⟩ (fun e H' _ ⟨_, _, _, sm, _⟩ => SqL.of (sm _ _ eG)) ?_ ?_
        · rintro e xv H' hx ⟨ts, gs, eG2, sm, dts, lgs, lts, gok⟩
          rw [List.getElem?_map, Option.map_eq_some_iff] at hx
          obtain ⟨a, ha, rfl⟩ := hx
          have lal := paired_len prG
          have e2 : e < 2 := by
            have z := (List.getElem?_eq_some_iff.mp ha).1
            omega
          obtain ⟨cs, hcse⟩ : ∃ cs, css[e]? = some cs := ⟨_, List.getElem?_eq_getElem (by rw [← lal]; exact (List.getElem?_eq_some_iff.mp ha).1)⟩
          obtain ⟨a', ha', la⟩ := paired_at prG e cs hcse
          have ea' : a' = a := Option.some.inj (ha'.symm.trans ha)
          rw [ea'] at la
          obtain ⟨_, _, _, us0, ea, da⟩ := la.same sm
          obtain ⟨c2, cn, cok⟩ := hcs cs (List.mem_of_getElem? hcse)
          have c5 : ∀ e ∈ cs, ∀ x ∈ e.2, x ∈ L5 := fun e he x hx => f3 x ((cok e he).2.2.2.2 x hx)
          refine ⟨rfl, ?_⟩
          refine ⟨_, rfl, Nat.zero_le _, fun Z nZ => ?_⟩
          have sZ : Same H' (upd H' Z (.lst [])) := same_upd nZ
          have eZ : (upd H' Z (.lst [])) Z = some (.lst []) := upd_same
          revert sZ eZ
          generalize upd H' Z (.lst []) = HZ
          intro sZ eZ
          refine ⟨.list (cs.map dCh), .list [], .lst (SqL.of (sZ _ _ ea)) (dp_tkAll (Tk.of sZ) _ _ (flat_map _ flat_ch _) da), .lst (SqL.of eZ) .nil, shaped_lst c5, rfl, _, rfl, ?_⟩
          by_cases emp : cs = []
          · refine ifF (by rw [eqv_nilC, emp]; rfl) ?_
            exact ⟨ts, gs, sZ _ _ eG2, sm.trans sZ, dp_tkAll (Tk.of sZ) _ _ (flat_map _ flat_gr _) dts, by omega, lts, gok⟩
          refine ifT (by rw [eqv_nilC]; cases cs with | nil => exact absurd rfl emp | cons _ _ => rfl) ?_
          refine ⟨_, rfl, a, _, rfl, .inl ⟨SqL.of (sZ _ _ ea), fun tp ntp => ?_⟩⟩
          have sT : Same HZ (upd HZ tp (.tup us0)) := same_upd ntp
          have eT : (upd HZ tp (.tup us0)) tp = some (.tup us0) := upd_same
          revert sT eT
          generalize upd HZ tp (.tup us0) = HT
          intro sT eT
          have eG2T := sT _ _ (sZ _ _ eG2)
          have tkT : Tk H' (upd HT G2 (.lst (ts ++ [.ref tp]))) := ((Tk.of sZ).trans (Tk.of sT)).trans (tk_lst eG2T)
          refine ⟨_, eG2T, by rw [sizeLine_eq]; omega, ts ++ [.ref tp], gs ++ [cs], upd_same, fun b o eb => by rw [upd_ne (ne_of_none eb nG2)]; exact sT _ _ (sZ _ _ (sm _ _ eb)), ?_, by simp; omega, by simp [lts], fun z hz => ?_⟩
          · rw [List.map_append]
            exact dpAll_app (dp_tkAll tkT _ _ (flat_map _ flat_gr _) dts) (.cons (.tup ((tk_lst eG2T).seq (SqT.of eT)) (dp_tkAll tkT _ _ (flat_map _ flat_ch _) da)) .nil)
          · rcases List.mem_append.mp hz with hz | hz
            · exact gok z hz
            · rw [List.mem_singleton.mp hz]
              exact ⟨by cases cs with | nil => exact absurd rfl emp | cons _ _ => exact Nat.succ_pos _, by omega, cok, cn⟩
        rintro HH ⟨ts, gs, eG2, sm, dts, lgs, lts, gok⟩
        rw [List.length_map] at lgs
        have lal := paired_len prG
        refine ⟨G2, _, rfl, .inl ⟨SqL.of eG2, fun gt ngt => ?_⟩⟩
        have sg : Same HH (upd HH gt (.tup ts)) := same_upd ngt
        have egt : (upd HH gt (.tup ts)) gt = some (.tup ts) := upd_same
        revert sg egt
        generalize upd HH gt (.tup ts) = HI
        intro sg egt
        have sGI := sm.trans sg
        have kI : Kp HE HI m g := kG.trans (Kp.of sGI)
        have MI := MG.same sGI
        have k8I := kpE.trans kI
        have tDI : Tk HD HI := (kE.trans kI).tk M2'
        have eFI := kI _ _ eFE nFm nFg
        have ecpI := tDI.seq ecp2
        have duI := HrAll.tk du2 tDI
        have dgI : Dp K HI (.ref gt) (.tuple (gs.map dGr)) := .tup (SqT.of egt) (dp_tkAll (Tk.of sg) _ _ (flat_map _ flat_gr _) dts)
        have lus : us.length = rs.length := by
          exact HrAll.len du2
        have lr3 : rs.length ≤ 48 := by
          have z : i * (ls.length + 1) ≤ 9 * 4 := Nat.mul_le_mul (by omega) (by omega)
          omega
        have ym : y = "" ∨ y ∈ ls := by
          rcases List.mem_cons.mp yin with z | z
          · exact .inl z
          · exact .inr z
        have after : ∀ gsv : Gs, GsOk rd ls (i : Int) gsv → (∀ e ∈ rs ++ [(((i : Int), y), gsv)], RwOk rd ls e) ∧ (rs ++ [(((i : Int), y), gsv)]).Pairwise Rr ∧ ∀ e ∈ rs ++ [(((i : Int), y), gsv)], e.1.1 < (i : Nat) ∨ (e.1.1 = (i : Nat) ∧ ∃ j', j' < j + 1 ∧ (("" : Str) :: ls)[j']? = some e.1.2) := fun gsv hg => by
          refine ⟨fun e he => ?_, ?_, fun e he => ?_⟩
          · rcases List.mem_append.mp he with he | he
            · exact ok2 e he
            · rw [List.mem_singleton.mp he]
              exact ⟨by show (0 : Int) ≤ (i : Int); omega, by show (i : Int) < _; omega, ym, hg⟩
          · rw [List.pairwise_append]
            refine ⟨pw2, List.pairwise_cons.mpr ⟨(fun x hx => nomatch hx), .nil⟩, fun a ha b hb => ?_⟩
            rw [List.mem_singleton.mp hb]
            rcases lt2 a ha with q | ⟨q, j', hj', ej'⟩
            · exact .inl q
            · refine .inr ⟨q, ?_, f5 _ (List.mem_of_getElem? ej'), f5 _ yin⟩
              obtain ⟨w1, w2⟩ := List.getElem?_eq_some_iff.mp ej'
              obtain ⟨w3, w4⟩ := List.getElem?_eq_some_iff.mp hy
              have z := List.pairwise_iff_getElem.mp f6 j' j w1 w3 hj'
              rw [w2, w4] at z
              exact z
          · rcases List.mem_append.mp he with he | he
            · rcases lt2 e he with q | ⟨q, j', hj', ej'⟩
              · exact .inl q
              · exact .inr ⟨q, j', by omega, ej'⟩
            · rw [List.mem_singleton.mp he]
              exact .inr ⟨rfl, j, by omega, hy⟩
        have lt3 : ∀ e ∈ rs, e.1.1 < (i : Nat) ∨ (e.1.1 = (i : Nat) ∧ ∃ j', j' < j + 1 ∧ (("" : Str) :: ls)[j']? = some e.1.2) := fun e he => by
          rcases lt2 e he with q | ⟨q, j', hj', ej'⟩
          · exact .inl q
          · exact .inr ⟨q, j', by omega, ej'⟩
        refine ⟨_, rfl, rfl, _, rfl, ite2 (fun _ => ?_) (fun _ => ?_)⟩
        · skip
          refine ⟨_, rfl, .inl ⟨rfl, _, SqL.of eFI⟩, ?_⟩
          refine ⟨_, rfl, _, rfl, s2le, fun hh nh => ?_⟩
          have sh : Same HI (upd HI hh (.tup [.int (i : Int), .str y])) := same_upd nh
          have eh : (upd HI hh (.tup [.int (i : Int), .str y])) hh = some (.tup [.int (i : Int), .str y]) := upd_same
          revert sh eh
          generalize upd HI hh (.tup [.int (i : Int), .str y]) = HX
          intro sh eh
          refine ⟨s2le, fun tt ntt => ?_⟩
          have st : Same HX (upd HX tt (.tup [.ref hh, .str "home"])) := same_upd ntt
          have et : (upd HX tt (.tup [.ref hh, .str "home"])) tt = some (.tup [.ref hh, .str "home"]) := upd_same
          revert st et
          generalize upd HX tt (.tup [.ref hh, .str "home"]) = HY
          intro st et
          have eFY := st _ _ (sh _ _ eFI)
          refine ⟨F, _, _, rfl, rfl, eFY, by rw [sizeLine_eq]; omega, ?_⟩
          have sY := sh.trans st
          have tF : Tk HY (upd HY F (.lst (us ++ [.ref tt]))) := tk_lst eFY
          have tI : Tk HI (upd HY F (.lst (us ++ [.ref tt]))) := (Tk.of sY).trans tF
          obtain ⟨a1, a2, a3⟩ := after (none) trivial
          refine ⟨_, _, _, us ++ [.ref tt], rs ++ [(((i : Int), y), none)], n3, rfl, (k8I.trans (Kp.of sY)).put nF, (MI.same sY).put nFm nFc nFg, by omega, upd_same, ?_, by simp only [List.length_append, List.length_cons, List.length_nil]; omega, a1, a2, a3, tI.seq ecpI⟩
          exact HrAll.snoc (HrAll.tk duI tI) ⟨hh, _, tF.seq (SqT.of et), (((Tk.of st).trans tF) _ _).1 eh, (show Dp K _ (.str "home") (dGs none) from .str "home")⟩
        refine ⟨_, rfl, rfl, _, rfl, ite2 (fun _ => ?_) (fun _ => ?_)⟩
        · refine ⟨_, rfl, rfl, _, rfl, ite2 (fun _ => ?_) (fun _ => ?_)⟩
          · skip
            refine ⟨_, rfl, .inl ⟨rfl, _, SqL.of eFI⟩, ?_⟩
            refine ⟨_, rfl, _, rfl, s2le, fun hh nh => ?_⟩
            have sh : Same HI (upd HI hh (.tup [.int (i : Int), .str y])) := same_upd nh
            have eh : (upd HI hh (.tup [.int (i : Int), .str y])) hh = some (.tup [.int (i : Int), .str y]) := upd_same
            revert sh eh
            generalize upd HI hh (.tup [.int (i : Int), .str y]) = HX
            intro sh eh
            refine ⟨s2le, fun tt ntt => ?_⟩
            have st : Same HX (upd HX tt (.tup [.ref hh, .str "home"])) := same_upd ntt
            have et : (upd HX tt (.tup [.ref hh, .str "home"])) tt = some (.tup [.ref hh, .str "home"]) := upd_same
            revert st et
            generalize upd HX tt (.tup [.ref hh, .str "home"]) = HY
            intro st et
            have eFY := st _ _ (sh _ _ eFI)
            refine ⟨F, _, _, rfl, rfl, eFY, by rw [sizeLine_eq]; omega, ?_⟩
            have sY := sh.trans st
            have tF : Tk HY (upd HY F (.lst (us ++ [.ref tt]))) := tk_lst eFY
            have tI : Tk HI (upd HY F (.lst (us ++ [.ref tt]))) := (Tk.of sY).trans tF
            obtain ⟨a1, a2, a3⟩ := after (none) trivial
            refine ⟨_, _, _, us ++ [.ref tt], rs ++ [(((i : Int), y), none)], n3, rfl, (k8I.trans (Kp.of sY)).put nF, (MI.same sY).put nFm nFc nFg, by omega, upd_same, ?_, by simp only [List.length_append, List.length_cons, List.length_nil]; omega, a1, a2, a3, tI.seq ecpI⟩
            exact HrAll.snoc (HrAll.tk duI tI) ⟨hh, _, tF.seq (SqT.of et), (((Tk.of st).trans tF) _ _).1 eh, (show Dp K _ (.str "home") (dGs none) from .str "home")⟩
          · skip
            refine ⟨_, rfl, _, _, rfl, rfl, _, rfl, ite2 (fun _ => ?_) (fun _ => ?_)⟩
            · refine ⟨_, rfl, Nat.zero_le _, fun Z nZ => ?_⟩
              have sZ : Same HI (upd HI Z (.tup [])) := same_upd nZ
              have eZ : (upd HI Z (.tup [])) Z = some (.tup []) := upd_same
              revert sZ eZ
              generalize upd HI Z (.tup []) = HJ
              intro sZ eZ
              have k8J := k8I.trans (Kp.of sZ)
              have MJ := MI.same sZ
              have eFJ := sZ _ _ eFI
              have ecpJ := (Tk.of sZ).seq ecpI
              have duJ := HrAll.tk duI (Tk.of sZ)
              have dgJ := dp_tk (Tk.of sZ) _ _ (show flatD (.tuple (gs.map dGr)) = true from flat_map _ flat_gr _) dgI
              refine ⟨.tuple (gs.map dGr), .tuple [], dgJ, .tup (SqT.of eZ) .nil, shaped_tgr (fun g hg e he x hx => f3 x (((gok g hg).2.2.1 e he).2.2.2.2 x hx)), rfl, _, rfl, ?_⟩
              by_cases emp : gs = []
              · refine ifF (by rw [eqv_nilG, emp]; rfl) ?_
                exact ⟨_, _, _, us, rs, n3, rfl, k8J, MJ, by omega, eFJ, duJ, by omega, ok2, pw2, lt3, ecpJ⟩
              refine ifT (by rw [eqv_nilG]; cases gs with | nil => exact absurd rfl emp | cons _ _ => rfl) ?_
              refine ⟨_, rfl, .inl ⟨rfl, _, SqL.of eFJ⟩, ?_⟩
              refine ⟨_, rfl, _, rfl, s2le, fun hh nh => ?_⟩
              have sh : Same HJ (upd HJ hh (.tup [.int (i : Int), .str y])) := same_upd nh
              have eh : (upd HJ hh (.tup [.int (i : Int), .str y])) hh = some (.tup [.int (i : Int), .str y]) := upd_same
              revert sh eh
              generalize upd HJ hh (.tup [.int (i : Int), .str y]) = HX
              intro sh eh
              refine ⟨_, rfl, s2le, fun tt ntt => ?_⟩
              have st : Same HX (upd HX tt (.tup [.ref hh, .ref gt])) := same_upd ntt
              have et : (upd HX tt (.tup [.ref hh, .ref gt])) tt = some (.tup [.ref hh, .ref gt]) := upd_same
              revert st et
              generalize upd HX tt (.tup [.ref hh, .ref gt]) = HY
              intro st et
              have eFY := st _ _ (sh _ _ eFJ)
              refine ⟨F, _, _, rfl, rfl, eFY, by rw [sizeLine_eq]; omega, ?_⟩
              have sY := sh.trans st
              have tF : Tk HY (upd HY F (.lst (us ++ [.ref tt]))) := tk_lst eFY
              have tI : Tk HJ (upd HY F (.lst (us ++ [.ref tt]))) := (Tk.of sY).trans tF
              obtain ⟨a1, a2, a3⟩ := after (some gs) ⟨by cases gs with | nil => exact absurd rfl emp | cons _ _ => exact Nat.succ_pos _, by omega, gok⟩
              refine ⟨_, _, _, us ++ [.ref tt], rs ++ [(((i : Int), y), some gs)], n3, rfl, (k8J.trans (Kp.of sY)).put nF, (MJ.same sY).put nFm nFc nFg, by omega, upd_same, ?_, by simp only [List.length_append, List.length_cons, List.length_nil]; omega, a1, a2, a3, tI.seq ecpJ⟩
              exact HrAll.snoc (HrAll.tk duJ tI) ⟨hh, _, tF.seq (SqT.of et), (((Tk.of st).trans tF) _ _).1 eh, (show Dp K _ (.ref gt) (dGs (some gs)) from dp_tk tI _ _ (show flatD (.tuple (gs.map dGr)) = true from flat_map _ flat_gr _) dgJ)⟩
            · exact ⟨_, _, _, us, rs, n3, rfl, k8I, MI, by omega, eFI, duI, by omega, ok2, pw2, lt3, ecpI⟩
        · skip
          refine ⟨_, rfl, _, _, rfl, rfl, _, rfl, ite2 (fun _ => ?_) (fun _ => ?_)⟩
          · refine ⟨_, rfl, Nat.zero_le _, fun Z nZ => ?_⟩
            have sZ : Same HI (upd HI Z (.tup [])) := same_upd nZ
            have eZ : (upd HI Z (.tup [])) Z = some (.tup []) := upd_same
            revert sZ eZ
            generalize upd HI Z (.tup []) = HJ
            intro sZ eZ
            have k8J := k8I.trans (Kp.of sZ)
            have MJ := MI.same sZ
            have eFJ := sZ _ _ eFI
            have ecpJ := (Tk.of sZ).seq ecpI
            have duJ := HrAll.tk duI (Tk.of sZ)
            have dgJ := dp_tk (Tk.of sZ) _ _ (show flatD (.tuple (gs.map dGr)) = true from flat_map _ flat_gr _) dgI
            refine ⟨.tuple (gs.map dGr), .tuple [], dgJ, .tup (SqT.of eZ) .nil, shaped_tgr (fun g hg e he x hx => f3 x (((gok g hg).2.2.1 e he).2.2.2.2 x hx)), rfl, _, rfl, ?_⟩
            by_cases emp : gs = []
            · refine ifF (by rw [eqv_nilG, emp]; rfl) ?_
              exact ⟨_, _, _, us, rs, n3, rfl, k8J, MJ, by omega, eFJ, duJ, by omega, ok2, pw2, lt3, ecpJ⟩
            refine ifT (by rw [eqv_nilG]; cases gs with | nil => exact absurd rfl emp | cons _ _ => rfl) ?_
            refine ⟨_, rfl, .inl ⟨rfl, _, SqL.of eFJ⟩, ?_⟩
            refine ⟨_, rfl, _, rfl, s2le, fun hh nh => ?_⟩
            have sh : Same HJ (upd HJ hh (.tup [.int (i : Int), .str y])) := same_upd nh
            have eh : (upd HJ hh (.tup [.int (i : Int), .str y])) hh = some (.tup [.int (i : Int), .str y]) := upd_same
            revert sh eh
            generalize upd HJ hh (.tup [.int (i : Int), .str y]) = HX
            intro sh eh
            refine ⟨_, rfl, s2le, fun tt ntt => ?_⟩
            have st : Same HX (upd HX tt (.tup [.ref hh, .ref gt])) := same_upd ntt
            have et : (upd HX tt (.tup [.ref hh, .ref gt])) tt = some (.tup [.ref hh, .ref gt]) := upd_same
            revert st et
            generalize upd HX tt (.tup [.ref hh, .ref gt]) = HY
            intro st et
            have eFY := st _ _ (sh _ _ eFJ)
            refine ⟨F, _, _, rfl, rfl, eFY, by rw [sizeLine_eq]; omega, ?_⟩
            have sY := sh.trans st
            have tF : Tk HY (upd HY F (.lst (us ++ [.ref tt]))) := tk_lst eFY
            have tI : Tk HJ (upd HY F (.lst (us ++ [.ref tt]))) := (Tk.of sY).trans tF
            obtain ⟨a1, a2, a3⟩ := after (some gs) ⟨by cases gs with | nil => exact absurd rfl emp | cons _ _ => exact Nat.succ_pos _, by omega, gok⟩
            refine ⟨_, _, _, us ++ [.ref tt], rs ++ [(((i : Int), y), some gs)], n3, rfl, (k8J.trans (Kp.of sY)).put nF, (MJ.same sY).put nFm nFc nFg, by omega, upd_same, ?_, by simp only [List.length_append, List.length_cons, List.length_nil]; omega, a1, a2, a3, tI.seq ecpJ⟩
            exact HrAll.snoc (HrAll.tk duJ tI) ⟨hh, _, tF.seq (SqT.of et), (((Tk.of st).trans tF) _ _).1 eh, (show Dp K _ (.ref gt) (dGs (some gs)) from dp_tk tI _ _ (show flatD (.tuple (gs.map dGr)) = true from flat_map _ flat_gr _) dgJ)⟩
          · exact ⟨_, _, _, us, rs, n3, rfl, k8I, MI, by omega, eFI, duI, by omega, ok2, pw2, lt3, ecpI⟩
      · rintro σ HD ⟨u9, u10, u11, us, rs, n2, rfl, kp2, M2', nb2, eF2, du2, lr2, ok2, pw2, lt2, _⟩
        have ll : ((("" : Str) :: ls).map V.str).length = ls.length + 1 := by rw [List.length_map]; rfl
        rw [ll] at nb2 lr2
        refine ⟨_, _, _, _, us, rs, n2, rfl, kp2, M2', by omega, eF2, du2, by rw [Nat.succ_mul]; exact lr2, ok2, pw2, fun e he => ?_⟩
        rcases lt2 e he with q | ⟨q, _⟩
        · omega
        · omega
    rintro σ HB ⟨u8, u9, u10, u11, us, rs, n1, rfl, kp1, M1', nb1, eF1, du1, lr1, ok1, pw1, lt1⟩
    obtain ⟨qs, rfl, prq⟩ := du1
    refine ⟨_, rfl, _, rfl, _, rfl, F, _, rfl, SqL.of eF1, fun ft oz nft odz => ?_⟩
    have s1 : Same HB (upd HB ft (.frz oz (.tup (qs.map V.ref)))) := same_upd nft
    have eft : (upd HB ft (.frz oz (.tup (qs.map V.ref)))) ft = some (.frz oz (.tup (qs.map V.ref))) := upd_same
    revert s1 eft
    generalize upd HB ft (.frz oz (.tup (qs.map V.ref))) = HC
    intro s1 eft
    refine ⟨s3le, fun v nv => ?_⟩
    have s2 : Same HC (upd HC v (.tup [.ref pt, .ref l, .ref ft])) := same_upd nv
    have ev : (upd HC v (.tup [.ref pt, .ref l, .ref ft])) v = some (.tup [.ref pt, .ref l, .ref ft]) := upd_same
    revert s2 ev
    generalize upd HC v (.tup [.ref pt, .ref l, .ref ft]) = HV
    intro s2 ev
    have sT := s1.trans s2
    have t8 : Tk H7 HV := (kp1.trans (Kp.of sT)).tk M7
    have prV : Paired (HrT K HV) qs rs := paired_mono (fun _ _ z => HrT.tk z (Tk.of sT)) prq
    refine k (.ref v) HV ⟨rd, ls, rs⟩ n1 ((k07.trans kp1).trans (Kp.of sT)) (M1'.same sT) (by omega) rdR ?_ ?_ ⟨v, pt, l, ft, oz, qs, rfl, SqT.of ev, s2 _ _ eft, odz, prV, pw1.imp Rr.ne⟩
    · refine .tup (SqT.of ev) (.cons ?_ (.cons ?_ (.cons ?_ .nil)))
      · exact .tup (t8.seq ept8) (dp_prs (paired_mono (fun q a z => t8.seq z) pr8))
      · exact .tup (t8.seq el7) (dp_strs ls)
      · exact .tup ((Tk.of s2).seq (tupZ_at eft)) (hr_dp prV)
    · exact ⟨rd1, rd2, hrd, f1, Nat.le_trans f2 (by decide), f3, f4, lr1, ok1, fun i a b ha hb => by
        obtain ⟨w1, w2⟩ := List.getElem?_eq_some_iff.mp ha
        obtain ⟨w3, w4⟩ := List.getElem?_eq_some_iff.mp hb
        have z := List.pairwise_iff_getElem.mp pw1 i (i + 1) w1 w3 (by omega)
        rw [w2, w4] at z
        exact z.asc⟩
end
end Lr

namespace Lr
open PySem PySem.Spec PyProof.Rows L2

def firstGo (fl : List Int) : List Gr → Gr
  | [] => []
  | g :: gs => if freeOf fl g = [] then firstGo fl gs else freeOf fl g
theorem firstGo_snoc (fl : List Int) (g : Gr) : ∀ a : List Gr, firstGo fl (a ++ [g]) = if firstGo fl a = [] then freeOf fl g else firstGo fl a
  | [] => by
    show (if freeOf fl g = [] then [] else freeOf fl g) = if ([] : Gr) = [] then freeOf fl g else []
    rw [if_pos rfl]
    split
    · rename_i h
      exact h.symm
    · rfl
  | x :: a => by
    have ih := firstGo_snoc fl g a
    show (if freeOf fl x = [] then firstGo fl (a ++ [g]) else freeOf fl x) = if (if freeOf fl x = [] then firstGo fl a else freeOf fl x) = [] then freeOf fl g else (if freeOf fl x = [] then firstGo fl a else freeOf fl x)
    by_cases c : freeOf fl x = []
    · rw [if_pos c, if_pos c]
      exact ih
    · rw [if_neg c, if_neg c, if_neg c]
/-- the choices that can be taken, in the order of their group -/
def firstN (rows : List Rwt) (fl : List Int) (h : Hd) : Gr := match rows.find? (fun r => decide (r.1 = h)) with
  | some (_, some gs) => firstGo fl gs
  | _ => []
theorem firstGo_moves (fl : List Int) : ∀ gs : List Gr, movesGo fl gs = (firstGo fl gs).mergeSort leCh
  | [] => by
    unfold movesGo firstGo
    simp
  | g :: gs => by
    unfold movesGo firstGo
    split
    · exact firstGo_moves fl gs
    · rfl
theorem firstN_mem {rows : List Rwt} {fl : List Int} {h : Hd} {c : Chc} : c ∈ firstN rows fl h ↔ c ∈ moves rows fl h := by
  unfold firstN moves
  cases e : rows.find? (fun r => decide (r.1 = h)) with
  | none => exact Iff.rfl
  | some q =>
    obtain ⟨a, b⟩ := q
    cases b with
    | none => exact Iff.rfl
    | some gs =>
      show c ∈ firstGo fl gs ↔ c ∈ movesGo fl gs
      rw [firstGo_moves, List.mem_mergeSort]
def lmv (N : Nt) (fl : List Int) (hs : List Hd) : Mvs := hs.map fun h => (h, firstN N.rows fl h)
theorem lmv_keys (N : Nt) (fl : List Int) (hs : List Hd) : (lmv N fl hs).map (·.1) = hs := by
  unfold lmv
  rw [List.map_map]
  exact List.map_id' _
/-- the dict of the ways on, as the law holds it: lists -/
def GoAt (K : PySem.W.Frag) (H : Hp) (G : Addr) (lm : Mvs) (us : List Addr) : Prop := H G = some (.dT (fK lm us)) ∧ Paired (fun (u : Addr) (m : (Int × Str) × List Chc) => ∃ xs, H u = some (.lst xs) ∧ DpAll K H xs (m.2.map dCh)) us lm
theorem GoAt.keep {K : PySem.W.Frag} {H H' : Hp} {G : Addr} {lm : Mvs} {us : List Addr} (h : GoAt K H G lm us) (s : Same H H') : GoAt K H' G lm us :=
  ⟨s _ _ h.1, paired_imp (fun u m ⟨xs, e, d⟩ => ⟨xs, s _ _ e, dp_tkAll (Tk.of s) _ _ (flat_map _ flat_ch _) d⟩) h.2⟩
theorem GoAt.but {K : PySem.W.Frag} {H H' : Hp} {G E : Addr} {lm : Mvs} {us : List Addr} {kvs : List (List Key × V)} (h : GoAt K H G lm us) (eE : H E = some (.dT kvs)) (ne : G ≠ E) (s : ∀ b o, H b = some o → b ≠ E → H' b = some o) : GoAt K H' G lm us := by
  have tk : Tk H H' := fun b xs => ⟨fun e => s _ _ e (fun z => by rw [z, eE] at e; cases e), fun o e => s _ _ e (fun z => by rw [z, eE] at e; cases e)⟩
  exact ⟨s _ _ h.1 ne, paired_imp (fun u m ⟨xs, e, d⟩ => ⟨xs, s _ _ e (fun z => by rw [z, eE] at e; cases e), dp_tkAll tk _ _ (flat_map _ flat_ch _) d⟩) h.2⟩
theorem GoAt.put {K : PySem.W.Frag} {H : Hp} {G u : Addr} {lm : Mvs} {us : List Addr} {m : (Int × Str) × List Chc} {xs : List V} (h : GoAt K H G lm us) (n : m.1 ∉ lm.map (·.1)) (e : H u = some (.lst xs)) (d : DpAll K H xs (m.2.map dCh)) : GoAt K (upd H G (.dT (putK (fK lm us) [Sum.inl m.1.1, Sum.inr m.1.2] (V.ref u)))) G (lm ++ [m]) (us ++ [u]) := by
  have tk := tk_dT (o := .dT (putK (fK lm us) [Sum.inl m.1.1, Sum.inr m.1.2] (V.ref u))) h.1
  have st : ∀ {v ys}, H v = some (.lst ys) → (upd H G (.dT (putK (fK lm us) [Sum.inl m.1.1, Sum.inr m.1.2] (V.ref u)))) v = some (.lst ys) := fun {v ys} z => by
    rw [upd_ne (fun q => by rw [q, h.1] at z; cases z)]
    exact z
  refine ⟨by rw [upd_same, fK_put (Paired.length h.2) n], paired_snoc2 (paired_imp (fun v m ⟨ys, e, d⟩ => ⟨ys, st e, dp_tkAll tk _ _ (flat_map _ flat_ch _) d⟩) h.2) ⟨xs, st e, dp_tkAll tk _ _ (flat_map _ flat_ch _) d⟩⟩
theorem keyOf_inj {a b : Hd} (e : ([.inl a.1, .inr a.2] : List L2.Key) = [.inl b.1, .inr b.2]) : a = b := by
  injection e with e1 e2
  injection e2 with e2 _
  injection e1 with e1
  injection e2 with e2
  exact Prod.ext e1 e2
theorem rows_kv {K : PySem.W.Frag} {H : Hp} : ∀ {qs : List Addr} {rs : List Rwt}, Paired (HrT K H) qs rs → ∃ kvs : List (List L2.Key × Addr × V), Paired (PrT K H) qs kvs ∧ kvs.map (·.1) = rs.map (fun r => [.inl r.1.1, .inr r.1.2]) ∧
    ∀ h : Hd, (rs.find? (fun r => decide (r.1 = h)) = none ∧ valV (kvs.map fun q => (q.1, q.2.2)) [.inl h.1, .inr h.2] = none) ∨ ∃ r gv, rs.find? (fun r => decide (r.1 = h)) = some r ∧ valV (kvs.map fun q => (q.1, q.2.2)) [.inl h.1, .inr h.2] = some gv ∧ Dp K H gv (dGs r.2)
  | _, _, .nil => ⟨[], .nil, rfl, fun h => .inl ⟨rfl, rfl⟩⟩
  | _, _, .cons (b := r) g t => by
    obtain ⟨kvs, pr, ks, all⟩ := rows_kv t
    obtain ⟨hd, gv, s, e, d⟩ := g
    refine ⟨([.inl r.1.1, .inr r.1.2], hd, gv) :: kvs, .cons ⟨s, e⟩ pr, by rw [List.map_cons, List.map_cons, ks], fun h => ?_⟩
    by_cases eh : r.1 = h
    · refine .inr ⟨r, gv, ?_, ?_, d⟩
      · exact List.find?_cons_of_pos (p := fun r : Rwt => decide (r.1 = h)) (decide_eq_true eh)
      · rw [List.map_cons, ← eh]
        exact valV_pos rfl
    · have n1 : ¬ decide (r.1 = h) = true := fun z => eh (of_decide_eq_true z)
      rw [List.find?_cons_of_neg (p := fun r : Rwt => decide (r.1 = h)) n1, List.map_cons, valV_neg (fun z => eh (keyOf_inj z))]
      exact all h
theorem eqv_chs : ∀ cs : Gr, PyData.eqv (.list (cs.map dCh)) (.list []) = cs.isEmpty
  | [] => rfl
  | _ :: _ => rfl
theorem pick_gs {K : PySem.W.Frag} {H : Hp} {σ : L2.St} {Q' : VK} {gv : V} {gd : PyData} {gs : List Gr} (e7 : σ[7]? = some (some gv)) (dg : Dp K H gv gd) (hg : (gd = .str "home" ∧ gs = []) ∨ gd = .tuple (gs.map dGr)) (k : ∀ (H5 : Hp) (wv : Addr) (xs : List V), Same H H5 → SqT K H5 wv xs → DpAll K H5 xs (gs.map dGr) → Q' (.ref wv) H5) :
    if (!PyData.eqv gd (.str "home")) = true then tVar 7 σ H Q' else tTup tNil σ H Q' := by
  rcases hg with ⟨rfl, rfl⟩ | rfl
  · rw [if_neg (by decide +kernel)]
    exact ⟨Nat.zero_le _, fun p np => k _ p [] (same_upd np) (SqT.of upd_same) .nil⟩
  · refine ifT rfl ?_
    obtain ⟨w, xs, rfl, ew, dxs⟩ := dp_of_tup dg
    exact ⟨_, e7, k H w xs (Same.refl H) ew dxs⟩
theorem if3 {t1 t2 : TT} {a b c : V} {σ : L2.St} {H : Hp} {Q' : VK} (h1 : ∀ R : Bool → Hp → Prop, (∀ x, R x H) → t1 σ H R) (h2 : ∀ R : Bool → Hp → Prop, (∀ x H7, Same H H7 → R x H7) → t2 σ H R) (k : ∀ v H7, Same H H7 → Q' v H7) : tIf t1 (tC a) (tIf t2 (tC b) (tC c)) σ H Q' := by
  refine h1 _ fun x => ?_
  cases x with
  | true => exact k a H (Same.refl H)
  | false =>
    refine h2 _ fun x H7 s7 => ?_
    cases x with
    | true => exact k b H7 s7
    | false => exact k c H7 s7
def spLMo (K : PySem.W.Frag) : Sp := fun vs H Q _ => ∃ (x : V) (f : Addr) (N : Nt) (fl : List Int), vs = [x, .ref f] ∧ Dp K H x (dNt N) ∧ NetZ K H x N ∧ NtOk N ∧ SqT K H f (fl.map V.int) ∧
  ∀ (H' : Hp) (p G E : Addr) (us : List Addr), Same H H' → SqT K H' p [.ref G, .ref E] → H G = none → (∀ u ∈ us, H u = none) → GoAt K H' G (lmv N fl (hdsL (("" : Str) :: N.labels) N.roads.length)) us → Q (.ref p) H'

section
variable {P : Program} {w : World} {K : PySem.W.Frag} {mg : Str → Option Value} {base : Heap}
theorem scLMo : FnScope ["net", "failed", "rows", "goes", "ends", "road", "top", "groups", "some", "group", "one"] ["net", "failed"] (defScope sLMo) := ⟨rfl, rfl, rfl, by decide +kernel, rfl, by decide +kernel, by decide +kernel⟩
theorem ok_LMo {f : Addr} {fd : FuncData} (F : Fun K "_law_moves" "_law_moves" sLMo f fd) (T : Bt mg) (noD : mg "dict" = none) : FnOk P w K mg base CX0 1 f fd ["net", "failed"] (spLMo K) := by
  refine F.ok scLMo (fun vs H Q E h => ?_) (fun cdv A outer s H vs Q E hr h => ?_)
  · obtain ⟨x, fa, N, fl, rfl, _⟩ := h
    rfl
  · obtain ⟨x, fa, N, fl, rfl, dx, nz, ok, sf, k⟩ := h
    have hu64 : (A.deeper (envOfC "_law_moves" (defScope sLMo) s.heap.objs.size f cdv)).units + 64 < cLine := by
      have z := hr.un
      omega
    have hu1 : (A.deeper (envOfC "_law_moves" (defScope sLMo) s.heap.objs.size f cdv)).units + 1 < cLine := by omega
    have hu8 : (A.deeper (envOfC "_law_moves" (defScope sLMo) s.heap.objs.size f cdv)).units + 8 < cLine := by omega
    refine ⟨_, (pss_cons (ps_par3 (i := 2) (j := 3) (l := 4) (by rfl) scLMo.nd rfl rfl rfl (by decide) (by decide) (by decide) rfl rfl rfl (pa_cons (pe_callTy (cr_dictT rfl hu8) (by rfl) noD (by decide +kernel) (pa_cons (pe_ix (ixT (K := K)) (pv 0) pe_int (fun _ _ => rfl)) pa_nil)) (pa_cons pe_dnewT (pa_cons pe_dnewT pa_nil))) (by rfl))
      (pss_cons (ps_for PassesOwn.never rfl (pi_range1 (by rfl) T.range (pa_cons (pe_callB (lenK (K := K)) (by rfl) T.len PySem.boot_len (pa_cons (pe_ix (ixT (K := K)) (pv 0) pe_int (fun _ _ => rfl)) pa_nil)) pa_nil)) (pg_name (i := 5) scLMo.nd rfl (by first | exact Or.inl rfl | exact Or.inr rfl))
        (pss_one (ps_for PassesOwn.never rfl (pi_tup (pe_op (catTK (K := K)) (pe_tup (pa_cons pe_str pa_nil)) (pe_ix (ixT (K := K)) (pv 0) pe_int (fun _ _ => rfl)))) (pg_name (i := 6) scLMo.nd rfl (by first | exact Or.inl rfl | exact Or.inr rfl))
          (pss_cons (ps_set (i := 7) scLMo.nd rfl (by first | exact Or.inl rfl | exact Or.inr rfl) (pe_dget2 hu1 (pv 2) (pe_tup (pa_cons (pv 5) (pa_cons (pv 6) pa_nil))) (pe_tup pa_nil) ⟨rfl, rfl, rfl, rfl⟩))
          (pss_cons (ps_set (i := 8) scLMo.nd rfl (by first | exact Or.inl rfl | exact Or.inr rfl) (pe_lst pa_nil))
          (pss_cons (ps_for PassesOwn.never rfl (pi_tup (pe_ifExp (pt_cmpR (neDK (K := K) hu64) (pv 7) pe_str (nomark _)) (pv 7) (pe_tup pa_nil))) (pg_name (i := 9) scLMo.nd rfl (by first | exact Or.inl rfl | exact Or.inr rfl))
            (pss_one (ps_if (pt_cmpR (op_eqD hu64) (pv 8) (pe_lst pa_nil) (nomark _))
              (pss_one (ps_setLc (i := 8) (own := [("one", 10)]) (g := gName 10) (tt := _) rfl scLMo.nd rfl rfl (sw_true rfl rfl rfl (by decide +kernel)) (pi_tup (pv 9)) (blkOk_by (N := ["net", "failed", "rows", "goes", "ends", "road", "top", "groups", "some", "group", "one"]) (sc := defScope sLMo) (by decide +kernel)) (fun _ _ _ _ _ => pg_name (i := 10) scLMo.nd rfl (.inl rfl)) (fun _ _ _ _ _ => pts_one (pt_cmpR (notinSK (K := K)) (pe_ix (ixT (K := K)) (pv 10) pe_int (fun _ _ => rfl)) (pv 1) (by rfl))) (fun _ _ _ _ _ => pv 10))) pss_nil)))
          (pss_cons (ps_dput hu1 (pv 3) (pe_tup (pa_cons (pv 5) (pa_cons (pv 6) pa_nil))) (pv 8) rfl)
          (pss_one (ps_dput hu1 (pv 4) (pe_tup (pa_cons (pv 5) (pa_cons (pv 6) pa_nil))) (pe_ifExp (pt_cmpR (op_eqD hu64) (pv 7) pe_str (nomark _)) pe_str (pe_ifExp (pt_cmpR (neDK (K := K) hu64) (pv 8) (pe_lst pa_nil) (nomark _)) pe_str pe_str)) rfl)))))))))
      (pss_one (ps_ret (pe_tup (pa_cons (pv 3) (pa_cons (pv 4) pa_nil))))))), ?_⟩
    obtain ⟨pn, r0, l0, w_, o, qs, rfl, en, ew_, od, pr_, ndr⟩ := nz
    obtain ⟨pn', r, l, w', ps', e', en', er, el, ew', ppr⟩ := net_parts dx
    cases e'
    obtain ⟨rs, sr, rl, _⟩ := er.sq
    obtain ⟨kvs, prk, ks, fk⟩ := rows_kv pr_
    have lkv : kvs.length = N.rows.length := by
      have z := congrArg List.length ks
      rw [List.length_map, List.length_map] at z
      exact z
    have r10 := ok.r2
    have l4 := ok.l2
    have few : N.rows.length ≤ 100000 := by
      have z1 := ok.w1
      have z4 : N.roads.length * (N.labels.length + 1) ≤ 10 * 5 := Nat.mul_le_mul r10 (by omega)
      omega
    have ndk : (kvs.map (·.1)).Nodup := by
      rw [ks]
      refine List.Pairwise.map _ (R := fun a b : Rwt => a.1 ≠ b.1) (fun a b h e => h (keyOf_inj e)) ndr
    refine ⟨_, rfl, pn, _, _, V.ref w_, rfl, rfl, en, rfl, w_, o, qs, kvs, rfl, ew_, od, prk, ndk, by omega, fun D0 nD0 => ?_⟩
    have sD : Same H (upd H D0 (.dT (kvs.map fun q => (q.1, q.2.2)))) := same_upd nD0
    have eDT : (upd H D0 (.dT (kvs.map fun q => (q.1, q.2.2)))) D0 = some (.dT (kvs.map fun q => (q.1, q.2.2))) := upd_same
    revert sD eDT
    generalize upd H D0 (.dT (kvs.map fun q => (q.1, q.2.2))) = HA
    intro sD eDT
    refine fun G nG E nE => ?_
    have nEA : HA E = none := by
      cases z : HA E with
      | none => rfl
      | some o =>
        by_cases c : E = G
        · rw [c, upd_same] at nE
          cases nE
        · rw [upd_ne c] at nE
          exact z.symm.trans nE
    have neGE : G ≠ E := fun z => by
      rw [← z, upd_same] at nE
      cases nE
    refine ⟨_, _, _, rfl, ?_⟩
    -- what stands
    have fr : ∀ b, HA b = none → H b = none := fun b e => by
      cases z : H b with
      | none => rfl
      | some o =>
        rw [sD _ _ z] at e
        cases e
    let Co : Hp → List Hd → Prop := fun H' hs => ∃ (us : List Addr) (kes : List (List Key × V)), GoAt K H' G (lmv N fl hs) us ∧ H' E = some (.dT kes) ∧ kes.length ≤ hs.length ∧ (∀ u ∈ us, HA u = none) ∧ ∀ b o, HA b = some o → H' b = some o
    have hCo : Co = fun H' hs => ∃ (us : List Addr) (kes : List (List Key × V)), GoAt K H' G (lmv N fl hs) us ∧ H' E = some (.dT kes) ∧ kes.length ≤ hs.length ∧ (∀ u ∈ us, HA u = none) ∧ ∀ b o, HA b = some o → H' b = some o := rfl
    clear_value Co
    have c0 : Co (upd (upd HA G (.dT [])) E (.dT [])) [] := by
      rw [hCo]
      refine ⟨[], [], ⟨by rw [upd_ne neGE, upd_same]; rfl, .nil⟩, upd_same, Nat.le_refl _, (fun _ h => nomatch h), fun b o e => ?_⟩
      rw [upd_ne (ne_of_none e nEA), upd_ne (ne_of_none e nG)]
      exact e
    have low : ∀ {H' H'' : Hp} {hs : List Hd}, Co H' hs → Same H' H'' → Co H'' hs := fun {H' H'' hs} c sm => by
      rw [hCo] at c ⊢
      obtain ⟨us, kes, g, e, kl, un, kk⟩ := c
      exact ⟨us, kes, g.keep sm, sm _ _ e, kl, un, fun b o z => sm _ _ (kk _ _ z)⟩
    have keepA : ∀ {H' : Hp} {hs : List Hd}, Co H' hs → Same HA H' := fun {H' hs} c => by
      rw [hCo] at c
      obtain ⟨us, kes, g, e, kl, un, kk⟩ := c
      exact kk
    revert c0
    generalize upd (upd HA G (.dT [])) E (.dT []) = H0
    intro c0
    have s0 := sD.trans (keepA c0)
    refine ⟨_, rfl, pn, _, _, _, rfl, rfl, (Tk.of s0).seq en', rfl, r, _, rfl, .inr ((Tk.of s0).seq sr), _, rfl, by rw [List.length_map]; omega, by rw [List.length_map]; omega, ?_⟩
    have enr : (((rs.map V.ref).length : Nat) : Int).toNat = N.roads.length := by rw [List.length_map, rl]; omega
    rw [enr]
    refine for_range (lo := 0) (n := N.roads.length) (fun i σ H' => ∃ (u5 u6 u7 u8 u9 : Option V), σ = [some (.ref pn), some (.ref fa), some (.ref D0), some (.ref G), some (.ref E), u5, u6, u7, u8, u9, none] ∧ Co H' (hdsL (("" : Str) :: N.labels) i)) ⟨_, _, _, _, _, rfl, c0⟩ ?_ ?_
    rotate_left
    · rintro σ H' ⟨u5, u6, u7, u8, u9, rfl, c1⟩
      refine ⟨_, rfl, _, rfl, (by rw [sizeLine_eq]; show 2 ≤ 16777216; decide), fun p np => ?_⟩
      have sp : Same H' (upd H' p (.tup [.ref G, .ref E])) := same_upd np
      have c2 := low c1 sp
      have sA := keepA c2
      rw [hCo] at c2
      obtain ⟨us, kes, g, e, kl, un, kk⟩ := c2
      exact k _ p G E us (sD.trans sA) (SqT.of upd_same) (fr _ nG) (fun u hu => fr _ (un u hu)) g
    rintro i σ H1 hi ⟨u5, u6, u7, u8, u9, rfl, c1⟩
    have i0 : (0 : Int) + (i : Int) = (i : Int) := by omega
    rw [i0]
    have sH1 := sD.trans (keepA c1)
    refine ⟨s1le, fun e1 ne1 => ?_⟩
    have se1 : Same H1 (upd H1 e1 (.tup [.str ""])) := same_upd ne1
    have ee1 : (upd H1 e1 (.tup [.str ""])) e1 = some (.tup [.str ""]) := upd_same
    revert se1 ee1
    generalize upd H1 e1 (.tup [.str ""]) = H2
    intro se1 ee1
    have sH2 := sH1.trans se1
    refine ⟨_, rfl, pn, _, _, _, rfl, rfl, (Tk.of sH2).seq en', rfl, e1, l, [.str ""], N.labels.map V.str, rfl, rfl, SqT.of ee1, (Tk.of sH2).seq el, (fun z => nomatch z), by rw [List.length_map, sizeLine_eq]; show 1 + N.labels.length ≤ 16777216; omega, (fun z => ?_), fun _ cp ncp => ?_⟩
    · have l1 := ok.l1
      cases e : N.labels with
      | nil => rw [e] at l1; exact absurd l1 (by decide)
      | cons _ _ => rw [e] at z; cases z
    have scp : Same H2 (upd H2 cp (.tup ([V.str ""] ++ N.labels.map V.str))) := same_upd ncp
    have ecp : (upd H2 cp (.tup ([V.str ""] ++ N.labels.map V.str))) cp = some (.tup ((("" : Str) :: N.labels).map V.str)) := upd_same
    revert scp ecp
    generalize upd H2 cp (.tup ([V.str ""] ++ N.labels.map V.str)) = H3
    intro scp ecp
    have c3 := low c1 (se1.trans scp)
    refine ⟨cp, rfl, ⟨_, SqT.of ecp⟩, ?_⟩
    refine for_tup (K := K) (a := cp) (xs := (("" : Str) :: N.labels).map V.str) (fun j σ H' => ∃ (u6 u7 u8 u9 : Option V), σ = [some (.ref pn), some (.ref fa), some (.ref D0), some (.ref G), some (.ref E), some (.int (i : Int)), u6, u7, u8, u9, none] ∧ Co H' (hdsL (("" : Str) :: N.labels) i ++ ((("" : Str) :: N.labels).take j).map fun y => ((i : Int), y)) ∧ SqT K H' cp ((("" : Str) :: N.labels).map V.str)) ⟨_, _, _, _, rfl, by rw [List.take_zero, List.map_nil, List.append_nil]; exact c3, SqT.of ecp⟩ (fun j σ H' _ ⟨_, _, _, _, _, _, z⟩ => z) ?_ ?_
    rotate_left
    · rintro σ H' ⟨u6, u7, u8, u9, rfl, c4, _⟩
      rw [List.length_map, List.take_length, ← hdsL_succ] at c4
      exact ⟨_, _, _, _, _, rfl, c4⟩
    rintro j xv σ H4 hx ⟨u6, u7, u8, u9, rfl, c4, ecp4⟩
    rw [List.getElem?_map, Option.map_eq_some_iff] at hx
    obtain ⟨y, hy, rfl⟩ := hx
    have jl := (List.getElem?_eq_some_iff.mp hy).1
    have ty : (("" : Str) :: N.labels).take (j + 1) = (("" : Str) :: N.labels).take j ++ [y] := by rw [List.take_succ, hy]; rfl
    have yin : y ∈ ("" : Str) :: N.labels := List.mem_of_getElem? hy
    have sA4 := keepA c4
    have sH4 := sD.trans sA4
    refine ⟨_, rfl, D0, rfl, .inr ⟨_, .inl (sA4 _ _ eDT)⟩, _, rfl, _, rfl, s2le, fun hh nh => ?_⟩
    have sh : Same H4 (upd H4 hh (.tup [.int (i : Int), .str y])) := same_upd nh
    have eh : (upd H4 hh (.tup [.int (i : Int), .str y])) hh = some (.tup [.int (i : Int), .str y]) := upd_same
    revert sh eh
    generalize upd H4 hh (.tup [.int (i : Int), .str y]) = H5
    intro sh eh
    refine ⟨Nat.zero_le _, fun z0 nz0 => ?_⟩
    have sz : Same H5 (upd H5 z0 (.tup [])) := same_upd nz0
    have ez : (upd H5 z0 (.tup [])) z0 = some (.tup []) := upd_same
    revert sz ez
    generalize upd H5 z0 (.tup []) = H6
    intro sz ez
    have s46 := sh.trans sz
    have sH6 := sH4.trans s46
    have sA6 := sA4.trans s46
    refine ⟨_, DGet.t (k := [.inl (i : Int), .inr y]) (sA6 _ _ eDT) (sz _ _ eh), ?_⟩
    have grp : ∃ gv gd gs, (valV (kvs.map fun q => (q.1, q.2.2)) [.inl (i : Int), .inr y]).getD (.ref z0) = gv ∧ Dp K H6 gv gd ∧ ((gd = .str "home" ∧ gs = []) ∨ gd = .tuple (gs.map dGr)) ∧ SeqAt.shaped gd = true ∧ flatD gd = true ∧ firstN N.rows fl ((i : Int), y) = firstGo fl gs ∧ ∀ g ∈ gs, GrOk N.roads N.labels (i : Int) g := by
      rcases fk ((i : Int), y) with ⟨fnd, val⟩ | ⟨q, gv, fnd, val, dg⟩
      · rw [show valV (kvs.map fun q => (q.1, q.2.2)) [.inl (i : Int), .inr y] = none from val]
        refine ⟨_, .tuple [], [], rfl, .tup (SqT.of ez) .nil, .inr rfl, by decide +kernel, rfl, ?_, fun g hg => nomatch hg⟩
        unfold firstN
        rw [fnd]
        rfl
      · rw [show valV (kvs.map fun q => (q.1, q.2.2)) [.inl (i : Int), .inr y] = some gv from val]
        have qin := List.mem_of_find?_eq_some fnd
        have qok := ok.ro q qin
        have hq := List.find?_some fnd
        have hq2 : q.1 = ((i : Int), y) := of_decide_eq_true hq
        obtain ⟨qh, qg⟩ := q
        have hq2 : qh = ((i : Int), y) := hq2
        subst hq2
        have dg6 := dp_tk (Tk.of sH6) _ _ (flat_gs _) dg
        cases qg with
        | none =>
          refine ⟨_, .str "home", [], rfl, dg6, .inl ⟨rfl, rfl⟩, by decide +kernel, rfl, ?_, fun g hg => nomatch hg⟩
          unfold firstN
          rw [fnd]
          rfl
        | some gs =>
          refine ⟨_, .tuple (gs.map dGr), gs, rfl, dg6, .inr rfl, shaped_gs ok.lw qok.2.2.2, flat_gs (some gs), ?_, qok.2.2.2.2.2⟩
          unfold firstN
          rw [fnd]
    obtain ⟨gv, gd, gs, egv, dg, hg, shg, flg, efn, gok⟩ := grp
    rw [egv]
    refine ⟨Nat.zero_le _, fun sL nsL => ?_⟩
    have ss : Same H6 (upd H6 sL (.lst [])) := same_upd nsL
    have es : (upd H6 sL (.lst [])) sL = some (.lst []) := upd_same
    revert ss es
    generalize upd H6 sL (.lst []) = H7
    intro ss es
    have dg7 := dp_tk (Tk.of ss) _ _ flg dg
    have c7 := low c4 (s46.trans ss)
    have nsA : HA sL = none := by
      cases z : HA sL with
      | none => rfl
      | some o =>
        rw [sA6 _ _ z] at nsL
        cases nsL
    refine ⟨_, rfl, gd, .str "home", dg7, .str _, shg, by decide +kernel, _, rfl, pick_gs rfl dg7 hg fun H8 wv xs s8 ew dxs => ?_⟩
    have lxs := dpAll_len dxs
    rw [List.length_map] at lxs
    have c8 := low c7 s8
    have sA8 := (sA6.trans ss).trans s8
    refine ⟨wv, rfl, ⟨_, ew⟩, ?_⟩
    refine for_tup (K := K) (a := wv) (xs := xs) (fun e σ H' => ∃ (u9 : Option V) (sl : Addr) (zs : List V), σ = [some (.ref pn), some (.ref fa), some (.ref D0), some (.ref G), some (.ref E), some (.int (i : Int)), some (.str y), some gv, some (.ref sl), u9, none] ∧ Same H8 H' ∧ H' sl = some (.lst zs) ∧ HA sl = none ∧ DpAll K H' zs ((firstGo fl (gs.take e)).map dCh) ∧ ∀ c ∈ firstGo fl (gs.take e), ∀ x ∈ c.2, x ∈ L5) ⟨_, sL, [], rfl, Same.refl _, s8 _ _ es, nsA, by rw [List.take_zero]; exact .nil, by rw [List.take_zero]; exact fun c hc => nomatch hc⟩ (fun e σ H' _ ⟨_, _, _, _, sm, _⟩ => (Tk.of sm).seq ew) ?_ ?_
    · rintro e z σ H9 hz ⟨u9, sl, zs, rfl, s9, esl, nsl, dz, l5z⟩
      obtain ⟨dd, hdd, dg9⟩ := dpAll_get dxs e z hz
      rw [List.getElem?_map, Option.map_eq_some_iff] at hdd
      obtain ⟨g, hgi, rfl⟩ := hdd
      have tkg : gs.take (e + 1) = gs.take e ++ [g] := by rw [List.take_succ, hgi]; rfl
      have gk := gok g (List.mem_of_getElem? hgi)
      obtain ⟨a, ys, rfl, sa, dys⟩ := dp_of_tup (dp_tk (Tk.of s9) _ _ (flat_gr g) dg9)
      obtain ⟨ps, rfl, pr⟩ := refs_of dCh (fun a => ⟨_, rfl⟩) dys
      have lps := paired_len pr
      refine ⟨_, rfl, Nat.zero_le _, fun Z nZ => ?_⟩
      have sZ : Same H9 (upd H9 Z (.lst [])) := same_upd nZ
      have eZ : (upd H9 Z (.lst [])) Z = some (.lst []) := upd_same
      revert sZ eZ
      generalize upd H9 Z (.lst []) = H10
      intro sZ eZ
      have dz10 := dp_tkAll (Tk.of sZ) _ _ (flat_map _ flat_ch _) dz
      refine ⟨.list ((firstGo fl (gs.take e)).map dCh), .list [], .lst (SqL.of (sZ _ _ esl)) dz10, .lst (SqL.of eZ) .nil, shaped_lst l5z, by decide +kernel, _, rfl, ?_⟩
      rw [eqv_chs]
      by_cases em : firstGo fl (gs.take e) = []
      · refine ifT (by rw [em]; rfl) ?_
        have sa10 := (Tk.of sZ).seq sa
        refine ⟨_, rfl, a, rfl, ⟨_, sa10⟩, fun D nD => ?_⟩
        have nDA : HA D = none := by
          cases z : HA D with
          | none => rfl
          | some o =>
            rw [sZ _ _ (s9 _ _ (sA8 _ _ z))] at nD
            cases nD
        refine lc_tup (K := K) (xs := ps.map V.ref) (fun e H2 => ∃ zs, H2 D = some (.lst zs) ∧ Same H10 H2 ∧ DpAll K H2 zs ((freeOf fl (g.take e)).map dCh) ∧ zs.length ≤ e) ⟨[], upd_same, same_upd nD, by rw [List.take_zero]; exact .nil, Nat.zero_le _⟩ (fun e H2 _ ⟨_, _, s3, _⟩ => (Tk.of s3).seq sa10) ?_ ?_
        · rintro e2 x2 H2 hx ⟨zs2, eD, s3, dzs, lz⟩
          rw [List.getElem?_map, Option.map_eq_some_iff] at hx
          obtain ⟨b, hb, rfl⟩ := hx
          obtain ⟨c, hc, dc⟩ := paired_get pr e2 b hb
          have eg : e2 < g.length := (List.getElem?_eq_some_iff.mp hc).1
          have s92 := sZ.trans s3
          obtain ⟨b', us, eb, sb, dus⟩ := dp_of_tup (dp_tk (Tk.of s92) _ _ (flat_ch c) dc)
          cases eb
          cases dus with
          | cons d1 dus =>
            cases d1
            cases dus with
            | cons d2 dus =>
              cases dus
              have tk : freeOf fl (g.take (e2 + 1)) = freeOf fl (g.take e2) ++ (if !decide (c.1 ∈ fl) then [c] else []) := by
                unfold freeOf
                rw [mem_take_succ hc, List.filter_append]
                cases hh : (!decide (c.1 ∈ fl)) <;> simp [hh]
              refine ⟨rfl, _, rfl, b, _, _, V.int c.1, rfl, rfl, sb, rfl, _, rfl, fa, _, rfl, .inr ((Tk.of (((sD.trans sA8).trans s9).trans s92)).seq sf), rfl, flat_ints fl, _, rfl, ?_⟩
              have ans : (if true = true then !inV (V.int c.1) (fl.map V.int) else inV (V.int c.1) (fl.map V.int)) = !decide (c.1 ∈ fl) := by
                show (!inV (V.int c.1) (fl.map V.int)) = _
                rw [inV_ints]
              refine ite2 (fun yes => ?_) (fun no => ?_)
              · have yes' := ans.symm.trans yes
                rw [if_pos yes'] at tk
                have lg : g.length ≤ 3 := gk.2.1
                refine ⟨_, rfl, _, eD, by rw [sizeLine_eq]; omega, zs2 ++ [.ref b], upd_same, fun q o eq => by rw [upd_ne (ne_of_none eq nD)]; exact s3 _ _ eq, ?_, by simp; omega⟩
                rw [tk, List.map_append]
                exact dpAll_app (dp_tkAll (tk_lst eD) _ _ (flat_map _ flat_ch _) dzs) (.cons (dp_tk ((Tk.of s92).trans (tk_lst eD)) _ _ (flat_ch c) dc) .nil)
              · have no' : ¬ (!decide (c.1 ∈ fl)) = true := fun q => no (ans.trans q)
                rw [if_neg no', List.append_nil] at tk
                refine ⟨zs2, eD, s3, ?_, by omega⟩
                rw [tk]
                exact dzs
        · rintro H2 ⟨zs2, eD, s3, dzs, lz⟩
          rw [List.length_map, lps, List.take_length] at dzs
          refine ⟨_, D, zs2, rfl, (s9.trans sZ).trans s3, eD, nDA, ?_, ?_⟩
          · rw [tkg, firstGo_snoc, if_pos em]
            exact dzs
          · rw [tkg, firstGo_snoc, if_pos em]
            exact fun c hc x hx => ok.lw x ((gk.2.2.1 c (List.mem_filter.mp hc).1).2.2.2.2 x hx)
      · refine ifF (by cases e : firstGo fl (gs.take e) with | nil => exact absurd e em | cons _ _ => rfl) ?_
        refine ⟨_, sl, zs, rfl, s9.trans sZ, sZ _ _ esl, nsl, ?_, ?_⟩
        · rw [tkg, firstGo_snoc, if_neg em]
          exact dz10
        · rw [tkg, firstGo_snoc, if_neg em]
          exact l5z
    · rintro σ H9 ⟨u9, sl, zs, rfl, s9, esl, nsl, dz, l5z⟩
      rw [lxs, List.take_length, ← efn] at dz l5z
      have c9 := low c8 s9
      have sA9 := sA8.trans s9
      refine ⟨_, rfl, _, rfl, _, rfl, _, rfl, s2le, fun h2 nh2 => ?_⟩
      have sh2 : Same H9 (upd H9 h2 (.tup [.int (i : Int), .str y])) := same_upd nh2
      have eh2 : (upd H9 h2 (.tup [.int (i : Int), .str y])) h2 = some (.tup [.int (i : Int), .str y]) := upd_same
      revert sh2 eh2
      generalize upd H9 h2 (.tup [.int (i : Int), .str y]) = H10
      intro sh2 eh2
      have c10 := low c9 sh2
      rw [hCo] at c10
      obtain ⟨us, kes, gg, eE, kl, un, kk⟩ := c10
      generalize hhs : hdsL (("" : Str) :: N.labels) i ++ ((("" : Str) :: N.labels).take j).map (fun y => ((i : Int), y)) = hs at gg kl
      have ysn : (("" : Str) :: N.labels).Nodup := ys_nd ok (List.Perm.refl _)
      have subl : (hs ++ [((i : Int), y)]).Sublist (hdsL (("" : Str) :: N.labels) (i + 1)) := by
        rw [hdsL_succ, ← hhs, List.append_assoc]
        refine List.Sublist.append (List.Sublist.refl _) ?_
        have z := (List.take_sublist (j + 1) (("" : Str) :: N.labels)).map (fun y => ((i : Int), y))
        rw [ty, List.map_append] at z
        exact z
      have newk : ((i : Int), y) ∉ hs := fun m => by
        have nd2 := (hdsL_nd ysn (i + 1)).sublist subl
        rw [List.nodup_append] at nd2
        exact nd2.2.2 _ m _ List.mem_cons_self rfl
      have hsl : hs.length ≤ 100 := by
        have z := subl.length_le
        rw [hdsL_len, List.length_append] at z
        have z4 : (i + 1) * (("" : Str) :: N.labels).length ≤ 10 * 5 := Nat.mul_le_mul (by omega) (by rw [List.length_cons]; omega)
        omega
      have fl2 : (fK (lmv N fl hs) us).length = hs.length := by
        rw [fK_len (Paired.length gg.2)]
        unfold lmv
        rw [List.length_map]
      have z10 := dp_tkAll (Tk.of sh2) _ _ (flat_map _ flat_ch _) dz
      refine ⟨G, _, rfl, DPut.t (k := [Sum.inl (i : Int), Sum.inr y]) gg.1 eh2 (by rw [fl2, sizeLine_eq]; omega), ?_⟩
      have g11 := GoAt.put (m := (((i : Int), y), firstN N.rows fl ((i : Int), y))) gg (by rw [lmv_keys]; exact newk) (sh2 _ _ esl) z10
      have eq11 : lmv N fl hs ++ [(((i : Int), y), firstN N.rows fl ((i : Int), y))] = lmv N fl (hs ++ [((i : Int), y)]) := by
        unfold lmv
        rw [List.map_append]
        rfl
      rw [eq11] at g11
      have eE11 : (upd H10 G (.dT (putK (fK (lmv N fl hs) us) [Sum.inl (i : Int), Sum.inr y] (V.ref sl)))) E = some (.dT kes) := by
        rw [upd_ne (Ne.symm neGE)]
        exact eE
      have kk11 : ∀ b o, HA b = some o → (upd H10 G (.dT (putK (fK (lmv N fl hs) us) [Sum.inl (i : Int), Sum.inr y] (V.ref sl)))) b = some o := fun b o e => by
        rw [upd_ne (ne_of_none e nG)]
        exact kk _ _ e
      have t11 : Tk H10 (upd H10 G (.dT (putK (fK (lmv N fl hs) us) [Sum.inl (i : Int), Sum.inr y] (V.ref sl)))) := tk_dT gg.1
      have esl11 : (upd H10 G (.dT (putK (fK (lmv N fl hs) us) [Sum.inl (i : Int), Sum.inr y] (V.ref sl)))) sl = some (.lst zs) := by
        rw [upd_ne (fun q => by
          have z := sh2 _ _ esl
          rw [q, gg.1] at z
          cases z)]
        exact sh2 _ _ esl
      have d11 := dp_tkAll t11 _ _ (flat_map _ flat_ch _) z10
      have ecp11 : SqT K (upd H10 G (.dT (putK (fK (lmv N fl hs) us) [Sum.inl (i : Int), Sum.inr y] (V.ref sl)))) cp ((("" : Str) :: N.labels).map V.str) := (((Tk.of ((((s46.trans ss).trans s8).trans s9).trans sh2)).trans t11)).seq ecp4
      have dg11 := dp_tk (((Tk.of ((s8.trans s9).trans sh2))).trans t11) _ _ flg dg7
      revert g11 eE11 kk11 esl11 d11 ecp11 dg11
      generalize upd H10 G (.dT (putK (fK (lmv N fl hs) us) [Sum.inl (i : Int), Sum.inr y] (V.ref sl))) = H11
      intro g11 eE11 kk11 esl11 d11 ecp11 dg11
      dsimp only [sDPut]
      refine if3 (fun R hR => ⟨_, rfl, gd, .str "home", dg11, .str _, shg, by decide +kernel, _, rfl, hR _⟩) (fun R hR => ⟨_, rfl, Nat.zero_le _, fun Z nZ => ⟨.list ((firstN N.rows fl ((i : Int), y)).map dCh), .list [], .lst (SqL.of (same_upd nZ _ _ esl11)) (dp_tkAll (Tk.of (same_upd nZ)) _ _ (flat_map _ flat_ch _) d11), .lst (SqL.of upd_same) .nil, shaped_lst l5z, by decide +kernel, _, rfl, hR _ _ (same_upd nZ)⟩⟩) fun v H12 s12 => ?_
      refine ⟨_, rfl, _, rfl, _, rfl, s2le, fun h3 nh3 => ?_⟩
      have sh3 : Same H12 (upd H12 h3 (.tup [.int (i : Int), .str y])) := same_upd nh3
      have eh3 : (upd H12 h3 (.tup [.int (i : Int), .str y])) h3 = some (.tup [.int (i : Int), .str y]) := upd_same
      revert sh3 eh3
      generalize upd H12 h3 (.tup [.int (i : Int), .str y]) = H13
      intro sh3 eh3
      have s13 := s12.trans sh3
      have eE13 := s13 _ _ eE11
      refine ⟨E, _, rfl, DPut.t (k := [Sum.inl (i : Int), Sum.inr y]) eE13 eh3 (by rw [sizeLine_eq]; omega), ?_⟩
      refine ⟨_, _, _, _, rfl, ?_, ((Tk.of s13).trans (tk_dT eE13)).seq ecp11⟩
      rw [ty, List.map_append, ← List.append_assoc, hhs, hCo]
      refine ⟨us ++ [sl], putK kes [Sum.inl (i : Int), Sum.inr y] v, GoAt.but (g11.keep s13) eE13 neGE (fun b o e n => by rw [upd_ne n]; exact e), upd_same, ?_, fun u hu => ?_, fun b o e => ?_⟩
      · have z := length_putK kes [Sum.inl (i : Int), Sum.inr y] v
        rw [List.length_append]
        show (putK kes [Sum.inl (i : Int), Sum.inr y] v).length ≤ hs.length + 1
        omega
      · rcases List.mem_append.mp hu with hu | hu
        · exact un u hu
        · rw [List.mem_singleton.mp hu]
          exact nsl
      · rw [upd_ne (ne_of_none e nEA)]
        exact s13 _ _ (kk11 _ _ e)
end
end Lr

namespace Lr
open PySem PySem.Spec PyProof.Rows L2

/-! the law's own lots: what is popped off, without steps -/
abbrev Lots := List ((Int × Str) × List Int)
def lotK (lt : Lots) (as : List Addr) : List (List Key × V) := (lt.zip as).map fun e => ([Sum.inl e.1.1.1, Sum.inr e.1.1.2], V.ref e.2)
def lookL (lt : Lots) (k : Int × Str) : List Int := ((lt.find? fun e => decide (e.1 = k)).map (·.2)).getD []
structure LotsAt (H : Hp) (a : Addr) (lt : Lots) (as : List Addr) : Prop where
  tab : H a = some (.dT (lotK lt as))
  val : Paired (fun (u : Addr) (e : (Int × Str) × List Int) => H u = some (.lst (e.2.map V.int))) as lt
  nd : (lt.map (·.1)).Nodup
theorem LotsAt.same {H H' : Hp} {a : Addr} {lt : Lots} {as : List Addr} (h : LotsAt H a lt as) (s : Same H H') : LotsAt H' a lt as := ⟨s _ _ h.tab, paired_imp (fun _ _ e => s _ _ e) h.val, h.nd⟩
theorem lot_get {H : Hp} : ∀ {lt : Lots} {as : List Addr} (k : Int × Str), Paired (fun (u : Addr) (e : (Int × Str) × List Int) => H u = some (.lst (e.2.map V.int))) as lt →
    (valV (lotK lt as) [Sum.inl k.1, Sum.inr k.2] = none ∧ lookL lt k = []) ∨ ∃ u, u ∈ as ∧ valV (lotK lt as) [Sum.inl k.1, Sum.inr k.2] = some (V.ref u) ∧ H u = some (.lst ((lookL lt k).map V.int))
  | _, _, k, .nil => .inl ⟨rfl, rfl⟩
  | _, _, k, .cons (l₁ := us) (l₂ := lt) (a := u) (b := e) h t => by
    by_cases c : e.1 = k
    · refine .inr ⟨u, List.mem_cons_self, ?_, ?_⟩
      · show valV (([Sum.inl e.1.1, Sum.inr e.1.2], V.ref u) :: lotK lt us) _ = _
        rw [← c]
        exact valV_pos rfl
      · have z : lookL (e :: lt) k = e.2 := by
          unfold lookL
          rw [List.find?_cons, decide_eq_true c]
          rfl
        rw [z]
        exact h
    · have z : lookL (e :: lt) k = lookL lt k := by
        unfold lookL
        rw [List.find?_cons, decide_eq_false c]
      have z2 : valV (lotK (e :: lt) (u :: us)) [Sum.inl k.1, Sum.inr k.2] = valV (lotK lt us) [Sum.inl k.1, Sum.inr k.2] := valV_neg (p := ([Sum.inl e.1.1, Sum.inr e.1.2], V.ref u)) (fun q => c (keyOf_inj q))
      rw [z, z2]
      rcases lot_get k t with h | ⟨v, h1, h2, h3⟩
      · exact .inl h
      · exact .inr ⟨v, List.mem_cons_of_mem _ h1, h2, h3⟩
/-- roads below n, each once -/
def ROk (n : Nat) (xs : List Int) : Prop := xs.Nodup ∧ ∀ x ∈ xs, 0 ≤ x ∧ x < (n : Int)
theorem ROk.nil (n : Nat) : ROk n [] := ⟨List.nodup_nil, fun _ h => nomatch h⟩
theorem ROk.len {n : Nat} {xs : List Int} (h : ROk n xs) : xs.length ≤ n := by
  have z := nat_nodup_len (xs.map Int.toNat) (List.range n) (by
    have q := h.1
    rw [List.nodup_iff_pairwise_ne] at q
    rw [List.nodup_iff_pairwise_ne, List.pairwise_map]
    refine List.Pairwise.imp_of_mem (fun {x y} hx hy ne => ?_) q
    have a := h.2 x hx
    have b := h.2 y hy
    omega) (fun x hx => by
    obtain ⟨y, hy, rfl⟩ := List.mem_map.mp hx
    have a := h.2 y hy
    exact List.mem_range.mpr (by omega))
  simpa using z
def LtOk (n : Nat) (lt : Lots) : Prop := ∀ e ∈ lt, ROk n e.2
theorem look_rok {n : Nat} {lt : Lots} (h : LtOk n lt) (k : Int × Str) : ROk n (lookL lt k) := by
  unfold lookL
  cases e : lt.find? fun e => decide (e.1 = k) with
  | none => exact ROk.nil n
  | some x => exact h x (List.mem_of_find?_eq_some e)
def newR (acc xs : List Int) : List Int := xs.filter fun o => !decide (o ∈ acc)
theorem newR_ok {n : Nat} {acc xs : List Int} (h : ROk n acc) (h2 : ROk n xs) : ROk n (acc ++ newR acc xs) := by
  unfold newR
  refine ⟨?_, fun x hx => ?_⟩
  · rw [List.nodup_append]
    refine ⟨h.1, h2.1.filter _, fun a ha b hb e => ?_⟩
    have z := (List.mem_filter.mp hb).2
    rw [← e, decide_eq_true ha] at z
    cases z
  · rcases List.mem_append.mp hx with hx | hx
    · exact h.2 x hx
    · exact h2.2 x (List.mem_filter.mp hx).1
def offGo (lt : Lots) (l : Str) (acc xs : List Int) : List Int := xs.foldl (fun acc h => acc ++ newR acc (lookL lt (h, l))) acc
theorem offGo_snoc (lt : Lots) (l : Str) (acc xs : List Int) (x : Int) : offGo lt l acc (xs ++ [x]) = offGo lt l acc xs ++ newR (offGo lt l acc xs) (lookL lt (x, l)) := by
  unfold offGo
  rw [List.foldl_append]
  rfl
theorem offGo_ok {n : Nat} {lt : Lots} (h : LtOk n lt) (l : Str) : ∀ (xs acc : List Int), ROk n acc → ROk n (offGo lt l acc xs)
  | [], _, a => a
  | x :: xs, acc, a => offGo_ok h l xs _ (newR_ok a (look_rok h _))
def offP (lt : Lots) (r : Int) (ws : List Str) : List Int := ws.foldl (fun xs l => offGo lt l [] xs) [r]
theorem offP_snoc (lt : Lots) (r : Int) (ws : List Str) (l : Str) : offP lt r (ws ++ [l]) = offGo lt l [] (offP lt r ws) := by
  unfold offP
  rw [List.foldl_append]
  rfl
theorem offP_ok {n : Nat} {lt : Lots} (h : LtOk n lt) {r : Int} (r0 : 0 ≤ r) (r1 : r < (n : Int)) (ws : List Str) : ROk n (offP lt r ws) := by
  have go : ∀ (ws : List Str) (xs : List Int), ROk n xs → ROk n (ws.foldl (fun xs l => offGo lt l [] xs) xs) := by
    intro ws
    induction ws with
    | nil => exact fun _ h => h
    | cons l ws ih => exact fun xs hx => ih _ (offGo_ok h l xs [] (ROk.nil n))
  refine go ws [r] ⟨List.nodup_cons.mpr ⟨List.not_mem_nil, List.nodup_nil⟩, fun x hx => ?_⟩
  rw [List.mem_singleton.mp hx]
  exact ⟨r0, r1⟩
def spLOf (K : PySem.W.Frag) : Sp := fun vs H Q _ => ∃ (a wa : Addr) (r : Int) (ws : List Str) (lt : Lots) (as : List Addr) (n : Nat), vs = [.ref a, .int r, .ref wa] ∧ LotsAt H a lt as ∧ LtOk n lt ∧ n ≤ 50 ∧ 0 ≤ r ∧ r < (n : Int) ∧ SqT K H wa (ws.map V.str) ∧
  ∀ (H' : Hp) (L : Addr), Same H H' → H L = none → H' L = some (.lst ((offP lt r ws).map V.int)) → Q (.ref L) H'
section
variable {P : Program} {w : World} {K : PySem.W.Frag} {mg : Str → Option Value} {base : Heap}
theorem scLOf : FnScope ["lots", "road", "word", "some", "label", "later", "here", "one"] ["lots", "road", "word"] (defScope sLOf) := ⟨rfl, rfl, rfl, by decide +kernel, rfl, by decide +kernel, by decide +kernel⟩
theorem ok_LOf {f : Addr} {fd : FuncData} (F : Fun K "_law_off" "_law_off" sLOf f fd) (T : Bt mg) : FnOk P w K mg base CX0 1 f fd ["lots", "road", "word"] (spLOf K) := by
  refine F.ok scLOf (fun vs H Q E h => ?_) (fun cdv A outer s H vs Q E hr h => ?_)
  · obtain ⟨a, wa, r, ws, lt, as, n, rfl, _⟩ := h
    rfl
  · obtain ⟨a, wa, r, ws, lt, as, n, rfl, la, lo, n5, r0, r1, sw, k⟩ := h
    have hu1 : (A.deeper (envOfC "_law_off" (defScope sLOf) s.heap.objs.size f cdv)).units + 1 < cLine := by
      have z := hr.un
      omega
    refine ⟨_, (pss_cons (ps_set (i := 3) scLOf.nd rfl (by first | exact Or.inl rfl | exact Or.inr rfl) (pe_lst (pa_cons (pv 1) pa_nil)))
      (pss_cons (ps_for PassesOwn.never rfl (pi_tup (pv 2)) (pg_name (i := 4) scLOf.nd rfl (by first | exact Or.inl rfl | exact Or.inr rfl))
        (pss_cons (ps_set (i := 5) scLOf.nd rfl (by first | exact Or.inl rfl | exact Or.inr rfl) (pe_lst pa_nil))
        (pss_cons (ps_for PassesOwn.never rfl (pi_list (pv 3)) (pg_name (i := 6) scLOf.nd rfl (by first | exact Or.inl rfl | exact Or.inr rfl))
          (pss_one (ps_set (i := 5) scLOf.nd rfl (by first | exact Or.inl rfl | exact Or.inr rfl) (pe_op op_cat (pv 5) (pe_lc (own := [("one", 7)]) (g := gName 7) (tt := _) rfl scLOf.nd (pi_list (pe_dget2 hu1 (pv 0) (pe_tup (pa_cons (pv 6) (pa_cons (pv 4) pa_nil))) (pe_lst pa_nil) ⟨rfl, rfl, rfl, rfl⟩)) (blkOk_by (N := ["lots", "road", "word", "some", "label", "later", "here", "one"]) (sc := defScope sLOf) (by decide +kernel)) (fun _ _ _ _ _ => pg_name (i := 7) scLOf.nd rfl (.inl rfl)) (fun _ _ _ _ _ => pts_one (pt_cmpR (notinSK (K := K)) (pv 7) (pv 5) (by rfl))) (fun _ _ _ _ _ => pv 7))))))
        (pss_one (ps_set (i := 3) scLOf.nd rfl (by first | exact Or.inl rfl | exact Or.inr rfl) (pv 5))))))
      (pss_one (ps_ret (pv 3))))), ?_⟩
    refine ⟨_, rfl, by rw [sizeLine_eq]; show 1 ≤ 16777216; decide, fun L0 nL0 => ?_⟩
    have s0 : Same H (upd H L0 (.lst [.int r])) := same_upd nL0
    have e0 : (upd H L0 (.lst [.int r])) L0 = some (.lst ((offP lt r []).map V.int)) := upd_same
    revert s0 e0
    generalize upd H L0 (.lst [.int r]) = H0
    intro s0 e0
    refine ⟨_, rfl, wa, rfl, ⟨_, (Tk.of s0).seq sw⟩, ?_⟩
    refine for_tup (K := K) (a := wa) (xs := ws.map V.str) (fun i σ H' => ∃ (u4 u5 u6 : Option V) (L : Addr), σ = [some (.ref a), some (.int r), some (.ref wa), some (.ref L), u4, u5, u6, none] ∧ Same H H' ∧ H L = none ∧ H' L = some (.lst ((offP lt r (ws.take i)).map V.int))) ⟨_, _, _, L0, rfl, s0, nL0, by rw [List.take_zero]; exact e0⟩ (fun i σ H' _ ⟨_, _, _, _, _, sm, _⟩ => (Tk.of sm).seq sw) ?_ ?_
    rotate_left
    · rintro σ H' ⟨u4, u5, u6, L, rfl, sm, nL, eL⟩
      rw [List.length_map, List.take_length] at eL
      exact ⟨_, rfl, k H' L sm nL eL⟩
    rintro i xv σ H1 hx ⟨u4, u5, u6, L, rfl, s1, nL, eL⟩
    rw [List.getElem?_map, Option.map_eq_some_iff] at hx
    obtain ⟨l, hl, rfl⟩ := hx
    have tw : ws.take (i + 1) = ws.take i ++ [l] := by rw [List.take_succ, hl]; rfl
    have ok1 := offP_ok lo r0 r1 (ws.take i)
    rw [tw, offP_snoc]
    generalize offP lt r (ws.take i) = xs at eL ok1
    refine ⟨Nat.zero_le _, fun Z nZ => ?_⟩
    have sZ : Same H1 (upd H1 Z (.lst [])) := same_upd nZ
    have eZ : (upd H1 Z (.lst [])) Z = some (.lst ((offGo lt l [] []).map V.int)) := upd_same
    have nZH : H Z = none := by
      cases z : H Z with
      | none => rfl
      | some o =>
        rw [s1 _ _ z] at nZ
        cases nZ
    revert sZ eZ
    generalize upd H1 Z (.lst []) = H2
    intro sZ eZ
    have eL2 := sZ _ _ eL
    refine ⟨_, rfl, L, rfl, ⟨_, SqL.of eL2⟩, ?_⟩
    refine for_list (K := K) (a := L) (xs := xs.map V.int) (fun j σ H' => ∃ (u6 : Option V) (Z : Addr), σ = [some (.ref a), some (.int r), some (.ref wa), some (.ref L), some (.str l), some (.ref Z), u6, none] ∧ Same H2 H' ∧ H Z = none ∧ H' Z = some (.lst ((offGo lt l [] (xs.take j)).map V.int))) ⟨_, Z, rfl, Same.refl _, nZH, by rw [List.take_zero]; exact eZ⟩ (fun j σ H' _ ⟨_, _, _, sm, _⟩ => SqL.of (sm _ _ eL2)) ?_ ?_
    rotate_left
    · rintro σ H' ⟨u6, Z, rfl, sm, nZ, eZ⟩
      rw [List.length_map, List.take_length] at eZ
      exact ⟨_, rfl, _, _, _, Z, rfl, (s1.trans sZ).trans sm, nZ, eZ⟩
    rintro j xv σ H3 hx ⟨u6, Z, rfl, s3, nZ, eZ⟩
    rw [List.getElem?_map, Option.map_eq_some_iff] at hx
    obtain ⟨x, hxx, rfl⟩ := hx
    have tx : xs.take (j + 1) = xs.take j ++ [x] := by rw [List.take_succ, hxx]; rfl
    have ok2 := offGo_ok lo l (xs.take j) [] (ROk.nil n)
    rw [tx, offGo_snoc]
    generalize offGo lt l [] (xs.take j) = acc at eZ ok2
    have s03 := (s1.trans sZ).trans s3
    have la3 := la.same s03
    -- lots.get((here, label), [])
    refine ⟨_, rfl, _, rfl, a, rfl, .inr ⟨_, .inl la3.tab⟩, _, rfl, _, rfl, s2le, fun hh nh => ?_⟩
    have sh : Same H3 (upd H3 hh (.tup [.int x, .str l])) := same_upd nh
    have eh : (upd H3 hh (.tup [.int x, .str l])) hh = some (.tup [.int x, .str l]) := upd_same
    revert sh eh
    generalize upd H3 hh (.tup [.int x, .str l]) = H4
    intro sh eh
    refine ⟨Nat.zero_le _, fun E nE => ?_⟩
    have sE : Same H4 (upd H4 E (.lst [])) := same_upd nE
    have eE : (upd H4 E (.lst [])) E = some (.lst []) := upd_same
    revert sE eE
    generalize upd H4 E (.lst []) = H5
    intro sE eE
    have s35 := sh.trans sE
    have la5 := la3.same s35
    refine ⟨_, DGet.t (k := [Sum.inl x, Sum.inr l]) la5.tab (sE _ _ eh), ?_⟩
    have okx := look_rok lo (x, l)
    obtain ⟨U, eU, eUL⟩ : ∃ U, (valV (lotK lt as) [Sum.inl x, Sum.inr l]).getD (.ref E) = V.ref U ∧ H5 U = some (.lst ((lookL lt (x, l)).map V.int)) := by
      rcases lot_get (x, l) la5.val with ⟨h1, h2⟩ | ⟨u, _, h1, h2⟩
      · have h1 : valV (lotK lt as) [Sum.inl x, Sum.inr l] = none := h1
        rw [h1, h2]
        exact ⟨E, rfl, eE⟩
      · have h1 : valV (lotK lt as) [Sum.inl x, Sum.inr l] = some (V.ref u) := h1
        rw [h1]
        exact ⟨u, rfl, h2⟩
    rw [eU]
    generalize lookL lt (x, l) = ys at eUL okx
    refine ⟨U, rfl, ⟨_, SqL.of eUL⟩, fun D nD => ?_⟩
    have eZ5 := s35 _ _ eZ
    refine lc_list (K := K) (a := U) (xs := ys.map V.int) (fun e H' => H' D = some (.lst ((newR acc (ys.take e)).map V.int)) ∧ Same H5 H') ⟨by rw [List.take_zero]; exact upd_same, same_upd nD⟩ (fun e H' _ ⟨_, sm⟩ => SqL.of (sm _ _ eUL)) ?_ ?_
    · rintro e xv H6 hx ⟨eD, s6⟩
      rw [List.getElem?_map, Option.map_eq_some_iff] at hx
      obtain ⟨y, hyy, rfl⟩ := hx
      have tye : ys.take (e + 1) = ys.take e ++ [y] := by rw [List.take_succ, hyy]; rfl
      have tn : newR acc (ys.take (e + 1)) = newR acc (ys.take e) ++ (if (!decide (y ∈ acc)) = true then [y] else []) := by
        unfold newR
        rw [tye, List.filter_append]
        cases hh : (!decide (y ∈ acc)) <;> simp [hh]
      refine ⟨rfl, _, rfl, _, rfl, Z, _, rfl, .inl (SqL.of (s6 _ _ eZ5)), rfl, flat_ints acc, ?_⟩
      have ans : (if true = true then !inV (V.int y) (acc.map V.int) else inV (V.int y) (acc.map V.int)) = !decide (y ∈ acc) := by
        show (!inV (V.int y) (acc.map V.int)) = _
        rw [inV_ints]
      refine ⟨_, rfl, ?_⟩
      refine ite2 (fun yes => ?_) (fun no => ?_)
      · have yes' := ans.symm.trans yes
        rw [if_pos yes'] at tn
        have lg := okx.len
        have ll : (newR acc (ys.take e)).length ≤ ys.length := by
          unfold newR
          have z := List.length_filter_le (fun o => !decide (o ∈ acc)) (ys.take e)
          rw [List.length_take] at z
          omega
        refine ⟨_, rfl, _, eD, by rw [List.length_map, sizeLine_eq]; omega, by rw [upd_same, tn, List.map_append]; rfl, fun q o eq => by rw [upd_ne (ne_of_none eq nD)]; exact s6 _ _ eq⟩
      · have no' : ¬ (!decide (y ∈ acc)) = true := fun q => no (ans.trans q)
        rw [if_neg no', List.append_nil] at tn
        refine ⟨?_, s6⟩
        rw [tn]
        exact eD
    · rintro H6 ⟨eD, s6⟩
      rw [List.length_map, List.take_length] at eD
      have z1 := okx.len
      have z2 := ok2.len
      have ll : (newR acc ys).length ≤ ys.length := by
        unfold newR
        exact List.length_filter_le _ _
      refine ⟨Z, D, _, _, rfl, rfl, s6 _ _ eZ5, eD, by rw [List.length_map, List.length_map, sizeLine_eq]; omega, fun p np => ?_⟩
      have nPH : H p = none := by
        cases z : H p with
        | none => rfl
        | some o =>
          rw [s6 _ _ (s35 _ _ (s03 _ _ z))] at np
          cases np
      exact ⟨_, p, rfl, (s3.trans s35).trans (s6.trans (same_upd np)), nPH, by rw [upd_same, List.map_append]⟩
end
end Lr

namespace Lr
open PySem PySem.Spec PyProof.Rows L2
section
variable {X : Cx}
/-- dict(xs) of a list of pairs whose keys are tuples, no key twice -/
def rDictL (K : PySem.W.Frag) : List V → Hp → VK → Prop := fun vs H Q => ∃ (a : Addr) (ps : List Addr) (kvs : List (List L2.Key × Addr × V)), vs = [.ref a] ∧ SqL K H a (ps.map V.ref) ∧ Paired (PrT K H) ps kvs ∧ (kvs.map (·.1)).Nodup ∧ kvs.length ≤ 100000 ∧
  ∀ p, H p = none → Q (.ref p) (upd H p (.dT (kvs.map fun q => (q.1, q.2.2))))
theorem cr_dictL (hc : X.calm = true) (hu : X.A.units + 8 < cLine) : CallR X (.type "dict") (rDictL X.K) := by
  intro pins s σ H vs us Q I r h
  obtain ⟨a, ps, kvs, rfl, ea, pr, nd, few, q⟩ := h
  rw [Vals.ref1 r]
  obtain ⟨its, rv, pl, hz⟩ := I.list ea
  have ei := refs_at rv
  subst ei
  obtain ⟨xs, prx, lx, kx, all⟩ := prs_at I pr
  have lk : kvs.length = xs.length := Paired.length prx
  obtain ⟨o, n, ho, hcl, hd, hdat⟩ := pl
  have ap := PairArg.list (prog := X.prog) (w := X.w) a (ps.map Value.ref).toArray (fun j => (ps[j]?).getD 0) (xs.map fun x => (Value.ref x.2.1, x.2.2))
  refine call_dict_pairsH (knd := TK X.prog X.w) (ps := xs) ap (I.ok.hd hc) (show X.A.units + 1 + 1 < cLine by omega) ⟨⟨o, n, ho, hcl, hd, hdat⟩, by rw [List.size_toArray, List.length_map, List.length_map, lx], fun j k v e => ?_⟩ ⟨by rw [List.length_map], fun i key v e => ?_⟩ (fun h' hk x hx => ?_) (by rw [List.length_map, sizeLine_eq]; omega) fun h' tk hd' k => ?_
  · rw [List.getElem?_map, Option.map_eq_some_iff] at e
    obtain ⟨x, hx, ex⟩ := e
    injection ex with e1 e2
    obtain ⟨_, b, hb, tup⟩ := all j x hx
    rw [e1, e2] at tup
    refine ⟨by simp [hb], ?_⟩
    show PairAt s.heap ((ps[j]?).getD 0) k v
    rw [hb]
    exact .inl tup
  · have e : (xs.map fun x => (Value.ref x.2.1, x.2.2))[i]? = some (key, v) := e
    rw [List.getElem?_map, Option.map_eq_some_iff] at e
    obtain ⟨x, hx, ex⟩ := e
    injection ex with e1 e2
    exact ⟨x.1, x.2.1, by rw [hx, ← e2], e1.symm⟩
  · obtain ⟨j, hj⟩ := List.mem_iff_getElem?.mp hx
    obtain ⟨is, _⟩ := all j x hj
    exact tk_keep is fun o e => hk _ _ (Nat.ne_of_lt (Heap.lt_size e)) (fun z => nomatch z) e
  · rw [storedAllH_nil_of_nodup xs (by rw [kx]; exact nd)] at hd'
    have free : H s.heap.objs.size = none := I.hok.fresh (Nat.le_refl _)
    have nm : (s.heap.objs.size == sysModules) = false := beq_eq_false_iff_ne.mpr (Nat.ne_of_gt I.big)
    obtain ⟨od, es, ep, e1, e2, e3, e4, e5, e6⟩ := hd'
    refine ⟨.ref s.heap.objs.size, upd H s.heap.objs.size (.dT (kvs.map fun q => (q.1, q.2.2))), I.laid (t' := tk) (fun b o e => k b o (fun z => nomatch z) e) (Nat.le_refl _) ?_, rfl, q _ free⟩
    refine ⟨by rw [List.length_map, sizeLine_eq]; omega, nm, xs, ?_, od, es, ep, e1, e2, e3, e4, e6⟩
    have go : ∀ {l : List (List L2.Key × Addr × V)} {m : List (List L2.Key × Addr × Value)}, Paired (fun (p : List L2.Key × Addr × V) (q : List L2.Key × Addr × Value) => p.1 = q.1 ∧ p.2.1 = q.2.1 ∧ H q.2.1 = some (.tup (q.1.map kV)) ∧ RelV p.2.2 q.2.2) l m →
        Paired (fun (p : List L2.Key × V) (q : List L2.Key × Addr × Value) => p.1 = q.1 ∧ (upd H s.heap.objs.size (.dT (kvs.map fun q => (q.1, q.2.2)))) q.2.1 = some (.tup (p.1.map kV)) ∧ RelV p.2 q.2.2) (l.map fun q => (q.1, q.2.2)) m := by
      intro l m h
      induction h with
      | nil => exact .nil
      | cons h t ih =>
        obtain ⟨g1, g2, g3, g4⟩ := h
        refine .cons ⟨g1, ?_, g4⟩ ih
        rw [upd_ne (ne_of_none g3 free), g1]
        exact g3
    exact go prx
end
end Lr

namespace Lr
open PySem PySem.Spec PyProof.Rows L2

/-- so many steps of a parcel -/
inductive Run (mv : Mvs) : Nat → Int → List Str → Int → List Str → Prop where
  | nil {s : Int} {st : List Str} : Run mv 0 s st s st
  | cons {n : Nat} {s q : Int} {l : Str} {st st' : List Str} {cs : List Chc} {c : Chc} (h : ((s, l), cs) ∈ mv) (hc : c ∈ cs) (t : Run mv n c.1 (c.2 ++ st) q st') : Run mv (n + 1) s (l :: st) q st'
theorem Run.trans {mv : Mvs} : ∀ {n m : Nat} {s r q : Int} {a b c : List Str}, Run mv n s a r b → Run mv m r b q c → Run mv (n + m) s a q c
  | _, _, _, _, _, _, _, _, .nil, h => by rw [Nat.zero_add]; exact h
  | _, _, _, _, _, _, _, _, .cons (n := n) h hc t, k => by
    rw [Nat.add_right_comm]
    exact .cons h hc (Run.trans t k)
theorem way_split {mv : Mvs} : ∀ {a b : List Str} {s q w : Int}, WayD mv s (a ++ b) q w → ∃ r w1 w2, WayD mv s a r w1 ∧ WayD mv r b q w2 ∧ w = w1 + w2
  | [], b, s, q, w, h => ⟨s, 0, w, .nil, h, by omega⟩
  | g :: a, b, s, q, w, h => by
    cases h with
    | cons h t =>
      obtain ⟨r, w1, w2, h1, h2, e⟩ := way_split t
      exact ⟨r, _, w2, .cons h h1, h2, by omega⟩
/-- a run that takes all labels off, told by ways; no label is "" -/
theorem run_way {mv : Mvs} (nl : ∀ m ∈ mv, ∀ c ∈ m.2, ("" : Str) ∉ c.2) : ∀ (n : Nat) {s q : Int} {ws : List Str}, ("" : Str) ∉ ws → Run mv n s ws q [] → WayD mv s ws q (n : Nat)
  | 0, s, q, ws, _, h => by
    cases h
    exact .nil
  | n + 1, s, q, ws, no, h => by
    cases h with
    | @cons _ _ _ l st _ cs c hm hc t =>
      have l0 : l ≠ "" := fun e => no (e ▸ List.mem_cons_self)
      have z := run_way nl n (fun m => (List.mem_append.mp m).elim (nl _ hm c hc) (fun m => no (List.mem_cons_of_mem _ m))) t
      obtain ⟨r, w1, w2, h1, h2, e⟩ := way_split z
      have sg : sgW l c.2 = c.2 := by unfold sgW; rw [if_neg l0]
      have d : Der mv (s, l) r (w1 + 1) := .mk hm hc (by show WayD mv c.1 (sgW l c.2) r w1; rw [sg]; exact h1)
      have f := WayD.cons d h2
      rw [show ((n + 1 : Nat) : Int) = w1 + 1 + w2 by omega]
      exact f
mutual
theorem der_run {mv : Mvs} : ∀ {k : Int × Str} {q w : Int}, Der mv k q w → k.2 ≠ "" → (∀ m ∈ mv, ∀ c ∈ m.2, ("" : Str) ∉ c.2) → ∀ st : List Str, ∃ n : Nat, w = (n : Int) ∧ Run mv n k.1 (k.2 :: st) q st
  | _, _, _, .mk (k := k) (cs := cs) (c := c) (q := q) (w := w) h hc t, ne, nl, st => by
    have sg : sgW k.2 c.2 = c.2 := by unfold sgW; rw [if_neg ne]
    obtain ⟨n, e, r⟩ := way_run t (by rw [sg]; exact nl _ h c hc) nl st
    rw [sg] at r
    exact ⟨n + 1, by omega, .cons h hc r⟩
theorem way_run {mv : Mvs} : ∀ {s : Int} {ws : List Str} {q w : Int}, WayD mv s ws q w → ("" : Str) ∉ ws → (∀ m ∈ mv, ∀ c ∈ m.2, ("" : Str) ∉ c.2) → ∀ st : List Str, ∃ n : Nat, w = (n : Int) ∧ Run mv n s (ws ++ st) q st
  | _, _, _, _, .nil, _, _, st => ⟨0, rfl, .nil⟩
  | _, _, _, _, .cons (s := s) (g := g) (ws := ws) h t, no, nl, st => by
    obtain ⟨n1, e1, r1⟩ := der_run h (fun e => no (by rw [← show g = "" from e]; exact List.mem_cons_self)) nl (ws ++ st)
    obtain ⟨n2, e2, r2⟩ := way_run t (fun m => no (List.mem_cons_of_mem _ m)) nl st
    exact ⟨n1 + n2, by omega, r1.trans r2⟩
end
/-- what is popped off, by runs -/
theorem der_iff {mv : Mvs} (nl : ∀ m ∈ mv, ∀ c ∈ m.2, ("" : Str) ∉ c.2) {r q w : Int} {l : Str} (ne : l ≠ "") : Der mv (r, l) q w ↔ ∃ n : Nat, w = (n : Int) ∧ Run mv n r [l] q [] := by
  constructor
  · intro h
    exact der_run h ne nl []
  · rintro ⟨n, rfl, h⟩
    have z := run_way nl n (fun m => ne (List.mem_singleton.mp m).symm) h
    revert z
    generalize ((n : Nat) : Int) = w
    intro z
    cases z with
    | cons h t =>
      cases t
      rw [Int.add_zero]
      exact h
mutual
/-- nothing is popped off where no label is -/
theorem no_end_der {mv : Mvs} : ∀ {k : Int × Str} {q w : Int}, Der mv k q w → k.2 ≠ ""
  | _, _, _, .mk (k := k) (c := c) h hc t => fun e => by
    have m : ("" : Str) ∈ sgW k.2 c.2 := by
      unfold sgW
      rw [if_pos e]
      exact List.mem_append_right _ List.mem_cons_self
    exact no_end_way t m
theorem no_end_way {mv : Mvs} : ∀ {s : Int} {ws : List Str} {q w : Int}, WayD mv s ws q w → ("" : Str) ∉ ws
  | _, _, _, _, .nil => fun m => nomatch m
  | _, _, _, _, .cons (g := g) h t => fun m => by
    rcases List.mem_cons.mp m with e | m
    · exact no_end_der h e.symm
    · exact no_end_way t m
end
end Lr

namespace Lr
open PySem PySem.Spec PyProof.Rows L2

/-! the law's rounds over its lots -/
theorem newR_mem {acc xs : List Int} {y : Int} : y ∈ newR acc xs ↔ y ∈ xs ∧ y ∉ acc := by
  unfold newR
  rw [List.mem_filter]
  constructor
  · rintro ⟨h1, h2⟩
    refine ⟨h1, fun z => ?_⟩
    rw [decide_eq_true z] at h2
    cases h2
  · rintro ⟨h1, h2⟩
    exact ⟨h1, by rw [decide_eq_false h2]; rfl⟩
theorem offGo_mem {lt : Lots} {l : Str} {y : Int} : ∀ {xs acc : List Int}, y ∈ offGo lt l acc xs ↔ y ∈ acc ∨ ∃ x ∈ xs, y ∈ lookL lt (x, l)
  | [], acc => ⟨.inl, fun h => h.elim id fun ⟨_, h, _⟩ => nomatch h⟩
  | x :: xs, acc => by
    have ih := offGo_mem (lt := lt) (l := l) (y := y) (xs := xs) (acc := acc ++ newR acc (lookL lt (x, l)))
    show y ∈ offGo lt l (acc ++ newR acc (lookL lt (x, l))) xs ↔ _
    rw [ih, List.mem_append, newR_mem]
    constructor
    · rintro ((h | ⟨h, _⟩) | ⟨z, hz, h⟩)
      · exact .inl h
      · exact .inr ⟨x, List.mem_cons_self, h⟩
      · exact .inr ⟨z, List.mem_cons_of_mem _ hz, h⟩
    · rintro (h | ⟨z, hz, h⟩)
      · exact .inl (.inl h)
      · rcases List.mem_cons.mp hz with rfl | hz
        · by_cases c : y ∈ acc
          · exact .inl (.inl c)
          · exact .inl (.inr ⟨h, c⟩)
        · exact .inr ⟨z, hz, h⟩
inductive WayL (lt : Lots) : Int → List Str → Int → Prop where
  | nil {s : Int} : WayL lt s [] s
  | cons {s r q : Int} {g : Str} {ws : List Str} (h : r ∈ lookL lt (s, g)) (t : WayL lt r ws q) : WayL lt s (g :: ws) q
theorem offs_mem {lt : Lots} {q : Int} : ∀ {ws : List Str} {xs : List Int}, q ∈ ws.foldl (fun xs l => offGo lt l [] xs) xs ↔ ∃ s ∈ xs, WayL lt s ws q
  | [], xs => ⟨fun h => ⟨q, h, .nil⟩, fun ⟨s, h, w⟩ => by cases w; exact h⟩
  | g :: ws, xs => by
    have ih := offs_mem (lt := lt) (q := q) (ws := ws) (xs := offGo lt g [] xs)
    show q ∈ ws.foldl (fun xs l => offGo lt l [] xs) (offGo lt g [] xs) ↔ _
    rw [ih]
    constructor
    · rintro ⟨r, hr, w⟩
      rcases offGo_mem.mp hr with h | ⟨s, hs, h⟩
      · cases h
      · exact ⟨s, hs, .cons h w⟩
    · rintro ⟨s, hs, w⟩
      cases w with
      | cons h t => exact ⟨_, offGo_mem.mpr (.inr ⟨s, hs, h⟩), t⟩
theorem offP_mem {lt : Lots} {r q : Int} {ws : List Str} : q ∈ offP lt r ws ↔ WayL lt r ws q := by
  unfold offP
  rw [offs_mem]
  exact ⟨fun ⟨s, hs, w⟩ => by rw [List.mem_singleton.mp hs] at w; exact w, fun w => ⟨r, List.mem_cons_self, w⟩⟩
def setL (lt : Lots) (k : Int × Str) (row : List Int) : Lots := lt.map fun e => if e.1 = k then (e.1, row) else e
theorem setL_keys (lt : Lots) (k : Int × Str) (row : List Int) : (setL lt k row).map (·.1) = lt.map (·.1) := by
  unfold setL
  rw [List.map_map]
  refine List.map_congr_left fun e _ => ?_
  show (if e.1 = k then (e.1, row) else e).1 = e.1
  split <;> rfl
theorem setL_none : ∀ {lt : Lots} {k : Int × Str} {row : List Int}, k ∉ lt.map (·.1) → setL lt k row = lt
  | [], _, _, _ => rfl
  | e :: lt, k, row, h => by
    have h1 : e.1 ≠ k := fun z => h (by rw [← z]; exact List.mem_cons_self)
    show (if e.1 = k then (e.1, row) else e) :: setL lt k row = _
    rw [if_neg h1, setL_none fun m => h (List.mem_cons_of_mem _ m)]
theorem look_setL : ∀ {lt : Lots} {k k' : Int × Str} {row : List Int}, k ∈ lt.map (·.1) → lookL (setL lt k row) k' = if k' = k then row else lookL lt k'
  | [], _, _, _, h => nomatch h
  | e :: lt, k, k', row, h => by
    have hc : ∀ (e : (Int × Str) × List Int) (lt : Lots) (k : Int × Str), lookL (e :: lt) k = if e.1 = k then e.2 else lookL lt k := fun e lt k => by
      unfold lookL
      rw [List.find?_cons]
      by_cases c : e.1 = k
      · rw [decide_eq_true c, if_pos c]
        rfl
      · rw [decide_eq_false c, if_neg c]
    show lookL ((if e.1 = k then (e.1, row) else e) :: setL lt k row) k' = _
    by_cases c : e.1 = k
    · rw [if_pos c, hc, hc]
      show (if e.1 = k' then row else lookL (setL lt k row) k') = _
      by_cases d : k' = k
      · rw [if_pos (c.trans d.symm), if_pos d]
      · rw [if_neg (fun z => d (z.symm.trans c)), if_neg d, if_neg (fun z => d (z.symm.trans c))]
        by_cases m : k ∈ lt.map (·.1)
        · rw [look_setL m, if_neg d]
        · rw [setL_none m]
    · have m : k ∈ lt.map (·.1) := (List.mem_cons.mp h).resolve_left fun z => c z.symm
      rw [if_neg c, hc, hc, look_setL m]
      by_cases d : k' = k
      · rw [if_pos d, if_neg (fun z => c (z.trans d)), if_pos d]
      · rw [if_neg d, if_neg d]
theorem lookL_mem : ∀ {lt : Lots} {e : (Int × Str) × List Int}, (lt.map (·.1)).Nodup → e ∈ lt → lookL lt e.1 = e.2
  | [], _, _, h => nomatch h
  | y :: lt, e, nd, h => by
    rw [List.map_cons, List.nodup_cons] at nd
    unfold lookL
    rw [List.find?_cons]
    rcases List.mem_cons.mp h with rfl | h
    · rw [decide_eq_true rfl]
      rfl
    · have ne : y.1 ≠ e.1 := fun z => nd.1 (by rw [z]; exact List.mem_map_of_mem (f := fun e : (Int × Str) × List Int => e.1) h)
      rw [decide_eq_false ne]
      exact lookL_mem nd.2 h
theorem setL_same {lt : Lots} (nd : (lt.map (·.1)).Nodup) (k : Int × Str) : setL lt k (lookL lt k) = lt := by
  unfold setL
  have z : lt.map (fun e => if e.1 = k then (e.1, lookL lt k) else e) = lt.map id := List.map_congr_left fun e he => by
    show (if e.1 = k then (e.1, lookL lt k) else e) = e
    split
    · rename_i c
      rw [← c, lookL_mem nd he]
    · rfl
  rw [z, List.map_id]
def totL (lt : Lots) : Nat := (lt.map fun e => e.2.length).sum
theorem totL_set : ∀ {lt : Lots} {k : Int × Str} {row : List Int}, (lt.map (·.1)).Nodup → k ∈ lt.map (·.1) → totL (setL lt k row) + (lookL lt k).length = totL lt + row.length
  | [], _, _, _, h => nomatch h
  | e :: lt, k, row, nd, h => by
    rw [List.map_cons, List.nodup_cons] at nd
    have hc : lookL (e :: lt) k = if e.1 = k then e.2 else lookL lt k := by
      unfold lookL
      rw [List.find?_cons]
      by_cases c : e.1 = k
      · rw [decide_eq_true c, if_pos c]
        rfl
      · rw [decide_eq_false c, if_neg c]
    have ht : totL (setL (e :: lt) k row) = (if e.1 = k then (e.1, row) else e).2.length + totL (setL lt k row) := rfl
    have ht2 : totL (e :: lt) = e.2.length + totL lt := rfl
    by_cases c : e.1 = k
    · rw [ht, ht2, hc, if_pos c, if_pos c, setL_none (c ▸ nd.1)]
      show row.length + totL lt + e.2.length = e.2.length + totL lt + row.length
      omega
    · have m : k ∈ lt.map (·.1) := (List.mem_cons.mp h).resolve_left fun z => c z.symm
      have ih := totL_set (row := row) nd.2 m
      rw [ht, ht2, hc, if_neg c, if_neg c]
      omega
theorem totL_le {n : Nat} : ∀ {lt : Lots}, LtOk n lt → totL lt ≤ lt.length * n
  | [], _ => Nat.zero_le _
  | e :: lt, h => by
    have a := totL_le fun x hx => h x (List.mem_cons_of_mem _ hx)
    have b := (h e List.mem_cons_self).len
    show e.2.length + totL lt ≤ (lt.length + 1) * n
    rw [Nat.succ_mul]
    omega
/-! a step, a head, a round -/
def freshL (lt : Lots) (k : Int × Str) (c : Chc) : List Int := newR (lookL lt k) (offP lt c.1 c.2)
def stepL (k : Int × Str) (st : Lots × Bool) (c : Chc) : Lots × Bool := (setL st.1 k (lookL st.1 k ++ freshL st.1 k c), st.2 || !(freshL st.1 k c).isEmpty)
def headL (k : Int × Str) (st : Lots × Bool) (cs : List Chc) : Lots × Bool := cs.foldl (stepL k) st
theorem headL_snoc (k : Int × Str) (st : Lots × Bool) (cs : List Chc) (c : Chc) : headL k st (cs ++ [c]) = stepL k (headL k st cs) c := by
  unfold headL
  rw [List.foldl_append]
  rfl
def roundL (ms : Mvs) (st : Lots × Bool) : Lots × Bool := ms.foldl (fun st m => headL m.1 st m.2) st
theorem roundL_snoc (ms : Mvs) (m : (Int × Str) × List Chc) (st : Lots × Bool) : roundL (ms ++ [m]) st = headL m.1 (roundL ms st) m.2 := by
  unfold roundL
  rw [List.foldl_append]
  rfl
/-- what always stands of the lots: their keys, roads below n, only what is popped off -/
structure LInv (n : Nat) (ks : List (Int × Str)) (mv : Mvs) (lt : Lots) : Prop where
  keys : lt.map (·.1) = ks
  ok : LtOk n lt
  sound : ∀ k x, x ∈ lookL lt k → ∃ w, Der mv k x w
theorem wayL_sound {mv : Mvs} {lt : Lots} (h : ∀ k x, x ∈ lookL lt k → ∃ w, Der mv k x w) : ∀ {s q : Int} {ws : List Str}, WayL lt s ws q → ∃ w, WayD mv s ws q w
  | _, _, _, .nil => ⟨0, .nil⟩
  | _, _, _, .cons a t => by
    obtain ⟨w1, h1⟩ := h _ _ a
    obtain ⟨w2, h2⟩ := wayL_sound h t
    exact ⟨_, .cons h1 h2⟩
theorem setL_ok {n : Nat} {lt : Lots} {k : Int × Str} {row : List Int} (h : LtOk n lt) (r : ROk n row) : LtOk n (setL lt k row) := fun e he => by
  unfold setL at he
  obtain ⟨x, hx, rfl⟩ := List.mem_map.mp he
  split
  · exact r
  · exact h x hx
theorem stepL_inv {n : Nat} {ks : List (Int × Str)} {mv : Mvs} {st : Lots × Bool} {k : Int × Str} {cs : List Chc} {c : Chc} (h : LInv n ks mv st.1) (hk : k ∈ ks) (kl : k.2 ≠ "") (hm : (k, cs) ∈ mv) (hc : c ∈ cs) (c0 : 0 ≤ c.1) (c1 : c.1 < (n : Int)) : LInv n ks mv (stepL k st c).1 := by
  have kk : k ∈ st.1.map (·.1) := by rw [h.keys]; exact hk
  refine ⟨(setL_keys _ _ _).trans h.keys, setL_ok h.ok (newR_ok (look_rok h.ok k) (offP_ok h.ok c0 c1 _)), fun k' x hx => ?_⟩
  have hx : x ∈ lookL (setL st.1 k (lookL st.1 k ++ freshL st.1 k c)) k' := hx
  rw [look_setL kk] at hx
  by_cases e : k' = k
  · rw [if_pos e] at hx
    rw [e]
    rcases List.mem_append.mp hx with hx | hx
    · exact h.sound k x hx
    · unfold freshL at hx
      obtain ⟨w, wy⟩ := wayL_sound h.sound (offP_mem.mp (newR_mem.mp hx).1)
      refine ⟨w + 1, .mk hm hc ?_⟩
      unfold sgW
      rw [if_neg kl]
      exact wy
  · rw [if_neg e] at hx
    exact h.sound k' x hx
theorem stepL_tot {n : Nat} {ks : List (Int × Str)} {mv : Mvs} {st : Lots × Bool} {k : Int × Str} {c : Chc} (h : LInv n ks mv st.1) (nd : ks.Nodup) (hk : k ∈ ks) : totL (stepL k st c).1 = totL st.1 + (freshL st.1 k c).length := by
  have z := totL_set (lt := st.1) (k := k) (row := lookL st.1 k ++ freshL st.1 k c) (by rw [h.keys]; exact nd) (by rw [h.keys]; exact hk)
  rw [List.length_append] at z
  show totL (setL st.1 k (lookL st.1 k ++ freshL st.1 k c)) = _
  omega
/-- how a state comes from another: nothing less; more where a flag was set; the same where none was -/
def After (a b : Lots × Bool) : Prop := totL a.1 ≤ totL b.1 ∧ (a.2 = true → b.2 = true) ∧ (a.2 = false → b.2 = true → totL a.1 < totL b.1) ∧ (b.2 = false → b.1 = a.1)
theorem After.refl (a : Lots × Bool) : After a a := ⟨Nat.le_refl _, id, (fun h k => by
    rw [h] at k
    cases k), fun _ => rfl⟩
theorem After.trans {a b c : Lots × Bool} (h : After a b) (k : After b c) : After a c := by
  refine ⟨Nat.le_trans h.1 k.1, fun x => k.2.1 (h.2.1 x), fun x y => ?_, fun x => ?_⟩
  · cases e : b.2 with
    | true =>
      have z := h.2.2.1 x e
      have z2 := k.1
      omega
    | false =>
      have z := k.2.2.1 e y
      have z2 := h.1
      omega
  · have e : b.2 = false := by
      cases e : b.2 with
      | false => rfl
      | true =>
        rw [k.2.1 e] at x
        cases x
    rw [k.2.2.2 x, h.2.2.2 e]
theorem stepL_after {n : Nat} {ks : List (Int × Str)} {mv : Mvs} {st : Lots × Bool} {k : Int × Str} {c : Chc} (h : LInv n ks mv st.1) (nd : ks.Nodup) (hk : k ∈ ks) : After st (stepL k st c) ∧ ((stepL k st c).2 = false → ∀ x, x ∈ offP st.1 c.1 c.2 → x ∈ lookL st.1 k) := by
  have tt := stepL_tot (c := c) h nd hk
  have fl : (stepL k st c).2 = (st.2 || !(freshL st.1 k c).isEmpty) := rfl
  have emp : (stepL k st c).2 = false → freshL st.1 k c = [] := fun e => by
    rw [fl, Bool.or_eq_false_iff] at e
    cases z : freshL st.1 k c with
    | nil => rfl
    | cons _ _ =>
      rw [z] at e
      cases e.2
  refine ⟨⟨by omega, fun e => by rw [fl, e]; rfl, fun e1 e2 => ?_, fun e => ?_⟩, fun e x hx => ?_⟩
  · rw [fl, e1, Bool.false_or] at e2
    cases z : freshL st.1 k c with
    | nil =>
      rw [z] at e2
      cases e2
    | cons a b =>
      rw [z, List.length_cons] at tt
      omega
  · show setL st.1 k (lookL st.1 k ++ freshL st.1 k c) = st.1
    rw [emp e, List.append_nil]
    exact setL_same (by rw [h.keys]; exact nd) k
  · apply Classical.byContradiction
    intro n
    have m : x ∈ freshL st.1 k c := newR_mem.mpr ⟨hx, n⟩
    rw [emp e] at m
    cases m
theorem headL_all {n : Nat} {ks : List (Int × Str)} {mv : Mvs} (nd : ks.Nodup) {k : Int × Str} (hk : k ∈ ks) (kl : k.2 ≠ "") {all : List Chc} (hm : (k, all) ∈ mv) : ∀ {cs : List Chc} {st : Lots × Bool}, (∀ c ∈ cs, c ∈ all ∧ 0 ≤ c.1 ∧ c.1 < (n : Int)) → LInv n ks mv st.1 →
    LInv n ks mv (headL k st cs).1 ∧ After st (headL k st cs) ∧ ((headL k st cs).2 = false → ∀ c ∈ cs, ∀ x, x ∈ offP st.1 c.1 c.2 → x ∈ lookL st.1 k)
  | [], st, _, h => ⟨h, After.refl _, fun _ c hc => nomatch hc⟩
  | c :: cs, st, ha, h => by
    obtain ⟨a1, a2, a3⟩ := ha c List.mem_cons_self
    have i1 := stepL_inv h hk kl hm a1 a2 a3
    obtain ⟨f1, f2⟩ := stepL_after (c := c) h nd hk
    obtain ⟨i2, f3, f4⟩ := headL_all nd hk kl hm (cs := cs) (st := stepL k st c) (fun x hx => ha x (List.mem_cons_of_mem _ hx)) i1
    refine ⟨i2, f1.trans f3, fun e d hd => ?_⟩
    have e : (headL k (stepL k st c) cs).2 = false := e
    have e1 : (stepL k st c).2 = false := by
      cases z : (stepL k st c).2 with
      | false => rfl
      | true =>
        rw [f3.2.1 z] at e
        cases e
    rcases List.mem_cons.mp hd with rfl | hd
    · exact f2 e1
    · have z := f4 e d hd
      rw [f1.2.2.2 e1] at z
      exact z
theorem roundL_all {n : Nat} {ks : List (Int × Str)} {mv : Mvs} (nd : ks.Nodup) : ∀ {ms : Mvs} {st : Lots × Bool}, (∀ m ∈ ms, m ∈ mv ∧ m.1 ∈ ks ∧ m.1.2 ≠ "" ∧ ∀ c ∈ m.2, 0 ≤ c.1 ∧ c.1 < (n : Int)) → LInv n ks mv st.1 →
    LInv n ks mv (roundL ms st).1 ∧ After st (roundL ms st) ∧ ((roundL ms st).2 = false → ∀ m ∈ ms, ∀ c ∈ m.2, ∀ x, x ∈ offP st.1 c.1 c.2 → x ∈ lookL st.1 m.1)
  | [], st, _, h => ⟨h, After.refl _, fun _ c hc => nomatch hc⟩
  | m :: ms, st, ha, h => by
    obtain ⟨a1, a2, a3, a4⟩ := ha m List.mem_cons_self
    obtain ⟨i1, f1, f2⟩ := headL_all nd a2 a3 (k := m.1) (all := m.2) a1 (cs := m.2) (st := st) (fun c hc => ⟨hc, a4 c hc⟩) h
    obtain ⟨i2, f3, f4⟩ := roundL_all nd (ms := ms) (st := headL m.1 st m.2) (fun x hx => ha x (List.mem_cons_of_mem _ hx)) i1
    refine ⟨i2, f1.trans f3, fun e d hd => ?_⟩
    have e : (roundL ms (headL m.1 st m.2)).2 = false := e
    have e1 : (headL m.1 st m.2).2 = false := by
      cases z : (headL m.1 st m.2).2 with
      | false => rfl
      | true =>
        rw [f3.2.1 z] at e
        cases e
    rcases List.mem_cons.mp hd with rfl | hd
    · exact f2 e1
    · have z := f4 e d hd
      rw [f1.2.2.2 e1] at z
      exact z
/-- closed lots hold all that is popped off -/
def ClosedL (ms : Mvs) (lt : Lots) : Prop := ∀ m ∈ ms, ∀ c ∈ m.2, ∀ x, x ∈ offP lt c.1 c.2 → x ∈ lookL lt m.1
mutual
theorem derL_in {mv ms : Mvs} {lt : Lots} (cl : ClosedL ms lt) (hs : ∀ m ∈ mv, m.1.2 ≠ "" → m ∈ ms) : ∀ {k : Int × Str} {q w : Int}, Der mv k q w → q ∈ lookL lt k
  | _, _, _, .mk (k := k) (cs := cs) (c := c) (q := q) (w := w) h hc t => by
    have ne : k.2 ≠ "" := no_end_der (.mk h hc t)
    have wy := wayL_in cl hs t
    unfold sgW at wy
    rw [if_neg ne] at wy
    exact cl (k, cs) (hs _ h ne) c hc q (offP_mem.mpr wy)
theorem wayL_in {mv ms : Mvs} {lt : Lots} (cl : ClosedL ms lt) (hs : ∀ m ∈ mv, m.1.2 ≠ "" → m ∈ ms) : ∀ {s : Int} {ws : List Str} {q w : Int}, WayD mv s ws q w → WayL lt s ws q
  | _, _, _, _, .nil => .nil
  | _, _, _, _, .cons h t => .cons (derL_in cl hs h) (wayL_in cl hs t)
end
end Lr

namespace Lr
open PySem PySem.Spec PyProof.Rows L2

theorem eqv_ints : ∀ xs : List Int, PyData.eqv (.list (xs.map PyData.int)) (.list []) = xs.isEmpty
  | [] => rfl
  | _ :: _ => rfl
theorem lot_some {H : Hp} : ∀ {lt : Lots} {as : List Addr} {k : Int × Str}, Paired (fun (u : Addr) (e : (Int × Str) × List Int) => H u = some (.lst (e.2.map V.int))) as lt → k ∈ lt.map (·.1) →
    ∃ u, valV (lotK lt as) [Sum.inl k.1, Sum.inr k.2] = some (V.ref u) ∧ H u = some (.lst ((lookL lt k).map V.int))
  | _, _, _, .nil, h => nomatch h
  | _, _, k, .cons (l₁ := us) (l₂ := lt) (a := u) (b := e) h t, m => by
    by_cases c : e.1 = k
    · refine ⟨u, ?_, ?_⟩
      · show valV (([Sum.inl e.1.1, Sum.inr e.1.2], V.ref u) :: lotK lt us) _ = _
        rw [← c]
        exact valV_pos rfl
      · have z : lookL (e :: lt) k = e.2 := by
          unfold lookL
          rw [List.find?_cons, decide_eq_true c]
          rfl
        rw [z]
        exact h
    · have z : lookL (e :: lt) k = lookL lt k := by
        unfold lookL
        rw [List.find?_cons, decide_eq_false c]
      have z2 : valV (lotK (e :: lt) (u :: us)) [Sum.inl k.1, Sum.inr k.2] = valV (lotK lt us) [Sum.inl k.1, Sum.inr k.2] := valV_neg (p := ([Sum.inl e.1.1, Sum.inr e.1.2], V.ref u)) (fun q => c (keyOf_inj q))
      rw [z, z2]
      exact lot_some t ((List.mem_cons.mp m).resolve_left fun q => c q.symm)
def setA (lt : Lots) (as : List Addr) (k : Int × Str) (p : Addr) : List Addr := (lt.zip as).map fun e => if e.1.1 = k then p else e.2
theorem lot_map : ∀ {lt : Lots} {as : List Addr} (k : Int × Str) (row : List Int) (p : Addr), (lotK lt as).map (fun kv => if kv.1 = [Sum.inl k.1, Sum.inr k.2] then (kv.1, V.ref p) else kv) = lotK (setL lt k row) (setA lt as k p)
  | [], _, _, _, _ => rfl
  | _ :: _, [], _, _, _ => rfl
  | e :: lt, u :: us, k, row, p => by
    have ih := lot_map (lt := lt) (as := us) k row p
    have e1 : lotK (e :: lt) (u :: us) = ([Sum.inl e.1.1, Sum.inr e.1.2], V.ref u) :: lotK lt us := rfl
    have e2 : setL (e :: lt) k row = (if e.1 = k then (e.1, row) else e) :: setL lt k row := rfl
    have e3 : setA (e :: lt) (u :: us) k p = (if e.1 = k then p else u) :: setA lt us k p := rfl
    have e4 : ∀ (a : (Int × Str) × List Int) (l : Lots) (b : Addr) (bs : List Addr), lotK (a :: l) (b :: bs) = ([Sum.inl a.1.1, Sum.inr a.1.2], V.ref b) :: lotK l bs := fun _ _ _ _ => rfl
    rw [e1, e2, e3, e4, List.map_cons, ih]
    by_cases c : e.1 = k
    · rw [if_pos c, if_pos c, if_pos (show ([Sum.inl e.1.1, Sum.inr e.1.2] : List Key) = [Sum.inl k.1, Sum.inr k.2] by rw [c])]
    · rw [if_neg c, if_neg c, if_neg (fun q => c (keyOf_inj q))]
theorem lot_put {lt : Lots} {as : List Addr} {k : Int × Str} {row : List Int} {p : Addr} (hl : as.length = lt.length) (h : k ∈ lt.map (·.1)) : putK (lotK lt as) [Sum.inl k.1, Sum.inr k.2] (V.ref p) = lotK (setL lt k row) (setA lt as k p) := by
  have any : ((lotK lt as).any fun kv => decide (kv.1 = [Sum.inl k.1, Sum.inr k.2])) = true := by
    obtain ⟨e, he, rfl⟩ := List.mem_map.mp h
    obtain ⟨i, hi⟩ := List.mem_iff_getElem?.mp he
    have il := (List.getElem?_eq_some_iff.mp hi).1
    have ha := List.getElem?_eq_getElem (show i < as.length by omega)
    refine List.any_eq_true.mpr ⟨_, List.mem_map.mpr ⟨(e, as[i]), List.mem_of_getElem? (i := i) (List.getElem?_zip_eq_some.mpr ⟨hi, ha⟩), rfl⟩, decide_eq_true rfl⟩
  unfold putK
  rw [if_pos any]
  exact lot_map k row p
theorem set_pair {F G : Addr → (Int × Str) × List Int → Prop} (fg : ∀ u e, F u e → G u e) {k : Int × Str} {row : List Int} {p : Addr} (hp : ∀ e : (Int × Str) × List Int, e.1 = k → G p (e.1, row)) : ∀ {as : List Addr} {lt : Lots}, Paired F as lt → Paired G (setA lt as k p) (setL lt k row)
  | _, _, .nil => .nil
  | _, _, .cons (l₁ := us) (l₂ := lt) (a := u) (b := e) h t => by
    have e2 : setL (e :: lt) k row = (if e.1 = k then (e.1, row) else e) :: setL lt k row := rfl
    have e3 : setA (e :: lt) (u :: us) k p = (if e.1 = k then p else u) :: setA lt us k p := rfl
    rw [e2, e3]
    refine .cons ?_ (set_pair fg hp t)
    by_cases c : e.1 = k
    · rw [if_pos c, if_pos c]
      exact hp e c
    · rw [if_neg c, if_neg c]
      exact fg _ _ h
theorem LotsAt.put {H : Hp} {a p : Addr} {lt : Lots} {as : List Addr} {k : Int × Str} {row : List Int} (h : LotsAt H a lt as) (hk : k ∈ lt.map (·.1)) (e : H p = some (.lst (row.map V.int))) : LotsAt (upd H a (.dT (putK (lotK lt as) [Sum.inl k.1, Sum.inr k.2] (V.ref p)))) a (setL lt k row) (setA lt as k p) := by
  have hl : as.length = lt.length := Paired.length h.val
  refine ⟨by rw [upd_same, lot_put (row := row) hl hk], set_pair (fun u e z => ?_) (fun _ _ => ?_) h.val, by rw [setL_keys]; exact h.nd⟩
  · rw [upd_ne (fun q => by rw [q, h.tab] at z; cases z)]
    exact z
  · rw [upd_ne (fun q => by rw [q, h.tab] at e; cases e)]
    exact e
def spLLo (K : PySem.W.Frag) : Sp := fun vs H Q _ => ∃ (G : Addr) (lm : Mvs) (us : List Addr) (n : Nat), vs = [.ref G] ∧ GoAt K H G lm us ∧ (lm.map (·.1)).Nodup ∧ lm.length ≤ 200 ∧ n ≤ 50 ∧ (∀ m ∈ lm, m.2.length ≤ 100 ∧ PyData.strOk m.1.2 = true ∧ ∀ c ∈ m.2, 0 ≤ c.1 ∧ c.1 < (n : Int)) ∧
  ∀ (H' : Hp) (L : Addr) (lt : Lots) (as : List Addr), Same H H' → H L = none → LotsAt H' L lt as → LInv n ((lm.filter fun m => !decide (m.1.2 = ("" : Str))).map (·.1)) lm lt → ClosedL (lm.filter fun m => !decide (m.1.2 = ("" : Str))) lt → Q (.ref L) H'
section
variable {P : Program} {w : World} {K : PySem.W.Frag} {mg : Str → Option Value} {base : Heap}
theorem scLLo : FnScope ["goes", "lots", "is_new", "head", "out", "word", "fresh", "one"] ["goes"] (defScope sLLo) := ⟨rfl, rfl, rfl, by decide +kernel, rfl, by decide +kernel, by decide +kernel⟩
theorem ok_LLo {f : Addr} {fd : FuncData} {fLOf : Addr} {fdLOf : FuncData} (F : Fun K "_law_lots" "_law_lots" sLLo f fd) (T : Bt mg) (noD : mg "dict" = none) (CLOf : Cal K mg "_law_off" fLOf fdLOf ["lots", "road", "word"]) (GLOf : FnOk P w K mg base CX0 1 fLOf fdLOf ["lots", "road", "word"] (spLOf K)) : FnOk P w K mg base CX0 2 f fd ["goes"] (spLLo K) := by
  refine F.ok scLLo (fun vs H Q E h => ?_) (fun cdv A outer s H vs Q E hr h => ?_)
  · obtain ⟨G, lm, us, n, rfl, _⟩ := h
    rfl
  · obtain ⟨G, lm, us, n, rfl, ga, knd, ml, n50, mok, k⟩ := h
    have hr1 : Room 1 (A.deeper (envOfC "_law_lots" (defScope sLLo) s.heap.objs.size f cdv)) := Room.mono hr (by decide)
    have hu64 : (A.deeper (envOfC "_law_lots" (defScope sLLo) s.heap.objs.size f cdv)).units + 64 < cLine := by
      have z := hr.un
      omega
    have hu1 : (A.deeper (envOfC "_law_lots" (defScope sLLo) s.heap.objs.size f cdv)).units + 1 < cLine := by omega
    have hu8 : (A.deeper (envOfC "_law_lots" (defScope sLLo) s.heap.objs.size f cdv)).units + 8 < cLine := by omega
    refine ⟨_, (pss_cons (ps_asg (pe_tup (pa_cons (pe_callTy (cr_dictL rfl hu8) (by rfl) noD (by decide +kernel) (pa_cons (pe_lock (pe_lc (own := [("head", 3)]) (g := gName 3) (tt := _) (te := tTup (tCons (tVar 3) (tCons (tLst tNil) tNil))) rfl scLLo.nd (pi_keys (pv 0)) (blkOk_by (N := ["goes", "lots", "is_new", "head", "out", "word", "fresh", "one"]) (sc := defScope sLLo) (by decide +kernel)) (fun _ _ _ _ _ => pg_name (i := 3) scLLo.nd rfl (.inl rfl)) (fun _ _ _ _ _ => pts_one (pt_cmpR (neDK (K := K) hu64) (pe_ix (ixT (K := K)) (pv 3) pe_int (fun _ _ => rfl)) pe_str (nomark _))) (fun _ _ _ _ _ => pe_tup (pa_cons (pv 3) (pa_cons (pe_lst pa_nil) pa_nil))))) pa_nil)) (pa_cons pe_bl pa_nil))) (pg_tup (by rfl) (pgs_cons (pg_name (i := 1) scLLo.nd rfl (by first | exact Or.inl rfl | exact Or.inr rfl)) (pgs_cons (pg_name (i := 2) scLLo.nd rfl (by first | exact Or.inl rfl | exact Or.inr rfl)) pgs_nil))))
      (pss_cons (ps_while PassesOwn.never (pt_truth (pv 2) (fun _ => rfl))
        (pss_cons (ps_set (i := 2) scLLo.nd rfl (by first | exact Or.inl rfl | exact Or.inr rfl) pe_bl)
        (pss_one (ps_for PassesOwn.never rfl (pi_list (pe_callTy (call_list_dT rfl) (by rfl) T.list (by decide +kernel) (pa_cons (pv 1) pa_nil))) (pg_name (i := 3) scLLo.nd rfl (by first | exact Or.inl rfl | exact Or.inr rfl))
          (pss_one (ps_for PassesOwn.never rfl (pi_list (pe_dget hu1 (pv 0) (pv 3) (fun _ _ => rfl))) (pg_tup (by rfl) (pgs_cons (pg_name (i := 4) scLLo.nd rfl (by first | exact Or.inl rfl | exact Or.inr rfl)) (pgs_cons (pg_name (i := 5) scLLo.nd rfl (by first | exact Or.inl rfl | exact Or.inr rfl)) pgs_nil)))
            (pss_cons (ps_setLc (i := 6) (own := [("one", 7)]) (g := gName 7) (tt := _) rfl scLLo.nd rfl rfl (sw_true rfl rfl rfl (by decide +kernel)) (pi_list (pe_call GLOf hr1 (by rfl) CLOf.g CLOf.k CLOf.b .nil pass0 (pa_cons (pv 1) (pa_cons (pv 4) (pa_cons (pv 5) pa_nil))))) (blkOk_by (N := ["goes", "lots", "is_new", "head", "out", "word", "fresh", "one"]) (sc := defScope sLLo) (by decide +kernel)) (fun _ _ _ _ _ => pg_name (i := 7) scLLo.nd rfl (.inl rfl)) (fun _ _ _ _ _ => pts_one (pt_cmpR (notinSK (K := K)) (pv 7) (pe_dget hu1 (pv 1) (pv 3) (fun _ _ => rfl)) (by rfl))) (fun _ _ _ _ _ => pv 7))
            (pss_cons (ps_dput hu1 (pv 1) (pv 3) (pe_op op_cat (pe_dget hu1 (pv 1) (pv 3) (fun _ _ => rfl)) (pv 6)) rfl)
            (pss_one (ps_set (i := 2) scLLo.nd rfl (by first | exact Or.inl rfl | exact Or.inr rfl) (pe_or (pv 2) (pe_one (pe_cmpR (neDK (K := K) hu64) (pv 6) (pe_lst pa_nil) (nomark _))))))))))))))
      (pss_one (ps_ret (pv 1))))), ?_⟩
    obtain ⟨ms, hms⟩ : ∃ ms, ms = lm.filter fun m => !decide (m.1.2 = ("" : Str)) := ⟨_, rfl⟩
    rw [← hms] at k
    have ul : us.length = lm.length := Paired.length ga.2
    have flen : (fK lm us).length = lm.length := fK_len ul
    -- the keys
    refine ⟨G, _, ga.1, trivial, fun od => ?_⟩
    have sL : ∀ b o, H b = some o → b ≠ G → (upd H G (.frz od (.dT (fK lm us)))) b = some o := fun b o e n => by rw [upd_ne n]; exact e
    have eL : (upd H G (.frz od (.dT (fK lm us)))) G = some (.frz od (.dT (fK lm us))) := upd_same
    have nLn : ∀ b, (upd H G (.frz od (.dT (fK lm us)))) b = none → H b = none ∧ b ≠ G := fun b e => by
      by_cases c : b = G
      · rw [c, upd_same] at e
        cases e
      · rw [upd_ne c] at e
        exact ⟨e, c⟩
    revert sL eL nLn
    generalize upd H G (.frz od (.dT (fK lm us))) = HL
    intro sL eL nLn
    refine ⟨_, rfl, G, od, rfl, .inr ⟨fK lm us, eL, fun D nD => ?_⟩⟩
    let At : Hp → Addr → ((Int × Str) × List Chc) × Addr × Addr → Prop := fun H' p t => SqT K H' p [.ref t.2.1, .ref t.2.2] ∧ H' t.2.1 = some (.tup [V.int t.1.1.1, .str t.1.1.2]) ∧ H' t.2.2 = some (.lst [])
    have hAt : At = fun H' p t => SqT K H' p [.ref t.2.1, .ref t.2.2] ∧ H' t.2.1 = some (.tup [V.int t.1.1.1, .str t.1.1.2]) ∧ H' t.2.2 = some (.lst []) := rfl
    clear_value At
    have atk : ∀ {H' H'' : Hp} {p t}, At H' p t → (∀ b o, H' b = some o → b ≠ D → H'' b = some o) → (∃ xs, H' D = some (.lst xs)) → (∀ xs, H' D = some (.lst xs) → t.2.2 ≠ D) → At H'' p t := fun {H' H'' p t} h s1 ⟨xs, eD⟩ nd => by
      rw [hAt] at h ⊢
      obtain ⟨h1, h2, h3⟩ := h
      have tk : Tk H' H'' := fun b ys => ⟨fun e => s1 _ _ e (fun z => by rw [z, eD] at e; cases e), fun o e => s1 _ _ e (fun z => by rw [z, eD] at e; cases e)⟩
      exact ⟨tk.seq h1, (tk _ _).1 h2, s1 _ _ h3 (nd xs eD)⟩
    refine lc_it walk_keysT (fun i H' => ∃ (ps : List Addr) (ts : List (((Int × Str) × List Chc) × Addr × Addr)), H' D = some (.lst (ps.map V.ref)) ∧ Paired (At H') ps ts ∧ ts.map (·.1) = (lm.take i).filter (fun m => !decide (m.1.2 = ("" : Str))) ∧ (∀ t ∈ ts, t.2.2 ≠ D) ∧ ∀ b o, HL b = some o → H' b = some o) ⟨[], [], upd_same, .nil, by rw [List.take_zero]; rfl, (fun _ h => nomatch h), fun b o e => by rw [upd_ne (ne_of_none e nD)]; exact e⟩ (fun i H' _ ⟨_, _, _, _, _, _, kk⟩ => kk _ _ eL) ?_ ?_
    · rintro i x H3 H2 hi ⟨ps, ts, eD, pr, et, nt, kk⟩ ⟨rfl, key, v0, qa, hk, rfl, eq⟩
      obtain ⟨mm, u, hm, hu, rfl, rfl⟩ : ∃ mm u, lm[i]? = some mm ∧ us[i]? = some u ∧ key = [Sum.inl mm.1.1, Sum.inr mm.1.2] ∧ v0 = V.ref u := by
        unfold fK at hk
        rw [List.getElem?_map, Option.map_eq_some_iff] at hk
        obtain ⟨⟨mm, u⟩, hz, hk⟩ := hk
        rw [List.getElem?_zip_eq_some] at hz
        injection hk with h1 h2
        exact ⟨mm, u, hz.1, hz.2, h1.symm, h2.symm⟩
      have il := (List.getElem?_eq_some_iff.mp hm).1
      obtain ⟨_, lay, _⟩ := mok mm (List.mem_of_getElem? hm)
      have tk : (lm.take (i + 1)).filter (fun m => !decide (m.1.2 = ("" : Str))) = (lm.take i).filter (fun m => !decide (m.1.2 = ("" : Str))) ++ (if (!decide (mm.1.2 = ("" : Str))) = true then [mm] else []) := by
        have e : lm.take (i + 1) = lm.take i ++ [mm] := by rw [List.take_succ, hm]; rfl
        rw [e, List.filter_append]
        cases hh : (!decide (mm.1.2 = ("" : Str))) <;> simp [hh]
      have eq2 : H2 qa = some (.tup [V.int mm.1.1, .str mm.1.2]) := eq
      have sh1 : SeqAt.shaped (.str mm.1.2) = true := by
        unfold SeqAt.shaped
        rw [Bool.and_eq_true, decide_eq_true_eq]
        exact ⟨lay, by show 0 ≤ 64; decide⟩
      refine ⟨rfl, _, rfl, qa, _, _, V.str mm.1.2, rfl, rfl, SqT.of eq2, rfl, .str mm.1.2, .str "", .str _, .str _, sh1, by decide +kernel, _, rfl, ?_⟩
      have ans : (!PyData.eqv (.str mm.1.2) (.str "")) = !decide (mm.1.2 = ("" : Str)) := by
        exact congrArg not (Bool.beq_eq_decide_eq mm.1.2 ("" : Str))
      have tl : ts.length ≤ lm.length := by
        have z := congrArg List.length et
        rw [List.length_map] at z
        have z2 := List.length_filter_le (fun m : (Int × Str) × List Chc => !decide (m.1.2 = ("" : Str))) (lm.take i)
        rw [List.length_take] at z2
        omega
      have pl : ps.length = ts.length := Paired.length pr
      refine ite2 (fun yes => ?_) (fun no => ?_)
      · rw [if_pos (ans.symm.trans yes)] at tk
        refine ⟨_, rfl, Nat.zero_le _, fun U nU => ?_⟩
        have sU : Same H2 (upd H2 U (.lst [])) := same_upd nU
        have eU : (upd H2 U (.lst [])) U = some (.lst []) := upd_same
        revert sU eU
        generalize upd H2 U (.lst []) = H4
        intro sU eU
        refine ⟨s2le, fun p np => ?_⟩
        have sp : Same H4 (upd H4 p (.tup [.ref qa, .ref U])) := same_upd np
        have ep : (upd H4 p (.tup [.ref qa, .ref U])) p = some (.tup [.ref qa, .ref U]) := upd_same
        revert sp ep
        generalize upd H4 p (.tup [.ref qa, .ref U]) = H5
        intro sp ep
        have s25 := sU.trans sp
        have nUD : U ≠ D := fun z => by rw [z, eD] at nU; cases nU
        have e5 := s25 _ _ eD
        have up5 : ∀ b o, H5 b = some o → b ≠ D → (upd H5 D (.lst (ps.map V.ref ++ [.ref p]))) b = some o := fun b o e n => by rw [upd_ne n]; exact e
        refine ⟨_, e5, by rw [List.length_map, sizeLine_eq]; omega, ps ++ [p], ts ++ [(mm, qa, U)], by rw [upd_same, List.map_append]; rfl, ?_, ?_, fun t ht => ?_, fun b o e => by rw [upd_ne (ne_of_none e nD)]; exact s25 _ _ (kk _ _ e)⟩
        · have allN : Paired (fun p t => At (upd H5 D (.lst (ps.map V.ref ++ [.ref p]))) p t) ps ts ∨ True := .inr trivial
          have go : ∀ {ps : List Addr} {ts : List (((Int × Str) × List Chc) × Addr × Addr)} {o : HO}, Paired (At H2) ps ts → (∀ t ∈ ts, t.2.2 ≠ D) → Paired (At (upd H5 D o)) ps ts := by
            intro ps ts o h
            induction h with
            | nil => exact fun _ => .nil
            | @cons a t ps ts h _ ih =>
              intro nt
              refine .cons (atk h (fun b o' e n => by rw [upd_ne n]; exact s25 _ _ e) ⟨_, eD⟩ (fun _ _ => nt t List.mem_cons_self)) (ih fun x hx => nt x (List.mem_cons_of_mem _ hx))
          refine paired_snoc2 (go pr nt) ?_
          rw [hAt]
          refine ⟨(tk_lst e5).seq (SqT.of ep), (tk_lst e5 _ _).1 (s25 _ _ eq2), ?_⟩
          rw [upd_ne nUD]
          exact sp _ _ eU
        · rw [List.map_append, et, tk]
          rfl
        · rcases List.mem_append.mp ht with ht | ht
          · exact nt t ht
          · rw [List.mem_singleton.mp ht]
            exact nUD
      · rw [if_neg (fun q => no (ans.trans q)), List.append_nil] at tk
        exact ⟨ps, ts, eD, pr, by rw [tk]; exact et, nt, kk⟩
    rintro H3 ⟨ps, ts, eD, pr, et, nt, kk⟩
    rw [flen, List.take_length, ← hms] at et
    refine ⟨kk _ _ eL, ?_⟩
    have eG3 := kk _ _ eL
    have s3 : Same H (upd H3 G (.dT (fK lm us))) := fun b o e => by
      by_cases c : b = G
      · rw [c, upd_same]
        rw [c, ga.1] at e
        exact e
      · rw [upd_ne c]
        exact kk _ _ (sL _ _ e c)
    have tkU : Tk H3 (upd H3 G (.dT (fK lm us))) := fun b ys => ⟨fun e => by
      rw [upd_ne (fun z => by rw [z, eG3] at e; cases e)]
      exact e, fun o e => by
      rw [upd_ne (fun z => by rw [z, eG3] at e; cases e)]
      exact e⟩
    have lsU : ∀ {b ys}, H3 b = some (.lst ys) → (upd H3 G (.dT (fK lm us))) b = some (.lst ys) := fun {b ys} e => by
      rw [upd_ne (fun z => by rw [z, eG3] at e; cases e)]
      exact e
    have eD4 := lsU eD
    have prK : Paired (PrT K (upd H3 G (.dT (fK lm us)))) ps (ts.map fun t => ([Sum.inl t.1.1.1, Sum.inr t.1.1.2], t.2.1, V.ref t.2.2)) := by
      have go : ∀ {ps : List Addr} {ts : List (((Int × Str) × List Chc) × Addr × Addr)}, Paired (At H3) ps ts → Paired (PrT K (upd H3 G (.dT (fK lm us)))) ps (ts.map fun t => ([Sum.inl t.1.1.1, Sum.inr t.1.1.2], t.2.1, V.ref t.2.2)) := by
        intro ps ts h
        induction h with
        | nil => exact .nil
        | @cons a t ps ts h _ ih =>
          rw [hAt] at h
          exact .cons ⟨tkU.seq h.1, (tkU _ _).1 h.2.1⟩ ih
      exact go pr
    have prL : ∀ t ∈ ts, H3 t.2.2 = some (.lst []) := by
      have go : ∀ {ps : List Addr} {ts : List (((Int × Str) × List Chc) × Addr × Addr)}, Paired (At H3) ps ts → ∀ t ∈ ts, H3 t.2.2 = some (.lst []) := by
        intro ps ts h
        induction h with
        | nil => exact fun _ h => nomatch h
        | @cons a t ps ts h _ ih =>
          intro y hy
          rcases List.mem_cons.mp hy with rfl | hy
          · rw [hAt] at h
            exact h.2.2
          · exact ih y hy
      exact go pr
    have ksn : (ms.map (·.1)).Nodup := by
      rw [hms]
      exact knd.sublist (List.filter_sublist.map _)
    have tkeys : ts.map (fun t => t.1.1) = ms.map (·.1) := by
      rw [← et, List.map_map]
      rfl
    have tsl : ts.length = ms.length := by
      have z := congrArg List.length et
      rw [List.length_map] at z
      exact z
    have msl : ms.length ≤ lm.length := by
      rw [hms]
      exact List.length_filter_le _ _
    have ndk : ((ts.map fun t => (([Sum.inl t.1.1.1, Sum.inr t.1.1.2] : List L2.Key), t.2.1, V.ref t.2.2)).map (·.1)).Nodup := by
      rw [List.map_map]
      rw [← tkeys] at ksn
      rw [List.nodup_iff_pairwise_ne, List.pairwise_map] at ksn ⊢
      exact ksn.imp fun ne e => ne (keyOf_inj e)
    refine ⟨D, ps, _, rfl, SqL.of eD4, prK, ndk, by rw [List.length_map]; omega, fun L nL => ?_⟩
    have nLH : H L = none := by
      cases z : H L with
      | none => rfl
      | some o =>
        rw [s3 _ _ z] at nL
        cases nL
    have zipm : ∀ (ts : List (((Int × Str) × List Chc) × Addr × Addr)), lotK (ts.map fun t => (t.1.1, ([] : List Int))) (ts.map fun t => t.2.2) = (ts.map fun t => (([Sum.inl t.1.1.1, Sum.inr t.1.1.2] : List L2.Key), t.2.1, V.ref t.2.2)).map fun q => (q.1, q.2.2) := by
      intro ts
      induction ts with
      | nil => rfl
      | cons t ts ih =>
        show ([Sum.inl t.1.1.1, Sum.inr t.1.1.2], V.ref t.2.2) :: lotK (ts.map fun t => (t.1.1, ([] : List Int))) (ts.map fun t => t.2.2) = _
        rw [ih]
        rfl
    have la0 : LotsAt (upd (upd H3 G (.dT (fK lm us))) L (.dT ((ts.map fun t => (([Sum.inl t.1.1.1, Sum.inr t.1.1.2] : List L2.Key), t.2.1, V.ref t.2.2)).map fun q => (q.1, q.2.2)))) L (ts.map fun t => (t.1.1, ([] : List Int))) (ts.map fun t => t.2.2) := by
      refine ⟨by rw [upd_same, zipm], ?_, by rw [List.map_map]; show (ts.map fun t => t.1.1).Nodup; rw [tkeys]; exact ksn⟩
      have go : ∀ l : List (((Int × Str) × List Chc) × Addr × Addr), (∀ t ∈ l, H3 t.2.2 = some (.lst [])) → Paired (fun (u : Addr) (e : (Int × Str) × List Int) => (upd (upd H3 G (.dT (fK lm us))) L (.dT ((ts.map fun t => (([Sum.inl t.1.1.1, Sum.inr t.1.1.2] : List L2.Key), t.2.1, V.ref t.2.2)).map fun q => (q.1, q.2.2)))) u = some (.lst (e.2.map V.int))) (l.map fun t => t.2.2) (l.map fun t => (t.1.1, ([] : List Int))) := by
        intro l
        induction l with
        | nil => exact fun _ => .nil
        | cons t l ih =>
          intro h
          refine .cons ?_ (ih fun x hx => h x (List.mem_cons_of_mem _ hx))
          have z := lsU (h t List.mem_cons_self)
          show (upd (upd H3 G (.dT (fK lm us))) L _) t.2.2 = some (.lst [])
          rw [upd_ne (ne_of_none z nL)]
          exact z
      exact go ts prL
    have sL0 : Same H (upd (upd H3 G (.dT (fK lm us))) L (.dT ((ts.map fun t => (([Sum.inl t.1.1.1, Sum.inr t.1.1.2] : List L2.Key), t.2.1, V.ref t.2.2)).map fun q => (q.1, q.2.2)))) := s3.trans (same_upd nL)
    have li0 : LInv n (ms.map (·.1)) lm (ts.map fun t => (t.1.1, ([] : List Int))) := by
      have emp : ∀ (k : Int × Str) (l : List (((Int × Str) × List Chc) × Addr × Addr)), lookL (l.map fun t => (t.1.1, ([] : List Int))) k = [] := by
        intro k l
        unfold lookL
        cases e : (l.map fun t => (t.1.1, ([] : List Int))).find? fun e => decide (e.1 = k) with
        | none => rfl
        | some x =>
          obtain ⟨t, _, rfl⟩ := List.mem_map.mp (List.mem_of_find?_eq_some e)
          rfl
      refine ⟨by rw [List.map_map]; exact tkeys, fun e he => ?_, fun k x hx => ?_⟩
      · obtain ⟨t, _, rfl⟩ := List.mem_map.mp he
        exact ROk.nil n
      · rw [emp] at hx
        cases hx
    revert la0 sL0
    generalize upd (upd H3 G (.dT (fK lm us))) L (.dT ((ts.map fun t => (([Sum.inl t.1.1.1, Sum.inr t.1.1.2] : List L2.Key), t.2.1, V.ref t.2.2)).map fun q => (q.1, q.2.2))) = H0
    intro la0 sL0
    refine ⟨s2le, fun tq ntq => ?_⟩
    have stq : Same H0 (upd H0 tq (.tup [.ref L, .bl true])) := same_upd ntq
    have etq : (upd H0 tq (.tup [.ref L, .bl true])) tq = some (.tup [.ref L, .bl true]) := upd_same
    revert stq etq
    generalize upd H0 tq (.tup [.ref L, .bl true]) = H1
    intro stq etq
    refine ⟨tq, _, rfl, SqT.of etq, rfl, _, _, rfl, _, _, rfl, rfl, ?_⟩
    let Co : Hp → Lots → Prop := fun H' lt => ∃ as, LotsAt H' L lt as ∧ Same H H' ∧ LInv n (ms.map (·.1)) lm lt
    have hCo : Co = fun H' lt => ∃ as, LotsAt H' L lt as ∧ Same H H' ∧ LInv n (ms.map (·.1)) lm lt := rfl
    clear_value Co
    have c1 : Co H1 (ts.map fun t => (t.1.1, ([] : List Int))) := by
      rw [hCo]
      exact ⟨_, la0.same stq, sL0.trans stq, li0⟩
    have cnd : ∀ {H' lt}, Co H' lt → ∃ as, LotsAt H' L lt as ∧ Same H H' ∧ LInv n (ms.map (·.1)) lm lt := fun {H' lt} h => by
      rw [hCo] at h
      exact h
    have mki : ∀ {H' lt as}, LotsAt H' L lt as → Same H H' → LInv n (ms.map (·.1)) lm lt → Co H' lt := fun {H' lt as} a b c => by
      rw [hCo]
      exact ⟨as, a, b, c⟩
    clear hCo
    have inlm : ∀ m ∈ ms, m ∈ lm ∧ m.1 ∈ ms.map (·.1) ∧ m.1.2 ≠ "" ∧ ∀ c ∈ m.2, 0 ≤ c.1 ∧ c.1 < (n : Int) := fun m hm => by
      have z := hm
      rw [hms] at z
      obtain ⟨z1, z2⟩ := List.mem_filter.mp z
      refine ⟨z1, List.mem_map_of_mem (f := fun m : (Int × Str) × List Chc => m.1) hm, fun e => ?_, (mok m z1).2.2⟩
      rw [decide_eq_true e] at z2
      cases z2
    generalize hcap : ms.length * n = cap
    have capL : ∀ {lt}, LInv n (ms.map (·.1)) lm lt → totL lt ≤ cap := fun {lt} h => by
      have z := totL_le h.ok
      have z2 := congrArg List.length h.keys
      rw [List.length_map, List.length_map] at z2
      rw [z2, hcap] at z
      exact z
    refine ⟨fun j σ' H' => ∃ (lt : Lots) (b : Bool) (u3 u4 u5 u6 : Option V), σ' = [some (.ref G), some (.ref L), some (.bl b), u3, u4, u5, u6, none] ∧ Co H' lt ∧ ((b = true ∧ cap + 1 ≤ j + totL lt) ∨ (b = false ∧ ClosedL ms lt)), ⟨cap + 1, _, true, none, none, none, none, rfl, c1, .inl ⟨rfl, by omega⟩⟩, ?_⟩
    rintro j σ' H2 ⟨lt, b, u3, u4, u5, u6, rfl, co, st⟩
    refine ⟨_, rfl, b, rfl, ?_⟩
    rcases st with ⟨rfl, cj⟩ | ⟨rfl, cl⟩
    rotate_left
    · obtain ⟨as, la, sm, li⟩ := cnd co
      exact ifF rfl ⟨_, rfl, k H2 L lt as sm nLH la li cl⟩
    have liB : LInv n (ms.map (·.1)) lm lt := (cnd co).elim fun _ h => h.2.2
    obtain ⟨rinv, raft, rcl⟩ := roundL_all (mv := lm) ksn (ms := ms) (st := (lt, false)) inlm liB
    refine ifT rfl ⟨fun σ2 H2 => ∃ (u3 u4 u5 u6 : Option V), σ2 = [some (.ref G), some (.ref L), some (.bl (roundL ms (lt, false)).2), u3, u4, u5, u6, none] ∧ Co H2 (roundL ms (lt, false)).1, ?_, ?_⟩
    · rintro σ2 H3 ⟨u3, u4, u5, u6, rfl, co2⟩
      have tc := capL liB
      cases hb : (roundL ms (lt, false)).2 with
      | false =>
        refine ⟨0, by omega, _, false, u3, u4, u5, u6, rfl, co2, .inr ⟨rfl, fun m hm c hc x hx => ?_⟩⟩
        rw [raft.2.2.2 hb] at hx ⊢
        exact rcl hb m hm c hc x hx
      | true =>
        have z := raft.2.2.1 rfl hb
        have z : totL lt < totL (roundL ms (lt, false)).1 := z
        refine ⟨j - 1, by omega, _, true, u3, u4, u5, u6, rfl, co2, .inl ⟨rfl, by omega⟩⟩
    -- a round
    obtain ⟨as0, laB, smB, _⟩ := cnd co
    refine ⟨_, rfl, L, _, rfl, .inl laB.tab, fun LP bs nLP hk => ?_⟩
    have sP : Same H2 (upd H2 LP (.lst (bs.map V.ref))) := same_upd nLP
    have eP : (upd H2 LP (.lst (bs.map V.ref))) LP = some (.lst (bs.map V.ref)) := upd_same
    have coP : Co (upd H2 LP (.lst (bs.map V.ref))) lt := mki (laB.same sP) (smB.trans sP) liB
    have hkP : ∀ (i : Nat) (b : Addr) (m : (Int × Str) × List Chc), bs[i]? = some b → ms[i]? = some m → (upd H2 LP (.lst (bs.map V.ref))) b = some (.tup [V.int m.1.1, .str m.1.2]) := fun i b m hb hm => by
      obtain ⟨p, hp, e⟩ := paired_get2 hk hb
      have asl : as0.length = lt.length := Paired.length laB.val
      unfold lotK at hp
      rw [List.getElem?_map, Option.map_eq_some_iff] at hp
      obtain ⟨⟨e1, u1⟩, hz, rfl⟩ := hp
      rw [List.getElem?_zip_eq_some] at hz
      have z := congrArg (fun l : List (Int × Str) => l[i]?) liB.keys
      simp only [List.getElem?_map] at z
      rw [hz.1, hm] at z
      injection z with z
      have z : e1.1 = m.1 := z
      refine sP _ _ ?_
      rw [← z]
      exact e
    have bl : bs.length = ms.length := by
      have z1 := Paired.length hk
      have asl : as0.length = lt.length := Paired.length laB.val
      unfold lotK at z1
      rw [List.length_map, List.length_zip, asl, Nat.min_self] at z1
      have z2 := congrArg List.length liB.keys
      rw [List.length_map, List.length_map] at z2
      omega
    have neLP : LP ≠ L := fun z => by
      rw [z, laB.tab] at nLP
      cases nLP
    have eLP : (upd H2 LP (.lst (bs.map V.ref))) L = some (.dT (lotK lt as0)) := sP _ _ laB.tab
    clear hk
    revert sP eP coP hkP eLP
    generalize upd H2 LP (.lst (bs.map V.ref)) = HP
    intro sP eP coP hkP eLP
    refine ⟨LP, rfl, ⟨_, SqL.of eP⟩, ?_⟩
    refine for_list (K := K) (a := LP) (xs := bs.map V.ref) (fun i σ H' => ∃ (u3 u4 u5 u6 : Option V), σ = [some (.ref G), some (.ref L), some (.bl (roundL (ms.take i) (lt, false)).2), u3, u4, u5, u6, none] ∧ Co H' (roundL (ms.take i) (lt, false)).1 ∧ ∀ b o, HP b = some o → b ≠ L → H' b = some o) ⟨_, _, _, _, rfl, by rw [List.take_zero]; exact coP, fun b o e _ => e⟩ (fun i σ H' _ ⟨_, _, _, _, _, _, kk⟩ => SqL.of (kk _ _ eP neLP)) ?_ ?_
    rotate_left
    · rintro σ H' ⟨u3, u4, u5, u6, rfl, co2, _⟩
      rw [List.length_map, bl, List.take_length] at co2 ⊢
      exact ⟨u3, u4, u5, u6, rfl, co2⟩
    rintro i xv σ H3 hx ⟨u3, u4, u5, u6, rfl, co3, kk3⟩
    rw [List.getElem?_map, Option.map_eq_some_iff] at hx
    obtain ⟨b, hb, rfl⟩ := hx
    have il : i < ms.length := by
      rw [← bl]
      exact (List.getElem?_eq_some_iff.mp hb).1
    have hm := List.getElem?_eq_getElem il
    generalize ms[i] = m at hm
    obtain ⟨k0, cs⟩ := m
    have tkm : ms.take (i + 1) = ms.take i ++ [(k0, cs)] := by rw [List.take_succ, hm]; rfl
    obtain ⟨mlm, mks, mne, mcs⟩ := inlm _ (List.mem_of_getElem? hm)
    have ebP := hkP i b _ hb hm
    have nbL : b ≠ L := fun z => by
      rw [z, eLP] at ebP
      cases ebP
    have eb3 := kk3 _ _ ebP nbL
    obtain ⟨i2, hi2⟩ := List.mem_iff_getElem?.mp mlm
    have i2l := (List.getElem?_eq_some_iff.mp hi2).1
    have hu2 := List.getElem?_eq_getElem (show i2 < us.length by omega)
    generalize us[i2] = u at hu2
    obtain ⟨xs, eu, dxs⟩ : ∃ xs, H u = some (.lst xs) ∧ DpAll K H xs (cs.map dCh) := by
      obtain ⟨u', h1, h2⟩ := paired_get2 ga.2 hi2
      rw [hu2] at h1
      injection h1 with h1
      rw [← h1] at h2
      exact h2
    have xl : xs.length = cs.length := by rw [dpAll_len dxs, List.length_map]
    obtain ⟨as3, la3, sm3, li3⟩ := cnd co3
    have dg3 : DGet H3 G (.ref b) (some (V.ref u)) := by
      have z := DGet.t (k := [Sum.inl k0.1, Sum.inr k0.2]) (sm3 _ _ ga.1) eb3
      rw [fK_get knd hi2 hu2] at z
      exact z
    rw [tkm, roundL_snoc]
    generalize hst : roundL (ms.take i) (lt, false) = st0 at *
    refine ⟨_, rfl, _, rfl, G, _, rfl, dg3, u, rfl, ⟨_, SqL.of (sm3 _ _ eu)⟩, ?_⟩
    refine for_list (K := K) (a := u) (xs := xs) (fun j σ H' => ∃ (u4 u5 u6 : Option V), σ = [some (.ref G), some (.ref L), some (.bl (headL k0 st0 (cs.take j)).2), some (.ref b), u4, u5, u6, none] ∧ Co H' (headL k0 st0 (cs.take j)).1 ∧ ∀ b o, H3 b = some o → b ≠ L → H' b = some o) ⟨_, _, _, rfl, co3, fun b o e _ => e⟩ (fun j σ H' _ ⟨_, _, _, _, c, _⟩ => (cnd c).elim fun _ h => SqL.of (h.2.1 _ _ eu)) ?_ ?_
    rotate_left
    · rintro σ H' ⟨u4, u5, u6, rfl, co4, kk4⟩
      rw [xl, List.take_length] at co4 ⊢
      exact ⟨_, u4, u5, u6, rfl, co4, fun b o e n => kk4 _ _ (kk3 _ _ e n) n⟩
    rintro j2 xv σ H4 hx ⟨u4, u5, u6, rfl, co4, kk4⟩
    have jl : j2 < cs.length := by rw [← xl]; exact (List.getElem?_eq_some_iff.mp hx).1
    have hc := List.getElem?_eq_getElem jl
    generalize cs[j2] = c at hc
    have tkc : cs.take (j2 + 1) = cs.take j2 ++ [c] := by rw [List.take_succ, hc]; rfl
    have cin := List.mem_of_getElem? hc
    obtain ⟨c0, cn⟩ := mcs c cin
    have c0 : 0 ≤ c.1 := c0
    have dxc : Dp K H xv (dCh c) := by
      obtain ⟨d', hd', dx⟩ := dpAll_get dxs j2 xv hx
      rw [List.getElem?_map, hc] at hd'
      cases hd'
      exact dx
    obtain ⟨as4, la4, sm4, li4⟩ := cnd co4
    obtain ⟨ca, wa, ex, ec, ew⟩ := ch_at (dp_tk (Tk.of sm4) _ _ (flat_ch c) dxc)
    subst ex
    rw [tkc, headL_snoc]
    generalize hst1 : headL k0 st0 (cs.take j2) = st1 at *
    obtain ⟨lt1, b1⟩ := st1
    have la4 : LotsAt H4 L lt1 as4 := la4
    have li4 : LInv n (ms.map (·.1)) lm lt1 := li4
    have li5 := stepL_inv (st := (lt1, b1)) li4 mks mne mlm cin c0 cn
    have hks : k0 ∈ lt1.map (·.1) := by
      rw [li4.keys]
      exact mks
    refine ⟨ca, _, rfl, ec, rfl, _, _, rfl, _, _, rfl, rfl, ?_⟩
    refine ⟨_, rfl, _, rfl, _, rfl, L, wa, c.1, c.2, lt1, as4, n, rfl, la4, li4.ok, n50, c0, cn, ew, fun H5 LO s5 nLO eLO => ?_⟩
    have la5 := la4.same s5
    have sm5 := sm4.trans s5
    have okx := offP_ok li4.ok c0 cn c.2
    have oky := look_rok li4.ok k0
    have eb5 : H5 b = some (.tup [V.int k0.1, .str k0.2]) := s5 _ _ (kk4 _ _ eb3 nbL)
    refine ⟨LO, rfl, ⟨_, SqL.of eLO⟩, fun D2 nD2 => ?_⟩
    obtain ⟨u1, hv1, eu1⟩ := lot_some la5.val hks
    refine lc_list (K := K) (a := LO) (xs := (offP lt1 c.1 c.2).map V.int) (fun e H' => H' D2 = some (.lst ((newR (lookL lt1 k0) ((offP lt1 c.1 c.2).take e)).map V.int)) ∧ Same H5 H') ⟨by rw [List.take_zero]; exact upd_same, same_upd nD2⟩ (fun e H' _ ⟨_, sm⟩ => SqL.of (sm _ _ eLO)) ?_ ?_
    · rintro e xv H6 hx ⟨eD, s6⟩
      rw [List.getElem?_map, Option.map_eq_some_iff] at hx
      obtain ⟨y, hyy, rfl⟩ := hx
      have tye : (offP lt1 c.1 c.2).take (e + 1) = (offP lt1 c.1 c.2).take e ++ [y] := by rw [List.take_succ, hyy]; rfl
      have tn : newR (lookL lt1 k0) ((offP lt1 c.1 c.2).take (e + 1)) = newR (lookL lt1 k0) ((offP lt1 c.1 c.2).take e) ++ (if (!decide (y ∈ lookL lt1 k0)) = true then [y] else []) := by
        unfold newR
        rw [tye, List.filter_append]
        cases hh : (!decide (y ∈ lookL lt1 k0)) <;> simp [hh]
      have dg6 : DGet H6 L (.ref b) (some (V.ref u1)) := by
        have z := DGet.t (k := [Sum.inl k0.1, Sum.inr k0.2]) (s6 _ _ la5.tab) (s6 _ _ eb5)
        rw [hv1] at z
        exact z
      refine ⟨rfl, _, rfl, _, rfl, _, rfl, L, _, rfl, dg6, u1, _, rfl, .inl (SqL.of (s6 _ _ eu1)), rfl, flat_ints (lookL lt1 k0), ?_⟩
      have ans : (if true = true then !inV (V.int y) ((lookL lt1 k0).map V.int) else inV (V.int y) ((lookL lt1 k0).map V.int)) = !decide (y ∈ lookL lt1 k0) := by
        show (!inV (V.int y) ((lookL lt1 k0).map V.int)) = _
        rw [inV_ints]
      refine ⟨_, rfl, ?_⟩
      refine ite2 (fun yes => ?_) (fun no => ?_)
      · rw [if_pos (ans.symm.trans yes)] at tn
        have lg := okx.len
        have ll : (newR (lookL lt1 k0) ((offP lt1 c.1 c.2).take e)).length ≤ (offP lt1 c.1 c.2).length := by
          unfold newR
          have z := List.length_filter_le (fun o => !decide (o ∈ lookL lt1 k0)) ((offP lt1 c.1 c.2).take e)
          rw [List.length_take] at z
          omega
        refine ⟨_, rfl, _, eD, by rw [List.length_map, sizeLine_eq]; omega, by rw [upd_same, tn, List.map_append]; rfl, fun q o eq => by rw [upd_ne (ne_of_none eq nD2)]; exact s6 _ _ eq⟩
      · rw [if_neg (fun q => no (ans.trans q)), List.append_nil] at tn
        refine ⟨?_, s6⟩
        rw [tn]
        exact eD
    rintro H6 ⟨eD, s6⟩
    rw [List.length_map, List.take_length] at eD
    have eD : H6 D2 = some (.lst ((freshL lt1 k0 c).map V.int)) := eD
    have z1 := okx.len
    have z2 := oky.len
    have frl : (freshL lt1 k0 c).length ≤ (offP lt1 c.1 c.2).length := by
      unfold freshL newR
      exact List.length_filter_le _ _
    have la6 := la5.same s6
    have sm6 := sm5.trans s6
    have eb6 := s6 _ _ eb5
    have dg6 : DGet H6 L (.ref b) (some (V.ref u1)) := by
      have z := DGet.t (k := [Sum.inl k0.1, Sum.inr k0.2]) la6.tab eb6
      rw [hv1] at z
      exact z
    refine ⟨_, rfl, _, rfl, L, _, rfl, dg6, _, rfl, u1, D2, _, _, rfl, rfl, s6 _ _ eu1, eD, by rw [List.length_map, List.length_map, sizeLine_eq]; omega, fun p np => ?_⟩
    have sp : Same H6 (upd H6 p (.lst ((lookL lt1 k0).map V.int ++ (freshL lt1 k0 c).map V.int))) := same_upd np
    have ep : (upd H6 p (.lst ((lookL lt1 k0).map V.int ++ (freshL lt1 k0 c).map V.int))) p = some (.lst ((lookL lt1 k0 ++ freshL lt1 k0 c).map V.int)) := by rw [upd_same, List.map_append]
    revert sp ep
    generalize upd H6 p (.lst ((lookL lt1 k0).map V.int ++ (freshL lt1 k0 c).map V.int)) = H7
    intro sp ep
    have la7 := la6.same sp
    have eb7 := sp _ _ eb6
    have eD7 := sp _ _ eD
    have l7 : (lotK lt1 as4).length ≤ ms.length := by
      have asl : as4.length = lt1.length := Paired.length la4.val
      unfold lotK
      rw [List.length_map, List.length_zip, asl, Nat.min_self]
      have z := congrArg List.length li4.keys
      rw [List.length_map, List.length_map] at z
      omega
    refine ⟨_, rfl, _, rfl, L, _, rfl, DPut.t (k := [Sum.inl k0.1, Sum.inr k0.2]) la7.tab eb7 (by rw [sizeLine_eq]; omega), ?_⟩
    have la8 := la7.put (k := k0) (row := lookL lt1 k0 ++ freshL lt1 k0 c) hks ep
    have s48 : ∀ b o, H4 b = some o → b ≠ L → (upd H7 L (.dT (putK (lotK lt1 as4) [Sum.inl k0.1, Sum.inr k0.2] (V.ref p)))) b = some o := fun b o e ne => by
      rw [upd_ne ne]
      exact sp _ _ (s6 _ _ (s5 _ _ e))
    have sm8 : Same H (upd H7 L (.dT (putK (lotK lt1 as4) [Sum.inl k0.1, Sum.inr k0.2] (V.ref p)))) := fun b o e => by
      rw [upd_ne (ne_of_none e nLH)]
      exact sp _ _ (sm6 _ _ e)
    have eD8 : (upd H7 L (.dT (putK (lotK lt1 as4) [Sum.inl k0.1, Sum.inr k0.2] (V.ref p)))) D2 = some (.lst ((freshL lt1 k0 c).map V.int)) := by
      rw [upd_ne (fun q => by
        rw [q, la7.tab] at eD7
        cases eD7)]
      exact eD7
    revert la8 s48 sm8 eD8
    generalize upd H7 L (.dT (putK (lotK lt1 as4) [Sum.inl k0.1, Sum.inr k0.2] (V.ref p))) = H8
    intro la8 s48 sm8 eD8
    have co8 := mki la8 sm8 li5
    refine ⟨_, rfl, b1, rfl, ?_⟩
    cases b1 with
    | true => exact ⟨_, _, _, rfl, co8, fun b o e ne => s48 _ _ (kk4 _ _ e ne) ne⟩
    | false =>
      refine ⟨_, rfl, Nat.zero_le _, fun Z nZ => ?_⟩
      have sZ : Same H8 (upd H8 Z (.lst [])) := same_upd nZ
      refine ⟨.list ((freshL lt1 k0 c).map PyData.int), .list [], .lst (SqL.of (sZ _ _ eD8)) (dp_ints _), .lst (SqL.of upd_same) .nil, shaped_ints _, by decide +kernel, ?_⟩
      rw [eqv_ints]
      exact ⟨_, _, _, rfl, mki (la8.same sZ) (sm8.trans sZ) li5, fun b o e ne => sZ _ _ (s48 _ _ (kk4 _ _ e ne) ne)⟩
end
end Lr

namespace Lr
open PySem PySem.Spec PyProof.Rows L2

/-! a dict of nested keys, every value True: what is known -/
abbrev Kns := List (NestedKey × Addr)
def knV (xs : Kns) : List (NestedKey × Addr × Value) := xs.map fun x => (x.1, x.2, Value.bool true)
def RawK (P : Program) (w : World) (D : Addr) (xs : Kns) (h : Heap) : Prop := ∃ (o : Obj) (es : Array DictEntry) (ep : Nat), h.get? D = some o ∧ o.ExactDict ∧ o.data = .dict es ep ∧ es.toList = (knV xs).map (entryOfKey (nestedKind P w)) ∧ (xs.map (·.1)).Nodup ∧ (D == sysModules) = false ∧ xs.length ≤ sizeLine
def KnO (P : Program) (w : World) (D : Addr) (xs : Kns) : HO := .ext (RawK P w D xs)
def KnAll (K : PySem.W.Frag) (H : Hp) (xs : Kns) : Prop := ∀ x ∈ xs, Dp K H (.ref x.2) x.1.data ∧ x.1.depth ≤ 8
theorem knV_keys (xs : Kns) : (knV xs).map (·.1) = xs.map (·.1) := by
  unfold knV
  rw [List.map_map]
  rfl
theorem knO_new {P : Program} {w : World} {H : Hp} {h : Heap} {D : Addr} {xs : Kns} (r : RawK P w D xs h) : ObjOk P w H h D (KnO P w D xs) := by
  obtain ⟨o, es, ep, ho, rest⟩ := id r
  refine ⟨r, ⟨o, ho⟩, fun h1 h2 p k => ?_⟩
  obtain ⟨o1, es1, ep1, h1o, rest1⟩ := p
  exact ⟨o1, es1, ep1, k _ h1o, rest1⟩
section
variable {X : Cx} {pins : List (Addr × Obj)} {σ : L2.St} {H : Hp} {s : Shared} {D q : Addr} {xs : Kns} {k : NestedKey}
theorem kn_is (I : Inv X pins σ H s) (d : Dp X.K H (.ref q) k.data) (dp : k.depth ≤ 8) : (nestedKind X.prog X.w).is s.heap k q := ⟨dp_nested I k _ _ d rfl, dp⟩
theorem kn_of (I : Inv X pins σ H s) (e : H D = some (KnO X.prog X.w D xs)) (all : KnAll X.K H xs) : s.heap.DictOfH (nestedKind X.prog X.w) D (knV xs) ∧ (D == sysModules) = false ∧ xs.length ≤ sizeLine := by
  obtain ⟨o, es, ep, ho, ex, hd, he, nd, ns, ln⟩ := (I.hok D _ e).1
  refine ⟨⟨o, es, ep, ho, ex, hd, he, fun x hx => ?_, by rw [knV_keys]; exact nd⟩, ns, ln⟩
  obtain ⟨y, hy, rfl⟩ := List.mem_map.mp hx
  obtain ⟨d, dp⟩ := all y hy
  exact kn_is I d dp
theorem kn_none (h : k ∉ xs.map (·.1)) : atKey (knV xs) k = none := by
  unfold atKey
  cases e : (knV xs).find? fun x => decide (x.1 = k) with
  | none => rfl
  | some z =>
    have z0 := List.find?_some e
    have z1 : z.1 = k := of_decide_eq_true z0
    have z2 := List.mem_of_find?_eq_some e
    rw [← knV_keys] at h
    exact absurd (List.mem_map.mpr ⟨z, z2, z1⟩) h
theorem kn_some (h : k ∈ xs.map (·.1)) : (atKey (knV xs) k).isSome = true := by
  unfold atKey
  rw [Option.isSome_map, List.find?_isSome]
  rw [← knV_keys] at h
  obtain ⟨z, hz, e⟩ := List.mem_map.mp h
  exact ⟨z, hz, decide_eq_true e⟩
theorem kn_raw {h : Heap} (dd : h.DictOfH (nestedKind X.prog X.w) D (knV xs)) (ns : (D == sysModules) = false) (ln : xs.length ≤ sizeLine) : RawK X.prog X.w D xs h := by
  obtain ⟨o, es, ep, h1, h2, h3, h4, _, h6⟩ := dd
  exact ⟨o, es, ep, h1, h2, h3, h4, by rw [← knV_keys]; exact h6, ns, ln⟩
end
section
variable {X : Cx}
def rKnNotIn (K : PySem.W.Frag) (P : Program) (w : World) : R2 := fun x y H Q => ∃ (a q : Addr) (xs : Kns) (k : NestedKey), y = .ref a ∧ H a = some (KnO P w a xs) ∧ KnAll K H xs ∧ x = .ref q ∧ Dp K H (.ref q) k.data ∧ k.depth ≤ 8 ∧ Q (.bl (!decide (k ∈ xs.map (·.1)))) H
theorem op_knNotIn (hu : X.A.units + 20 < cLine) : OpR X (compareOp .NotIn) (rKnNotIn X.K X.prog X.w) := by
  intro pins s σ H x y v u Q I rx ry h
  obtain ⟨a, q, xs, k, rfl, e, all, rfl, d, dp, hq⟩ := h
  cases rx
  cases ry
  obtain ⟨dd, ns, ln⟩ := kn_of I e all
  refine wpAny_notIn_heap (knd := nestedKind X.prog X.w) (k := k) (show X.A.units + 1 + 8 < cLine by omega) (kn_is I d dp) ns dd ?_
  have z : (!(atKey (knV xs) k).isSome) = !decide (k ∈ xs.map (·.1)) := by
    by_cases c : k ∈ xs.map (·.1)
    · rw [kn_some c, decide_eq_true c]
    · rw [kn_none c, decide_eq_false c]
      rfl
  rw [z]
  exact ⟨.bl _, H, I.tok _, rfl, hq⟩
def rKnLen (K : PySem.W.Frag) (P : Program) (w : World) : List V → Hp → VK → Prop := fun xs H Q => ∃ (a : Addr) (ks : Kns), xs = [.ref a] ∧ H a = some (KnO P w a ks) ∧ KnAll K H ks ∧ Q (.int ((ks.length : Nat) : Int)) H
theorem cr_knLen : CallR X (.builtin "len") (rKnLen X.K X.prog X.w) := by
  intro pins s σ H xs us Q I r h
  obtain ⟨a, ks, rfl, e, all, q⟩ := h
  obtain ⟨u, rfl, rx⟩ := vals1 r
  obtain rfl : u = .ref a := rx
  obtain ⟨dd, ns, ln⟩ := kn_of I e all
  have hl : (knV ks).length = ks.length := by
    unfold knV
    rw [List.length_map]
  refine call_len_dictH ns dd (by rw [hl]; rw [sizeLine_eq] at ln; omega) ?_
  rw [hl]
  exact ⟨.int ((ks.length : Nat) : Int), H, I.tok _, ⟨_, rfl⟩, q⟩
/-- d[k] = True, k not in it -/
def sKnPut (K : PySem.W.Frag) (P : Program) (w : World) (td ty : TE) : TS := fun Dn σ H => td σ H fun x H1 => ty σ H1 fun y H2 => ∃ (a q : Addr) (xs : Kns) (k : NestedKey), x = .ref a ∧ H2 a = some (KnO P w a xs) ∧ KnAll K H2 xs ∧ y = .ref q ∧ Dp K H2 (.ref q) k.data ∧ k.depth ≤ 8 ∧ k ∉ xs.map (·.1) ∧ xs.length < sizeLine ∧
  Dn.nx σ (upd H2 a (KnO P w a (xs ++ [(k, q)])))
theorem ps_knPut {o i value : Expr} {pos pos' : Pos} {td ty : TE} (hu : X.A.units + 20 < cLine) (ho : PE X o td) (hi : PE X i ty) (hv : PE X value (tC (.bl true))) (hs : swapsWith value (some (.Subscript o i pos')) pos.line X.env = pure false) :
    PS X (.Assign [.Subscript o i pos'] value pos) (sKnPut X.K X.prog X.w td ty) := by
  refine ⟨fun pins s σ H Dn I h => ?_⟩
  refine wpAny_Assign_Subscript (thn (hv.run pins s σ H (fun v H' => v = .bl true ∧ H' = H) I ⟨rfl, rfl⟩) fun r s1 ⟨v, H1, I1, rv, e1, e2⟩ => ?_) hs
  subst e1 e2
  refine thn (ho.run pins s1 σ _ _ I1 h) fun u s2 ⟨x, H2, I2, rx, q2⟩ => thn (hi.run pins s2 σ H2 _ I2 q2) fun iv s3 ⟨y, H3, I3, ry, a, q, xs, k, ex, e, all, ey, d, dp, nk, ln, q3⟩ => ?_
  subst ex ey
  cases rx
  cases ry
  obtain rfl : r = Value.bool true := rv
  obtain ⟨dd, ns, ln0⟩ := kn_of I3 e all
  have hl : (knV xs).length = xs.length := by
    unfold knV
    rw [List.length_map]
  refine wpAny_setItem_heap (knd := nestedKind X.prog X.w) (k := k) (show X.A.units + 1 + 8 < cLine by omega) (kn_is I3 d dp) dd (fun h' dd' sb => ?_) (by omega)
  rw [storedH_new (kn_none nk)] at dd'
  have e3 : knV xs ++ [(k, q, Value.bool true)] = knV (xs ++ [(k, q)]) := by
    unfold knV
    rw [List.map_append]
    rfl
  rw [e3] at dd'
  have raw := kn_raw (X := X) dd' ns (by rw [List.length_append, List.length_singleton]; omega)
  obtain ⟨ob, _, _, hob, _⟩ := id raw
  exact ⟨σ, _, d_write I3 (by rw [e]; exact True.intro) sb ⟨ob, hob⟩ (knO_new raw), q3⟩
/-- {k: True} -/
def tKn1 (K : PySem.W.Frag) (P : Program) (w : World) (tk : TE) : TE := fun σ H Q => ∀ D, H D = none → tk σ (upd H D (KnO P w D [])) fun y H2 => ∃ (q : Addr) (k : NestedKey), y = .ref q ∧ H2 D = some (KnO P w D []) ∧ Dp K H2 (.ref q) k.data ∧ k.depth ≤ 8 ∧ Q (.ref D) (upd H2 D (KnO P w D [(k, q)]))
theorem pe_kn1 {ek ev : Expr} {pos : Pos} {tk : TE} (hu : X.A.units + 20 < cLine) (hk : PE X ek tk) (hv : PE X ev (tC (.bl true))) : PE X (.Dict [some ek] [ev] pos) (tKn1 X.K X.prog X.w tk) := by
  refine ⟨fun pins s σ H Q I h => ?_⟩
  refine wpAny_Dict_any rfl rfl (by simp) (show 1 ≤ 15 by decide) ?_
  generalize eD : s.heap.objs.size = D
  have nD : H D = none := I.hok.fresh (Nat.le_of_eq eD)
  have I1 : Inv X pins σ (upd H D (KnO X.prog X.w D [])) { s with heap := s.heap.push { cls := .type "dict", data := .dict #[] } } := by
    refine I.laid (t' := s.toks) (fun b o z => Heap.get?_push_of_some _ z) (Nat.le_of_eq eD) ?_
    rw [← eD]
    exact knO_new ⟨_, #[], 0, Heap.get?_push_size _ rfl, ⟨rfl, rfl, rfl⟩, rfl, rfl, List.nodup_nil, beq_eq_false_iff_ne.mpr (Ne.symm (Nat.ne_of_lt I.big)), Nat.zero_le _⟩
  show wpAny _ _ (evalPairs [(eval ek X.env, do let x ← eval ev X.env; standAt pos; pure x)]) _ _ _
  unfold evalPairs
  refine wpAny_bind (thn (hk.run pins _ σ _ _ I1 (h D nD)) fun u s2 ⟨y, H2, I2, ry, q, k, ey, e2, d, dp, want⟩ => ?_)
  subst ey
  cases ry
  refine wpAny_bind (wpAny_holding (wpAny_bind (thn (hv.run pins s2 σ H2 (fun v H' => v = .bl true ∧ H' = H2) I2 ⟨rfl, rfl⟩) fun r s3 ⟨v, H3, I3, rv, e3, e4⟩ => wpAny_bind (wpAny_standAt (wpAny_pure ?_)))))
  subst e3 e4
  obtain rfl : r = Value.bool true := rv
  unfold evalPairs
  refine wpAny_bind (wpAny_holding (wpAny_pure (wpAny_pure ?_)))
  have all : KnAll X.K H3 [] := fun _ h => nomatch h
  obtain ⟨dd, ns, ln⟩ := kn_of I3 e2 all
  unfold storeAll
  simp only [List.forIn_cons, List.forIn_nil]
  refine wpAny_bind (wpAny_bind (wpAny_dictSet_heap (knd := nestedKind X.prog X.w) (k := k) (show X.A.units + 8 < cLine by omega) (kn_is I3 d dp) dd (fun h' dd' sb => wpAny_pure ?_) (Nat.zero_le _)))
  dsimp only
  refine wpAny_pure ?_
  rw [storedH_new (kn_none List.not_mem_nil)] at dd'
  have raw := kn_raw (X := X) (xs := [(k, q)]) dd' ns (by rw [sizeLine_eq]; show 1 ≤ 16777216; decide)
  obtain ⟨ob, _, _, hob, _⟩ := id raw
  exact ⟨.ref D, _, d_write I3 (by rw [e2]; exact True.intro) sb ⟨ob, hob⟩ (knO_new raw), rfl, want⟩
end
end Lr

namespace Lr
open PySem PySem.Spec PyProof.Rows L2

/-! the law's search, layer by layer -/
abbrev Pcl := Int × List Str
def nkP (p : Pcl) : NestedKey := .tup [.num p.1, .tup (p.2.map .text)]
theorem nkP_data (p : Pcl) : (nkP p).data = dCh p := by
  show PyData.tuple [.int p.1, .tuple (NestedKey.datas (p.2.map .text))] = _
  rw [datas_text]
  rfl
theorem nkP_depth (p : Pcl) : (nkP p).depth ≤ 8 := by
  show max 0 (max (NestedKey.depthAll (p.2.map .text) + 1) 0) + 1 ≤ 8
  rw [depth_text]
  decide
theorem nkP_inj {a b : Pcl} (h : nkP a = nkP b) : a = b := by
  obtain ⟨i, u⟩ := a
  obtain ⟨j, v⟩ := b
  unfold nkP at h
  injection h with h
  injection h with h1 h
  injection h with h2 _
  injection h1 with h1
  injection h2 with h2
  have e : u = v := map_inj (fun a b z => by injection z) h2
  have h1 : i = j := h1
  rw [h1, e]
def chsOf (lm : Mvs) (k : Int × Str) : List Chc := ((lm.find? fun m => decide (m.1 = k)).map (·.2)).getD []
theorem chsOf_mem : ∀ {lm : Mvs} {k : Int × Str} {cs : List Chc}, (lm.map (·.1)).Nodup → (k, cs) ∈ lm → chsOf lm k = cs
  | [], _, _, _, h => nomatch h
  | y :: lm, k, cs, nd, h => by
    rw [List.map_cons, List.nodup_cons] at nd
    unfold chsOf
    rw [List.find?_cons]
    rcases List.mem_cons.mp h with e | h
    · rw [← e]
      rw [decide_eq_true rfl]
      rfl
    · have ne : y.1 ≠ k := fun z => nd.1 (by rw [z]; exact List.mem_map_of_mem (f := fun e : (Int × Str) × List Chc => e.1) h)
      rw [decide_eq_false ne]
      exact chsOf_mem nd.2 h
theorem chsOf_in {lm : Mvs} {k : Int × Str} {c : Chc} (h : c ∈ chsOf lm k) : ∃ cs, (k, cs) ∈ lm ∧ c ∈ cs := by
  unfold chsOf at h
  cases e : lm.find? fun m => decide (m.1 = k) with
  | none =>
    rw [e] at h
    cases h
  | some x =>
    rw [e] at h
    have z := List.find?_some e
    have z1 : x.1 = k := of_decide_eq_true z
    refine ⟨x.2, ?_, h⟩
    rw [← z1]
    exact List.mem_of_find?_eq_some e
/-- where one step leads -/
def nexts (lm : Mvs) (p : Pcl) : List Pcl := match p.2 with
  | [] => []
  | l :: r => (chsOf lm (p.1, l)).map fun c => (c.1, c.2 ++ r)
theorem nexts_run {lm : Mvs} {p q : Pcl} (h : q ∈ nexts lm p) : Run lm 1 p.1 p.2 q.1 q.2 := by
  obtain ⟨i, st⟩ := p
  cases st with
  | nil => cases h
  | cons l r =>
    obtain ⟨c, hc, rfl⟩ := List.mem_map.mp h
    obtain ⟨cs, hm, hc⟩ := chsOf_in hc
    exact .cons hm hc .nil
theorem run_nexts {lm : Mvs} (nd : (lm.map (·.1)).Nodup) {s q : Int} {l : Str} {st : List Str} {cs : List Chc} {c : Chc} (h : ((s, l), cs) ∈ lm) (hc : c ∈ cs) : (c.1, c.2 ++ st) ∈ nexts lm (s, l :: st) := by
  show _ ∈ (chsOf lm (s, l)).map fun c => (c.1, c.2 ++ st)
  rw [chsOf_mem nd h]
  exact List.mem_map.mpr ⟨c, hc, rfl⟩
theorem run_last {lm : Mvs} (nd : (lm.map (·.1)).Nodup) : ∀ {n : Nat} {s q : Int} {st st' : List Str}, Run lm (n + 1) s st q st' → ∃ p : Pcl, Run lm n s st p.1 p.2 ∧ (q, st') ∈ nexts lm p
  | 0, _, _, _, _, .cons (s := s) (st := st) (l := l) (c := c) h hc t => by
    cases t
    exact ⟨(s, l :: st), .nil, run_nexts (q := 0) nd h hc⟩
  | n + 1, _, _, _, _, .cons h hc t => by
    obtain ⟨p, hp, hn⟩ := run_last nd t
    exact ⟨p, .cons h hc hp, hn⟩
abbrev Sch := List Pcl × List Pcl × Row
def visit (m : Int) (st : Sch) (a : Pcl) : Sch :=
  if a.2 = [] then (st.1, st.2.1, putR st.2.2 a.1 (if m < (getR st.2.2 a.1).getD m then m else (getR st.2.2 a.1).getD m))
  else if a ∈ st.1 then st else (st.1 ++ [a], st.2.1 ++ [a], st.2.2)
def visitAll (m : Int) (st : Sch) (vs : List Pcl) : Sch := vs.foldl (visit m) st
theorem visitAll_snoc (m : Int) (st : Sch) (vs : List Pcl) (a : Pcl) : visitAll m st (vs ++ [a]) = visit m (visitAll m st vs) a := by
  unfold visitAll
  rw [List.foldl_append]
  rfl
theorem visitAll_app (m : Int) (st : Sch) (vs us : List Pcl) : visitAll m st (vs ++ us) = visitAll m (visitAll m st vs) us := by
  unfold visitAll
  rw [List.foldl_append]
def newV (m : Int) : Option Int → Int
  | none => m
  | some g => if m < g then m else g
theorem newV_get (m : Int) (o : Option Int) : (if m < o.getD m then m else o.getD m) = newV m o := by
  cases o with
  | none => exact if_neg (Int.lt_irrefl m)
  | some g => rfl
theorem newV_twice (m : Int) (o : Option Int) : newV m (some (newV m o)) = newV m o := by
  cases o with
  | none => exact if_neg (Int.lt_irrefl m)
  | some g =>
    show (if m < (if m < g then m else g) then m else (if m < g then m else g)) = (if m < g then m else g)
    by_cases c : m < g
    · rw [if_pos c, if_neg (Int.lt_irrefl m)]
    · rw [if_neg c, if_neg c]
theorem visitAll_spec (m : Int) : ∀ (vs : List Pcl) (st : Sch),
    (∀ p, p ∈ (visitAll m st vs).1 ↔ p ∈ st.1 ∨ (p ∈ vs ∧ p.2 ≠ [])) ∧ (∀ p, p ∈ (visitAll m st vs).2.1 ↔ p ∈ st.2.1 ∨ (p ∈ vs ∧ p.2 ≠ [] ∧ p ∉ st.1)) ∧
    ∀ q, getR (visitAll m st vs).2.2 q = if (q, ([] : List Str)) ∈ vs then some (newV m (getR st.2.2 q)) else getR st.2.2 q
  | [], st => ⟨fun p => ⟨.inl, fun h => h.elim id fun h => nomatch h.1⟩, fun p => ⟨.inl, fun h => h.elim id fun h => nomatch h.1⟩, fun q => (if_neg (fun h => nomatch h)).symm⟩
  | a :: vs, st => by
    obtain ⟨h1, h2, h3⟩ := visitAll_spec m vs (visit m st a)
    have e : visitAll m st (a :: vs) = visitAll m (visit m st a) vs := rfl
    rw [e]
    by_cases c : a.2 = []
    · have ev : visit m st a = (st.1, st.2.1, putR st.2.2 a.1 (if m < (getR st.2.2 a.1).getD m then m else (getR st.2.2 a.1).getD m)) := if_pos c
      rw [newV_get] at ev
      rw [ev] at h1 h2 h3 ⊢
      refine ⟨fun p => ?_, fun p => ?_, fun q => ?_⟩
      · rw [h1, List.mem_cons]
        exact ⟨fun h => h.elim .inl fun h => .inr ⟨.inr h.1, h.2⟩, fun h => h.elim .inl fun h => .inr ⟨h.1.resolve_left fun z => h.2 (z ▸ c), h.2⟩⟩
      · rw [h2, List.mem_cons]
        exact ⟨fun h => h.elim .inl fun h => .inr ⟨.inr h.1, h.2⟩, fun h => h.elim .inl fun h => .inr ⟨h.1.resolve_left fun z => h.2.1 (z ▸ c), h.2⟩⟩
      · rw [h3]
        show (if (q, ([] : List Str)) ∈ vs then some (newV m (getR (putR st.2.2 a.1 (newV m (getR st.2.2 a.1))) q)) else getR (putR st.2.2 a.1 (newV m (getR st.2.2 a.1))) q) = _
        rw [get_put]
        by_cases d : q = a.1
        · have ma : (q, ([] : List Str)) ∈ a :: vs := by
            rw [d, ← c]
            exact List.mem_cons_self
          rw [if_pos d, if_pos ma, newV_twice, d]
          split <;> rfl
        · have ma : (q, ([] : List Str)) ∈ a :: vs ↔ (q, ([] : List Str)) ∈ vs := ⟨fun h => (List.mem_cons.mp h).resolve_left fun z => d (by rw [← z]), List.mem_cons_of_mem _⟩
          rw [if_neg d]
          by_cases e : (q, ([] : List Str)) ∈ vs
          · rw [if_pos e, if_pos (ma.mpr e)]
          · rw [if_neg e, if_neg (fun z => e (ma.mp z))]
    · have nq : ∀ q, (q, ([] : List Str)) ∈ a :: vs ↔ (q, ([] : List Str)) ∈ vs := fun q => ⟨fun h => (List.mem_cons.mp h).resolve_left fun z => c (by rw [← z]), List.mem_cons_of_mem _⟩
      by_cases d : a ∈ st.1
      · have ev : visit m st a = st := (if_neg c).trans (if_pos d)
        rw [ev] at h1 h2 h3 ⊢
        refine ⟨fun p => ?_, fun p => ?_, fun q => ?_⟩
        · rw [h1, List.mem_cons]
          exact ⟨fun h => h.elim .inl fun h => .inr ⟨.inr h.1, h.2⟩, fun h => h.elim .inl fun h => h.1.elim (fun z => .inl (z ▸ d)) fun z => .inr ⟨z, h.2⟩⟩
        · rw [h2, List.mem_cons]
          exact ⟨fun h => h.elim .inl fun h => .inr ⟨.inr h.1, h.2⟩, fun h => h.elim .inl fun h => h.1.elim (fun z => absurd (z ▸ d) h.2.2) fun z => .inr ⟨z, h.2⟩⟩
        · rw [h3]
          by_cases e : (q, ([] : List Str)) ∈ vs
          · rw [if_pos e, if_pos ((nq q).mpr e)]
          · rw [if_neg e, if_neg (fun z => e ((nq q).mp z))]
      · have ev : visit m st a = (st.1 ++ [a], st.2.1 ++ [a], st.2.2) := (if_neg c).trans (if_neg d)
        rw [ev] at h1 h2 h3 ⊢
        refine ⟨fun p => ?_, fun p => ?_, fun q => ?_⟩
        · rw [h1, List.mem_cons, List.mem_append, List.mem_singleton]
          constructor
          · rintro ((h | h) | h)
            · exact .inl h
            · exact .inr ⟨.inl h, h ▸ c⟩
            · exact .inr ⟨.inr h.1, h.2⟩
          · rintro (h | ⟨h | h, h2⟩)
            · exact .inl (.inl h)
            · exact .inl (.inr h)
            · exact .inr ⟨h, h2⟩
        · rw [h2, List.mem_cons, List.mem_append, List.mem_append, List.mem_singleton]
          constructor
          · rintro ((h | h) | ⟨h, h2, h3⟩)
            · exact .inl h
            · exact .inr ⟨.inl h, h ▸ c, h ▸ d⟩
            · exact .inr ⟨.inr h, h2, fun z => h3 (.inl z)⟩
          · rintro (h | ⟨h | h, h2, h3⟩)
            · exact .inl (.inl h)
            · exact .inl (.inr h)
            · by_cases e : p = a
              · exact .inl (.inr e)
              · exact .inr ⟨h, h2, fun z => z.elim h3 fun z => e z⟩
        · rw [h3]
          by_cases e : (q, ([] : List Str)) ∈ vs
          · rw [if_pos e, if_pos ((nq q).mpr e)]
          · rw [if_neg e, if_neg (fun z => e ((nq q).mp z))]
/-- what stands behind n layers -/
structure BInv (lm : Mvs) (r : Int) (l : Str) (n : Nat) (kn ly : List Pcl) (sm : Row) : Prop where
  kn : ∀ p, p ∈ kn ↔ p.2 ≠ [] ∧ ∃ m, m ≤ n ∧ Run lm m r [l] p.1 p.2
  ly1 : ∀ p ∈ ly, Run lm n r [l] p.1 p.2 ∧ p.2 ≠ []
  ly2 : ∀ p : Pcl, Run lm n r [l] p.1 p.2 → p.2 ≠ [] → (∀ m, m < n → ¬ Run lm m r [l] p.1 p.2) → p ∈ ly
  sm : ∀ q v, getR sm q = some v ↔ ∃ m : Nat, v = (m : Int) ∧ m ≤ n ∧ Run lm m r [l] q [] ∧ ∀ m', m' < m → ¬ Run lm m' r [l] q []
theorem run_zero {lm : Mvs} {s q : Int} {st st' : List Str} (h : Run lm 0 s st q st') : q = s ∧ st' = st := by
  cases h
  exact ⟨rfl, rfl⟩
theorem BInv.start (lm : Mvs) (r : Int) (l : Str) : BInv lm r l 0 [(r, [l])] [(r, [l])] [] := by
  refine ⟨fun p => ⟨fun h => ?_, fun ⟨h1, m, hm, h2⟩ => ?_⟩, fun p h => ?_, fun p h _ _ => ?_, fun q v => ⟨(fun h => nomatch h), fun ⟨m, _, hm, h, _⟩ => ?_⟩⟩
  · rw [List.mem_singleton.mp h]
    exact ⟨fun z => (nomatch z), 0, Nat.le_refl _, .nil⟩
  · obtain rfl : m = 0 := by omega
    obtain ⟨e1, e2⟩ := run_zero h2
    exact List.mem_singleton.mpr (Prod.ext e1 e2)
  · rw [List.mem_singleton.mp h]
    exact ⟨.nil, fun z => nomatch z⟩
  · obtain ⟨e1, e2⟩ := run_zero h
    exact List.mem_singleton.mpr (Prod.ext e1 e2)
  · obtain rfl : m = 0 := by omega
    obtain ⟨_, e2⟩ := run_zero h
    cases e2
theorem least_ex {P : Nat → Prop} : ∀ (n : Nat), P n → ∃ m, m ≤ n ∧ P m ∧ ∀ m', m' < m → ¬ P m' := by
  intro n
  induction n using Nat.strongRecOn with
  | ind n ih =>
    intro h
    by_cases c : ∃ m, m < n ∧ P m
    · obtain ⟨m, lt, pm⟩ := c
      obtain ⟨k, hk, h1, h2⟩ := ih m lt pm
      exact ⟨k, by omega, h1, h2⟩
    · exact ⟨n, Nat.le_refl _, h, fun m' lt z => c ⟨m', lt, z⟩⟩
theorem BInv.next {lm : Mvs} (nd : (lm.map (·.1)).Nodup) {r : Int} {l : Str} {n : Nat} {kn ly : List Pcl} {sm : Row} (h : BInv lm r l n kn ly sm) :
    BInv lm r l (n + 1) (visitAll ((n : Int) + 1) (kn, [], sm) (ly.map (nexts lm)).flatten).1 (visitAll ((n : Int) + 1) (kn, [], sm) (ly.map (nexts lm)).flatten).2.1 (visitAll ((n : Int) + 1) (kn, [], sm) (ly.map (nexts lm)).flatten).2.2 := by
  obtain ⟨s1, s2, s3⟩ := visitAll_spec ((n : Int) + 1) (ly.map (nexts lm)).flatten (kn, [], sm)
  have vrun : ∀ p, p ∈ (ly.map (nexts lm)).flatten → Run lm (n + 1) r [l] p.1 p.2 := fun p hp => by
    obtain ⟨L, hL, hpL⟩ := List.mem_flatten.mp hp
    obtain ⟨y, hy, rfl⟩ := List.mem_map.mp hL
    exact (h.ly1 y hy).1.trans (nexts_run hpL)
  have vin : ∀ p : Pcl, Run lm (n + 1) r [l] p.1 p.2 → (∀ m, m < n + 1 → ¬ Run lm m r [l] p.1 p.2) → p ∈ (ly.map (nexts lm)).flatten := fun p hp no => by
    obtain ⟨y, hy, hn⟩ := run_last nd hp
    have ne : y.2 ≠ [] := fun z => by
      unfold nexts at hn
      rw [z] at hn
      cases hn
    have yl := h.ly2 y hy ne fun m lt z => no (m + 1) (by omega) (z.trans (nexts_run hn))
    exact List.mem_flatten.mpr ⟨_, List.mem_map.mpr ⟨y, yl, rfl⟩, hn⟩
  refine ⟨fun p => ?_, fun p hp => ?_, fun p hp ne no => ?_, fun q v => ?_⟩
  · rw [s1]
    show p ∈ kn ∨ _ ↔ _
    rw [h.kn]
    constructor
    · rintro (⟨ne, m, hm, hr⟩ | ⟨hv, ne⟩)
      · exact ⟨ne, m, by omega, hr⟩
      · exact ⟨ne, n + 1, Nat.le_refl _, vrun p hv⟩
    · rintro ⟨ne, m, hm, hr⟩
      obtain ⟨k, hk, h1, h2⟩ := least_ex (P := fun m => Run lm m r [l] p.1 p.2) m hr
      by_cases c : k ≤ n
      · exact .inl ⟨ne, k, c, h1⟩
      · obtain rfl : k = n + 1 := by omega
        exact .inr ⟨vin p h1 h2, ne⟩
  · rw [s2] at hp
    rcases hp with hp | ⟨hv, ne, _⟩
    · cases hp
    · exact ⟨vrun p hv, ne⟩
  · rw [s2]
    refine .inr ⟨vin p hp no, ne, fun z => ?_⟩
    obtain ⟨_, m, hm, hr⟩ := (h.kn p).mp z
    exact no m (by omega) hr
  · rw [s3]
    show (if (q, ([] : List Str)) ∈ (ly.map (nexts lm)).flatten then some (newV ((n : Int) + 1) (getR sm q)) else getR sm q) = some v ↔ _
    cases e : getR sm q with
    | some g =>
      obtain ⟨m, e1, hm, h1, h2⟩ := (h.sm q g).mp e
      have nv : newV ((n : Int) + 1) (some g) = g := if_neg (by omega)
      have z : (if (q, ([] : List Str)) ∈ (ly.map (nexts lm)).flatten then some (newV ((n : Int) + 1) (some g)) else some g) = some g := by
        rw [nv]
        split <;> rfl
      rw [z]
      constructor
      · intro ev
        injection ev with ev
        exact ⟨m, by rw [← ev]; exact e1, by omega, h1, h2⟩
      · rintro ⟨m', e2, hm', h3, h4⟩
        have mm : m' = m := by
          rcases Nat.lt_trichotomy m' m with lt | eq | gt
          · exact absurd h3 (h2 m' lt)
          · exact eq
          · exact absurd h1 (h4 m gt)
        rw [e2, mm, ← e1]
    | none =>
      have no : ∀ m, m ≤ n → ¬ Run lm m r [l] q [] := fun m hm hr => by
        obtain ⟨k, hk, h1, h2⟩ := least_ex (P := fun m => Run lm m r [l] q []) m hr
        have z := (h.sm q (k : Int)).mpr ⟨k, rfl, by omega, h1, h2⟩
        rw [e] at z
        cases z
      constructor
      · intro hv
        split at hv
        · rename_i hin
          injection hv with hv
          refine ⟨n + 1, ?_, Nat.le_refl _, vrun _ hin, fun m' lt => no m' (by omega)⟩
          rw [← hv]
          rfl
        · cases hv
      · rintro ⟨m, e2, hm, h1, h2⟩
        have mm : m = n + 1 := by
          rcases Nat.lt_or_ge n m with lt | ge
          · omega
          · exact absurd h1 (no m ge)
        rw [mm] at h1 h2 e2
        rw [if_pos (vin (q, []) h1 h2), e2]
        rfl
end Lr

namespace Lr
open PySem PySem.Spec PyProof.Rows L2

theorem catAK {X : Cx} {K : PySem.W.Frag} (h : X.K = K := by rfl) : OpR X (binaryOp .Add) (rCatA K) := h ▸ op_catA
theorem pe_kn1K {X : Cx} {K : PySem.W.Frag} {P : Program} {w : World} {ek ev : Expr} {pos : Pos} {tk : TE} (hu : X.A.units + 20 < cLine) (hk : PE X ek tk) (hv : PE X ev (tC (.bl true))) (h1 : X.K = K := by rfl) (h2 : X.prog = P := by rfl) (h3 : X.w = w := by rfl) : PE X (.Dict [some ek] [ev] pos) (tKn1 K P w tk) := by
  subst h1 h2 h3
  exact pe_kn1 hu hk hv
theorem ps_knPutK {X : Cx} {K : PySem.W.Frag} {P : Program} {w : World} {o i value : Expr} {pos pos' : Pos} {td ty : TE} (hu : X.A.units + 20 < cLine) (ho : PE X o td) (hi : PE X i ty) (hv : PE X value (tC (.bl true))) (hs : swapsWith value (some (.Subscript o i pos')) pos.line X.env = pure false) (h1 : X.K = K := by rfl) (h2 : X.prog = P := by rfl) (h3 : X.w = w := by rfl) :
    PS X (.Assign [.Subscript o i pos'] value pos) (sKnPut K P w td ty) := by
  subst h1 h2 h3
  exact ps_knPut hu ho hi hv hs
theorem op_knNotInK {X : Cx} {K : PySem.W.Frag} {P : Program} {w : World} (hu : X.A.units + 20 < cLine) (h1 : X.K = K := by rfl) (h2 : X.prog = P := by rfl) (h3 : X.w = w := by rfl) : OpR X (compareOp .NotIn) (rKnNotIn K P w) := by
  subst h1 h2 h3
  exact op_knNotIn hu
theorem cr_knLenK {X : Cx} {K : PySem.W.Frag} {P : Program} {w : World} (h1 : X.K = K := by rfl) (h2 : X.prog = P := by rfl) (h3 : X.w = w := by rfl) : CallR X (.builtin "len") (rKnLen K P w) := by
  subst h1 h2 h3
  exact cr_knLen
theorem tk_up {H : Hp} {a : Addr} {o0 o : HO} (e : H a = some o0) (h1 : ∀ xs, o0 ≠ .tup xs) (h2 : ∀ ob xs, o0 ≠ .frz ob (.tup xs)) : Tk H (upd H a o) := fun b ys => by
  refine ⟨fun q => ?_, fun o' q => ?_⟩
  · rw [upd_ne (fun z => by
      rw [z, e] at q
      injection q with q
      exact h1 _ q)]
    exact q
  · rw [upd_ne (fun z => by
      rw [z, e] at q
      injection q with q
      exact h2 _ _ q)]
    exact q
/-- the search told: the least steps, up to six, to each road where the stack is off -/
def Shown (lm : Mvs) (r : Int) (l : Str) (sm : Row) : Prop := ∀ q v, getR sm q = some v ↔ ∃ m : Nat, v = (m : Int) ∧ m ≤ 6 ∧ Run lm m r [l] q [] ∧ ∀ m', m' < m → ¬ Run lm m' r [l] q []
theorem visit_len (m : Int) (st : Sch) (a : Pcl) : (visit m st a).1.length ≤ st.1.length + 1 ∧ (visit m st a).2.1.length ≤ st.2.1.length + 1 ∧ (visit m st a).2.2.length ≤ st.2.2.length + 1 ∧ (visit m st a).2.1.length + st.1.length ≤ (visit m st a).1.length + st.2.1.length := by
  unfold visit
  by_cases c : a.2 = []
  · rw [if_pos c]
    have z := putR_len st.2.2 a.1 (if m < (getR st.2.2 a.1).getD m then m else (getR st.2.2 a.1).getD m)
    exact ⟨Nat.le_succ _, Nat.le_succ _, z, by show st.2.1.length + st.1.length ≤ st.1.length + st.2.1.length; omega⟩
  · rw [if_neg c]
    by_cases d : a ∈ st.1
    · rw [if_pos d]
      exact ⟨Nat.le_succ _, Nat.le_succ _, Nat.le_succ _, by omega⟩
    · rw [if_neg d]
      exact ⟨by simp, by simp, Nat.le_succ _, by simp; omega⟩
theorem visitAll_len (m : Int) : ∀ (vs : List Pcl) (st : Sch), (visitAll m st vs).1.length ≤ st.1.length + vs.length ∧ (visitAll m st vs).2.1.length ≤ st.2.1.length + vs.length ∧ (visitAll m st vs).2.2.length ≤ st.2.2.length + vs.length ∧ (visitAll m st vs).2.1.length + st.1.length ≤ (visitAll m st vs).1.length + st.2.1.length
  | [], st => ⟨Nat.le_refl _, Nat.le_refl _, Nat.le_refl _, by show st.2.1.length + st.1.length ≤ st.1.length + st.2.1.length; omega⟩
  | a :: vs, st => by
    obtain ⟨h1, h2, h3, h4⟩ := visitAll_len m vs (visit m st a)
    obtain ⟨g1, g2, g3, g4⟩ := visit_len m st a
    have e : visitAll m st (a :: vs) = visitAll m (visit m st a) vs := rfl
    rw [e, List.length_cons]
    exact ⟨by omega, by omega, by omega, by omega⟩
/-- a parcel that may be met: its road, its labels -/
def PcB (n : Nat) (ls : List Str) (b : Nat) (p : Pcl) : Prop := 0 ≤ p.1 ∧ p.1 < (n : Int) ∧ (∀ x ∈ p.2, x ∈ ls) ∧ p.2.length ≤ b
theorem visitAll_in (m : Int) {F : Pcl → Prop} : ∀ (vs : List Pcl) (st : Sch), (∀ p ∈ vs, F p) → (∀ p ∈ st.2.1, F p) → ∀ p ∈ (visitAll m st vs).2.1, F p := fun vs st hv h p hp => by
  rcases ((visitAll_spec m vs st).2.1 p).mp hp with hp | hp
  · exact h p hp
  · exact hv p hp.1
def spLSh (K : PySem.W.Frag) : Sp := fun vs H Q _ => ∃ (G : Addr) (r : Int) (l : Str) (lm : Mvs) (us : List Addr) (n : Nat) (ls : List Str), vs = [.ref G, .int r, .str l] ∧ GoAt K H G lm us ∧ (lm.map (·.1)).Nodup ∧ n ≤ 50 ∧ 0 ≤ r ∧ r < (n : Int) ∧ l ∈ ls ∧ (∀ x ∈ ls, x ∈ L5) ∧
  (∀ (s : Int) (y : Str), 0 ≤ s → s < (n : Int) → y ∈ ls → ∃ cs, ((s, y), cs) ∈ lm) ∧ (∀ m ∈ lm, m.2.length ≤ 100 ∧ ∀ c ∈ m.2, 0 ≤ c.1 ∧ c.1 < (n : Int) ∧ c.2.length ≤ 3 ∧ ∀ x ∈ c.2, x ∈ ls) ∧
  ∀ (v : V) (H' : Hp), Same H H' → (v = .non ∨ ∃ (D : Addr) (sm : Row), v = .ref D ∧ H D = none ∧ H' D = some (.dK (rK sm)) ∧ sm.length ≤ 1000000 ∧ Shown lm r l sm) → Q v H'
section
variable {P : Program} {w : World} {K : PySem.W.Frag} {mg : Str → Option Value} {base : Heap}
theorem cat_read {K : PySem.W.Frag} {H : Hp} {p q : Addr} {ws us : List Str} {Q : V → Hp → Prop} (ep : SqT K H p (ws.map V.str)) (eq : SqT K H q (us.map V.str)) (hl : ws.length + us.length ≤ 1000) (k : ∀ (c : Addr) (H' : Hp), Same H H' → SqT K H' c ((ws ++ us).map V.str) → Q (.ref c) H') : rCatA K (.ref p) (.ref q) H Q := by
  refine ⟨p, q, _, _, rfl, rfl, ep, eq, by rw [List.length_map, List.length_map, sizeLine_eq]; omega, fun z => ?_, fun z1 z2 => ?_, fun z1 z2 c nc => ?_⟩
  · have e : ws = [] := List.map_eq_nil_iff.mp z
    rw [e] at k
    exact k q H (Same.refl H) eq
  · have e : us = [] := List.map_eq_nil_iff.mp z2
    rw [e, List.append_nil] at k
    exact k p H (Same.refl H) ep
  · refine k c _ (same_upd nc) ?_
    rw [List.map_append]
    exact SqT.of upd_same
theorem scLSh : FnScope ["goes", "road", "label", "known", "layer", "some", "n", "later", "here", "stack", "out", "word", "after"] ["goes", "road", "label"] (defScope sLSh) := ⟨rfl, rfl, rfl, by decide +kernel, rfl, by decide +kernel, by decide +kernel⟩
theorem ok_LSh {f : Addr} {fd : FuncData} (F : Fun K "_law_shown" "_law_shown" sLSh f fd) (T : Bt mg) (noMin : mg "min" = none) : FnOk P w K mg base CX0 1 f fd ["goes", "road", "label"] (spLSh K) := by
  refine F.ok scLSh (fun vs H Q E h => ?_) (fun cdv A outer s H vs Q E hr h => ?_)
  · obtain ⟨G, r, l, lm, us, n, ls, rfl, _⟩ := h
    rfl
  · obtain ⟨G, r, l, lm, us, n, ls, rfl, ga, knd, n50, r0, rn, ll, l5, tot, mok, k⟩ := h
    have hu64 : (A.deeper (envOfC "_law_shown" (defScope sLSh) s.heap.objs.size f cdv)).units + 64 < cLine := by
      have z := hr.un
      omega
    have hu1 : (A.deeper (envOfC "_law_shown" (defScope sLSh) s.heap.objs.size f cdv)).units + 1 < cLine := by omega
    have hu20 : (A.deeper (envOfC "_law_shown" (defScope sLSh) s.heap.objs.size f cdv)).units + 20 < cLine := by omega
    refine ⟨_, (pss_cons (ps_par3 (i := 3) (j := 4) (l := 5) (by rfl) scLSh.nd rfl rfl rfl (by decide) (by decide) (by decide) rfl rfl rfl (pa_cons (pe_kn1K (K := K) (P := P) (w := w) hu20 (pe_tup (pa_cons (pv 1) (pa_cons (pe_tup (pa_cons (pv 2) pa_nil)) pa_nil))) pe_bl) (pa_cons (pe_lst (pa_cons (pe_tup (pa_cons (pv 1) (pa_cons (pe_tup (pa_cons (pv 2) pa_nil)) pa_nil))) pa_nil)) (pa_cons pe_dnewK pa_nil))) (by rfl))
      (pss_cons (ps_for PassesOwn.never rfl (pi_range1 (by rfl) T.range (pa_cons pe_int pa_nil)) (pg_name (i := 6) scLSh.nd rfl (.inl rfl))
        (pss_cons (ps_set (i := 7) scLSh.nd rfl (.inl rfl) (pe_lst pa_nil))
        (pss_cons (ps_for PassesOwn.never rfl (pi_list (pv 4)) (pg_tup (by rfl) (pgs_cons (pg_name (i := 8) scLSh.nd rfl (.inl rfl)) (pgs_cons (pg_name (i := 9) scLSh.nd rfl (.inl rfl)) pgs_nil)))
          (pss_one (ps_for PassesOwn.never rfl (pi_list (pe_dget hu1 (pv 0) (pe_tup (pa_cons (pv 8) (pa_cons (pe_ix (ixT (K := K)) (pv 9) pe_int (fun _ _ => rfl)) pa_nil))) (fun _ _ => rfl))) (pg_tup (by rfl) (pgs_cons (pg_name (i := 10) scLSh.nd rfl (.inl rfl)) (pgs_cons (pg_name (i := 11) scLSh.nd rfl (.inl rfl)) pgs_nil)))
            (pss_cons (ps_set (i := 12) scLSh.nd rfl (.inl rfl) (pe_tup (pa_cons (pv 10) (pa_cons (pe_op (catAK (K := K)) (pv 11) (pe_slice sl_tupA (pv 9) (po_some pe_int) po_none)) pa_nil))))
            (pss_one (ps_if (pt_cmpR (op_eqD hu64) (pe_ix (ixT (K := K)) (pv 12) pe_int (fun _ _ => rfl)) (pe_tup pa_nil) (nomark _))
              (pss_one (ps_dput hu1 (pv 5) (pv 10) (pe_callB (call_min2 rfl) (by rfl) noMin (by decide +kernel) (pa_cons (pe_dget2 hu1 (pv 5) (pv 10) (pe_op op_add (pv 6) pe_int) ⟨rfl, rfl, rfl, rfl⟩) (pa_cons (pe_op op_add (pv 6) pe_int) pa_nil))) rfl))
              (pss_one (ps_if (pt_cmpR (op_knNotInK (K := K) (P := P) (w := w) hu20) (pv 12) (pv 3) (by rfl))
                (pss_cons (ps_knPutK (K := K) (P := P) (w := w) hu20 (pv 3) (pv 12) pe_bl rfl) (pss_one (ps_expr (pe_bm PySem.F.plainAttrs_list PySem.F.slot_list_append PySem.F.type_list_append mt_append (pv 7) (pa_cons (pv 12) pa_nil)))))
                pss_nil))))))))
        (pss_cons (ps_set (i := 4) scLSh.nd rfl (.inl rfl) (pv 7))
        (pss_one (ps_if (pt_cmpR op_gt (pe_callB (cr_knLenK (K := K) (P := P) (w := w)) (by rfl) T.len PySem.boot_len (pa_cons (pv 3) pa_nil)) pe_int (nomark _)) (pss_one (ps_ret pe_non)) pss_nil))))))
      (pss_one (ps_ret (pv 5))))), ?_⟩
    have flen : (fK lm us).length = lm.length := fK_len (Paired.length ga.2)
    -- the beginning
    refine fun KD nKD => ?_
    have sK : Same H (upd H KD (KnO P w KD [])) := same_upd nKD
    have eK : (upd H KD (KnO P w KD [])) KD = some (KnO P w KD []) := upd_same
    revert sK eK
    generalize upd H KD (KnO P w KD []) = H1
    intro sK eK
    refine ⟨_, rfl, _, rfl, s1le, fun wp nwp => ?_⟩
    have s2 : Same H1 (upd H1 wp (.tup [.str l])) := same_upd nwp
    have ewp : SqT K (upd H1 wp (.tup [.str l])) wp ([l].map V.str) := SqT.of upd_same
    revert s2 ewp
    generalize upd H1 wp (.tup [.str l]) = H2
    intro s2 ewp
    refine ⟨s2le, fun kq nkq => ?_⟩
    have s3 : Same H2 (upd H2 kq (.tup [.int r, .ref wp])) := same_upd nkq
    have ekq : SqT K (upd H2 kq (.tup [.int r, .ref wp])) kq [.int r, .ref wp] := SqT.of upd_same
    revert s3 ekq
    generalize upd H2 kq (.tup [.int r, .ref wp]) = H3
    intro s3 ekq
    have dk3 : Dp K H3 (.ref kq) (nkP (r, [l])).data := by
      rw [nkP_data]
      exact .tup ekq (.cons (.int _) (.cons (.tup ((Tk.of s3).seq ewp) (dp_strs _)) .nil))
    have eK3 := s3 _ _ (s2 _ _ eK)
    refine ⟨kq, nkP (r, [l]), rfl, eK3, dk3, nkP_depth _, ?_⟩
    have sm3 := (sK.trans s2).trans s3
    have tk3 : Tk H3 (upd H3 KD (KnO P w KD [(nkP (r, [l]), kq)])) := fun b ys => ⟨fun e => by
      rw [upd_ne (fun z => by rw [z, eK3] at e; cases e)]
      exact e, fun o e => by
      rw [upd_ne (fun z => by rw [z, eK3] at e; cases e)]
      exact e⟩
    have sm4 : Same H (upd H3 KD (KnO P w KD [(nkP (r, [l]), kq)])) := fun b o e => by
      rw [upd_ne (ne_of_none e nKD)]
      exact sm3 _ _ e
    have eK4 : (upd H3 KD (KnO P w KD [(nkP (r, [l]), kq)])) KD = some (KnO P w KD [(nkP (r, [l]), kq)]) := upd_same
    have dk4 : Dp K (upd H3 KD (KnO P w KD [(nkP (r, [l]), kq)])) (.ref kq) (nkP (r, [l])).data := by
      rw [nkP_data] at dk3 ⊢
      exact dp_tk tk3 _ _ (flat_ch _) dk3
    revert sm4 eK4 dk4
    generalize upd H3 KD (KnO P w KD [(nkP (r, [l]), kq)]) = H4
    intro sm4 eK4 dk4
    refine ⟨_, rfl, _, rfl, s1le, fun wp2 nwp2 => ?_⟩
    have s5 : Same H4 (upd H4 wp2 (.tup [.str l])) := same_upd nwp2
    have ewp2 : SqT K (upd H4 wp2 (.tup [.str l])) wp2 ([l].map V.str) := SqT.of upd_same
    revert s5 ewp2
    generalize upd H4 wp2 (.tup [.str l]) = H5
    intro s5 ewp2
    refine ⟨s2le, fun q2 nq2 => ?_⟩
    have s6 : Same H5 (upd H5 q2 (.tup [.int r, .ref wp2])) := same_upd nq2
    have eq2 : SqT K (upd H5 q2 (.tup [.int r, .ref wp2])) q2 [.int r, .ref wp2] := SqT.of upd_same
    revert s6 eq2
    generalize upd H5 q2 (.tup [.int r, .ref wp2]) = H6
    intro s6 eq2
    have dq6 : Dp K H6 (.ref q2) (dCh (r, [l])) := .tup eq2 (.cons (.int _) (.cons (.tup ((Tk.of s6).seq ewp2) (dp_strs _)) .nil))
    refine ⟨s1le, fun LY nLY => ?_⟩
    have s7 : Same H6 (upd H6 LY (.lst [.ref q2])) := same_upd nLY
    have eLY : (upd H6 LY (.lst [.ref q2])) LY = some (.lst [.ref q2]) := upd_same
    revert s7 eLY
    generalize upd H6 LY (.lst [.ref q2]) = H7
    intro s7 eLY
    refine fun SD nSD => ?_
    have s8 : Same H7 (upd H7 SD (.dK [])) := same_upd nSD
    have eSD : (upd H7 SD (.dK [])) SD = some (.dK (rK [])) := upd_same
    revert s8 eSD
    generalize upd H7 SD (.dK []) = H8
    intro s8 eSD
    refine ⟨_, _, _, rfl, ?_⟩
    have s48 := ((s5.trans s6).trans s7).trans s8
    have sm8 := sm4.trans s48
    have nSDH : H SD = none := by
      cases z : H SD with
      | none => rfl
      | some o =>
        have q := (((sm4.trans s5).trans s6).trans s7) _ _ z
        rw [nSD] at q
        cases q
    have neKS : KD ≠ SD := fun z => by
      have q := s48 _ _ eK4
      rw [z, eSD] at q
      cases q
    -- what stands
    let Co : Hp → List Pcl → Row → Prop := fun H' kn sm => ∃ xs : Kns, H' KD = some (KnO P w KD xs) ∧ KnAll K H' xs ∧ xs.map (·.1) = kn.map nkP ∧ H' SD = some (.dK (rK sm)) ∧ Same H H'
    have mk : ∀ {H' kn sm xs}, H' KD = some (KnO P w KD xs) → KnAll K H' xs → xs.map (·.1) = kn.map nkP → H' SD = some (.dK (rK sm)) → Same H H' → Co H' kn sm := fun {H' kn sm xs} a b c d e => ⟨xs, a, b, c, d, e⟩
    have op : ∀ {H' kn sm}, Co H' kn sm → ∃ xs : Kns, H' KD = some (KnO P w KD xs) ∧ KnAll K H' xs ∧ xs.map (·.1) = kn.map nkP ∧ H' SD = some (.dK (rK sm)) ∧ Same H H' := fun {H' kn sm} h => h
    have flK : ∀ {H' : Hp} {xs : Kns} {kn : List Pcl}, KnAll K H' xs → xs.map (·.1) = kn.map nkP → ∀ {H'' : Hp}, Tk H' H'' → KnAll K H'' xs := fun {H' xs kn} a e {H''} tk x hx => by
      obtain ⟨d, dp⟩ := a x hx
      have m : x.1 ∈ kn.map nkP := by
        rw [← e]
        exact List.mem_map_of_mem (f := fun x : NestedKey × Addr => x.1) hx
      obtain ⟨p, _, ep⟩ := List.mem_map.mp m
      rw [← ep, nkP_data] at d ⊢
      exact ⟨dp_tk tk _ _ (flat_ch _) d, nkP_depth _⟩
    have same : ∀ {H' H'' kn sm}, Co H' kn sm → Same H' H'' → Co H'' kn sm := fun {H' H'' kn sm} h s => by
      obtain ⟨xs, a, b, c, d, e⟩ := op h
      exact mk (s _ _ a) (flK b c (Tk.of s)) c (s _ _ d) (e.trans s)
    clear_value Co
    let Ly : Hp → Addr → List Pcl → Prop := fun H' L ly => ∃ us : List V, H' L = some (.lst us) ∧ DpAll K H' us (ly.map dCh)
    have lyop : ∀ {H' L ly}, Ly H' L ly → ∃ us : List V, H' L = some (.lst us) ∧ DpAll K H' us (ly.map dCh) := fun {H' L ly} h => h
    have lymk : ∀ {H' L ly us}, H' L = some (.lst us) → DpAll K H' us (ly.map dCh) → Ly H' L ly := fun {H' L ly us} a b => ⟨us, a, b⟩
    clear_value Ly
    have lysame : ∀ {H' H'' L ly}, Ly H' L ly → Same H' H'' → Ly H'' L ly := fun {H' H'' L ly} h s => by
      obtain ⟨us, a, b⟩ := lyop h
      exact lymk (s _ _ a) (dp_tkAll (Tk.of s) _ _ (flat_map _ flat_ch _) b)
    have co8 : Co H8 [(r, [l])] [] := by
      refine mk (s48 _ _ eK4) (fun x hx => ?_) rfl eSD sm8
      rw [List.mem_singleton.mp hx]
      refine ⟨?_, nkP_depth _⟩
      have z := dk4
      rw [nkP_data] at z ⊢
      exact dp_tk (Tk.of s48) _ _ (flat_ch _) z
    have ly8 : Ly H8 LY [(r, [l])] := lymk (s8 _ _ eLY) (.cons (dp_tk (Tk.of (s7.trans s8)) _ _ (flat_ch _) dq6) .nil)
    refine ⟨_, rfl, by decide, by decide, ?_⟩
    refine for_range (lo := 0) (n := 6) (fun i σ H' => ∃ (u6 u7 u8 u9 u10 u11 u12 : Option V) (L : Addr) (kn ly : List Pcl) (sm : Row), σ = [some (.ref G), some (.int r), some (.str l), some (.ref KD), some (.ref L), some (.ref SD), u6, u7, u8, u9, u10, u11, u12] ∧ Co H' kn sm ∧ Ly H' L ly ∧ BInv lm r l i kn ly sm ∧ kn.length ≤ 300 ∧ ly.length ≤ kn.length ∧ (∀ p ∈ ly, PcB n ls (1 + 3 * i) p) ∧ sm.length ≤ 40000 * i)
      ⟨_, _, _, _, _, _, _, LY, _, _, _, rfl, co8, ly8, BInv.start lm r l, (show 1 ≤ 300 by decide), Nat.le_refl _, fun p hp => ?_, (show 0 ≤ 40000 * 0 by decide)⟩ ?_ ?_
    · rw [List.mem_singleton.mp hp]
      exact ⟨r0, rn, fun x hx => by rw [List.mem_singleton.mp hx]; exact ll, by show 1 ≤ 1; decide⟩
    rotate_left
    · rintro σ H' ⟨u6, u7, u8, u9, u10, u11, u12, L, kn, ly, sm, rfl, co, lyh, bi, _, _, _, sl⟩
      obtain ⟨xs, _, _, _, eS, sH⟩ := op co
      exact ⟨_, rfl, k _ H' sH (.inr ⟨SD, sm, rfl, nSDH, eS, by omega, bi.sm⟩)⟩
    rintro i σ H' hi ⟨u6, u7, u8, u9, u10, u11, u12, L, kn, ly, sm, rfl, co, lyh, bi, knl, lyl, lyp, sl⟩
    have i0 : (0 : Int) + (i : Int) = (i : Int) := by omega
    rw [i0]
    refine ⟨Nat.zero_le _, fun LT nLT => ?_⟩
    have sT : Same H' (upd H' LT (.lst [])) := same_upd nLT
    have eT : (upd H' LT (.lst [])) LT = some (.lst []) := upd_same
    have co1 := same co sT
    have ly1 := lysame lyh sT
    obtain ⟨lus, eL0, dL0⟩ := lyop lyh
    have neLT : L ≠ LT := fun z => by
      rw [z, nLT] at eL0
      cases eL0
    revert sT eT co1 ly1
    generalize upd H' LT (.lst []) = HB
    intro sT eT co1 ly1
    have eLB := sT _ _ eL0
    have dLB := dp_tkAll (Tk.of sT) _ _ (flat_map _ flat_ch _) dL0
    have lul : lus.length = ly.length := by
      have z := dpAll_len dL0
      rw [List.length_map] at z
      exact z
    have neLK : L ≠ KD := fun z => by
      obtain ⟨xs, e1, _⟩ := op co1
      rw [z, e1] at eLB
      cases eLB
    have neLS : L ≠ SD := fun z => by
      obtain ⟨xs, _, _, _, e1, _⟩ := op co1
      rw [z, e1] at eLB
      cases eLB
    have neTK : LT ≠ KD := fun z => by
      obtain ⟨xs, e1, _⟩ := op co1
      rw [z, e1] at eT
      cases eT
    have neTS : LT ≠ SD := fun z => by
      obtain ⟨xs, _, _, _, e1, _⟩ := op co1
      rw [z, e1] at eT
      cases eT
    have lyT : Ly HB LT [] := lymk eT .nil
    have nxl : ∀ p, (nexts lm p).length ≤ 100 := fun p => by
      obtain ⟨s, st⟩ := p
      cases st with
      | nil => exact Nat.zero_le _
      | cons y rest =>
        show ((chsOf lm (s, y)).map fun c => (c.1, c.2 ++ rest)).length ≤ 100
        rw [List.length_map]
        unfold chsOf
        cases e : lm.find? fun m => decide (m.1 = (s, y)) with
        | none => exact Nat.zero_le _
        | some x => exact (mok x (List.mem_of_find?_eq_some e)).1
    have vl : ∀ e, ((ly.take e).map (nexts lm)).flatten.length ≤ 30000 := fun e => by
      have z : ∀ l : List Pcl, (l.map (nexts lm)).flatten.length ≤ l.length * 100 := by
        intro l
        induction l with
        | nil => exact Nat.zero_le _
        | cons a l ih =>
          rw [List.map_cons, List.flatten_cons, List.length_append, List.length_cons, Nat.succ_mul]
          have := nxl a
          omega
      have z1 := z (ly.take e)
      rw [List.length_take] at z1
      have z2 : min e ly.length * 100 ≤ 300 * 100 := Nat.mul_le_mul_right _ (by omega)
      omega
    have vin : ∀ (e : Nat) q, q ∈ ((ly.take e).map (nexts lm)).flatten → PcB n ls (1 + 3 * (i + 1)) q := fun e q hq => by
      obtain ⟨Lq, hL, hqL⟩ := List.mem_flatten.mp hq
      obtain ⟨y, hy, rfl⟩ := List.mem_map.mp hL
      obtain ⟨b1, b2, b3, b4⟩ := lyp y (List.mem_of_mem_take hy)
      obtain ⟨s, st⟩ := y
      cases st with
      | nil => cases hqL
      | cons y rest =>
        obtain ⟨c, hc, rfl⟩ := List.mem_map.mp hqL
        obtain ⟨cs, hm, hc⟩ := chsOf_in hc
        obtain ⟨c1, c2, c3, c4⟩ := (mok _ hm).2 c hc
        refine ⟨c1, c2, fun x hx => ?_, ?_⟩
        · rcases List.mem_append.mp hx with hx | hx
          · exact c4 x hx
          · exact b3 x (List.mem_cons_of_mem _ hx)
        · have b4 : (y :: rest).length ≤ 1 + 3 * i := b4
          rw [List.length_cons] at b4
          show (c.2 ++ rest).length ≤ 1 + 3 * (i + 1)
          rw [List.length_append]
          omega
    have vall : ∀ vs, visitAll ((i : Int) + 1) (kn, [], sm) vs = visitAll ((i : Int) + 1) (kn, [], sm) vs := fun _ => rfl
    refine ⟨_, rfl, L, rfl, ⟨_, SqL.of eLB⟩, ?_⟩
    refine for_list (K := K) (a := L) (xs := lus) (fun e σ H2 => ∃ (u8 u9 u10 u11 u12 : Option V) (st : Sch), σ = [some (.ref G), some (.int r), some (.str l), some (.ref KD), some (.ref L), some (.ref SD), some (.int (i : Int)), some (.ref LT), u8, u9, u10, u11, u12] ∧ st = visitAll ((i : Int) + 1) (kn, [], sm) ((ly.take e).map (nexts lm)).flatten ∧ Co H2 st.1 st.2.2 ∧ Ly H2 LT st.2.1 ∧ ∀ b o, HB b = some o → b ≠ KD → b ≠ SD → b ≠ LT → H2 b = some o)
      ⟨_, _, _, _, _, _, rfl, rfl, by rw [List.take_zero]; exact co1, by rw [List.take_zero]; exact lyT, fun b o e _ _ _ => e⟩ (fun e σ H2 _ ⟨_, _, _, _, _, _, _, _, _, _, kk⟩ => SqL.of (kk _ _ eLB neLK neLS neLT)) ?_ ?_
    rotate_left
    · rintro σ H2 ⟨u8, u9, u10, u11, u12, st, rfl, est, co2, ly2, kk2⟩
      rw [lul, List.take_length] at est
      have bn := BInv.next knd bi
      rw [← est] at bn
      obtain ⟨l1, l2, l3, l4⟩ := visitAll_len ((i : Int) + 1) (ly.map (nexts lm)).flatten (kn, [], sm)
      rw [← est] at l1 l2 l3 l4
      have vz := vl ly.length
      rw [List.take_length] at vz
      have inz := visitAll_in ((i : Int) + 1) (F := PcB n ls (1 + 3 * (i + 1))) (ly.map (nexts lm)).flatten (kn, [], sm) (fun q hq => vin ly.length q (by rw [List.take_length]; exact hq)) (fun q hq => nomatch hq)
      rw [← est] at inz
      have l1 : st.1.length ≤ kn.length + (ly.map (nexts lm)).flatten.length := l1
      have l3 : st.2.2.length ≤ sm.length + (ly.map (nexts lm)).flatten.length := l3
      have l4 : st.2.1.length + kn.length ≤ st.1.length + 0 := l4
      obtain ⟨xs, eK2, all2, ek2, eS2, sH2⟩ := op co2
      have xl : xs.length = st.1.length := by
        have z := congrArg List.length ek2
        rw [List.length_map, List.length_map] at z
        exact z
      refine ⟨_, rfl, ?_⟩
      refine ⟨_, rfl, KD, xs, rfl, eK2, all2, _, _, rfl, rfl, _, rfl, ?_⟩
      refine ite2 (fun _ => ?_) (fun no => ?_)
      · exact k _ H2 sH2 (.inl rfl)
      · have small : st.1.length ≤ 300 := by
          have z : ¬ ((xs.length : Nat) : Int) > 300 := fun q => no (decide_eq_true q)
          omega
        exact ⟨_, _, _, _, _, _, _, LT, st.1, st.2.1, st.2.2, rfl, co2, ly2, bn, small, by omega, inz, by omega⟩
    rintro e xv σ H2 hx ⟨u8, u9, u10, u11, u12, st, rfl, est, co2, ly2, kk2⟩
    have el : e < ly.length := by rw [← lul]; exact (List.getElem?_eq_some_iff.mp hx).1
    have hp := List.getElem?_eq_getElem el
    have pin : ly[e] ∈ ly := List.getElem_mem el
    generalize ly[e] = p at hp pin
    obtain ⟨here, stk⟩ := p
    obtain ⟨b1, b2, b3, b4⟩ := lyp _ pin
    have b1 : 0 ≤ here := b1
    have b2 : here < (n : Int) := b2
    obtain ⟨_, pne⟩ := bi.ly1 _ pin
    have tke : ly.take (e + 1) = ly.take e ++ [(here, stk)] := by rw [List.take_succ, hp]; rfl
    cases stk with
    | nil => exact absurd rfl pne
    | cons y rest =>
      have dxp : Dp K HB xv (dCh (here, y :: rest)) := by
        obtain ⟨d', hd', dx⟩ := dpAll_get dLB e xv hx
        rw [List.getElem?_map, hp] at hd'
        cases hd'
        exact dx
      have tk2 : ∀ {H9 : Hp}, (∀ b o, HB b = some o → b ≠ KD → b ≠ SD → b ≠ LT → H9 b = some o) → Tk HB H9 := fun {H9} kk b ys => by
        obtain ⟨xs, e1, _, _, e2, _⟩ := op co1
        have nn : ∀ o, HB b = some o → (∀ φ, o ≠ .ext φ) → (∀ kv, o ≠ .dK kv) → (∀ zs, o ≠ .lst zs) → H9 b = some o := fun o eb n1 n2 n3 => kk b o eb (fun z => by
          rw [z, e1] at eb
          injection eb with eb
          exact n1 _ eb.symm) (fun z => by
          rw [z, e2] at eb
          injection eb with eb
          exact n2 _ eb.symm) (fun z => by
          rw [z, eT] at eb
          injection eb with eb
          exact n3 _ eb.symm)
        exact ⟨fun eb => nn _ eb (fun _ z => nomatch z) (fun _ z => nomatch z) (fun _ z => nomatch z), fun o eb => nn _ eb (fun _ z => nomatch z) (fun _ z => nomatch z) (fun _ z => nomatch z)⟩
      obtain ⟨pq, wl, ex, epq, ewl⟩ := ch_at (dp_tk (tk2 kk2) _ _ (flat_ch _) dxp)
      subst ex
      have yin : y ∈ ls := b3 y List.mem_cons_self
      obtain ⟨cs, hmlm⟩ := tot here y b1 b2 yin
      obtain ⟨i2, hi2⟩ := List.mem_iff_getElem?.mp hmlm
      have i2l := (List.getElem?_eq_some_iff.mp hi2).1
      have ul : us.length = lm.length := Paired.length ga.2
      have hu2 := List.getElem?_eq_getElem (show i2 < us.length by omega)
      generalize us[i2] = u at hu2
      obtain ⟨cxs, eu, dxs⟩ : ∃ xs, H u = some (.lst xs) ∧ DpAll K H xs (cs.map dCh) := by
        obtain ⟨u', h1, h2⟩ := paired_get2 ga.2 hi2
        rw [hu2] at h1
        injection h1 with h1
        rw [← h1] at h2
        exact h2
      have xl : cxs.length = cs.length := by rw [dpAll_len dxs, List.length_map]
      have enx : nexts lm (here, y :: rest) = cs.map fun c => (c.1, c.2 ++ rest) := by
        show ((chsOf lm (here, y)).map fun c => (c.1, c.2 ++ rest)) = _
        rw [chsOf_mem knd hmlm]
      obtain ⟨mcl, mch⟩ := mok _ hmlm
      have mcl : cs.length ≤ 100 := mcl
      refine ⟨pq, _, rfl, epq, rfl, _, _, rfl, _, _, rfl, rfl, ?_⟩
      obtain ⟨xs2, eK2, all2, ek2, eS2, sH2⟩ := op co2
      have at0 : atI ((here, y :: rest).2.map V.str) 0 = some (V.str y) := atI_nat (show ((here, y :: rest).2.map V.str)[0]? = some (V.str y) from rfl)
      refine ⟨_, rfl, _, rfl, _, rfl, wl, _, _, V.str y, rfl, rfl, ewl, at0, s2le, fun hh nh => ?_⟩
      have sh : Same H2 (upd H2 hh (.tup [.int here, .str y])) := same_upd nh
      have eh : (upd H2 hh (.tup [.int here, .str y])) hh = some (.tup [.int here, .str y]) := upd_same
      revert sh eh
      generalize upd H2 hh (.tup [.int here, .str y]) = H3
      intro sh eh
      have sH3 := sH2.trans sh
      have dg : DGet H3 G (.ref hh) (some (V.ref u)) := by
        have z := DGet.t (k := [Sum.inl here, Sum.inr y]) (sH3 _ _ ga.1) eh
        rw [fK_get knd hi2 hu2] at z
        exact z
      refine ⟨G, _, rfl, dg, u, rfl, ⟨_, SqL.of (sH3 _ _ eu)⟩, ?_⟩
      have kk3 : ∀ b o, HB b = some o → b ≠ KD → b ≠ SD → b ≠ LT → H3 b = some o := fun b o eb n1 n2 n3 => sh _ _ (kk2 b o eb n1 n2 n3)
      have ewl3 := (Tk.of sh).seq ewl
      refine for_list (K := K) (a := u) (xs := cxs) (fun j σ H4 => ∃ (u10 u11 u12 : Option V) (st4 : Sch), σ = [some (.ref G), some (.int r), some (.str l), some (.ref KD), some (.ref L), some (.ref SD), some (.int (i : Int)), some (.ref LT), some (.int here), some (.ref wl), u10, u11, u12] ∧ st4 = visitAll ((i : Int) + 1) st ((cs.take j).map fun c => (c.1, c.2 ++ rest)) ∧ Co H4 st4.1 st4.2.2 ∧ Ly H4 LT st4.2.1 ∧ (∀ b o, HB b = some o → b ≠ KD → b ≠ SD → b ≠ LT → H4 b = some o) ∧ SqT K H4 wl ((y :: rest).map V.str))
        ⟨_, _, _, st, rfl, by rw [List.take_zero]; rfl, same co2 sh, lysame ly2 sh, kk3, ewl3⟩ (fun j σ H4 _ ⟨_, _, _, _, _, _, c, _⟩ => (op c).elim fun _ h => SqL.of (h.2.2.2.2 _ _ eu)) ?_ ?_
      rotate_left
      · rintro σ H4 ⟨u10, u11, u12, st4, rfl, est4, co4, ly4, kk4, _⟩
        refine ⟨_, _, _, _, _, st4, rfl, ?_, co4, ly4, kk4⟩
        rw [xl, List.take_length, ← enx, est, ← visitAll_app] at est4
        rw [est4, tke, List.map_append, List.flatten_append]
        congr 1
        simp
      rintro j cv σ H4 hcv ⟨u10, u11, u12, st4, rfl, est4, co4, ly4, kk4, ew4⟩
      have jl : j < cs.length := by rw [← xl]; exact (List.getElem?_eq_some_iff.mp hcv).1
      have hc := List.getElem?_eq_getElem jl
      have cin : cs[j] ∈ cs := List.getElem_mem jl
      generalize cs[j] = c at hc cin
      have tkc : cs.take (j + 1) = cs.take j ++ [c] := by rw [List.take_succ, hc]; rfl
      obtain ⟨c1, c2, c3, c4⟩ := mch c cin
      have dxc : Dp K H cv (dCh c) := by
        obtain ⟨d', hd', dx⟩ := dpAll_get dxs j cv hcv
        rw [List.getElem?_map, hc] at hd'
        cases hd'
        exact dx
      obtain ⟨xs4, eK4, all4, ek4, eS4, sH4⟩ := op co4
      obtain ⟨lus4, eT4, dT4⟩ := lyop ly4
      obtain ⟨ca, wa, ex, ec, ew⟩ := ch_at (dp_tk (Tk.of sH4) _ _ (flat_ch c) dxc)
      subst ex
      have evs : visitAll ((i : Int) + 1) st ((cs.take (j + 1)).map fun c => (c.1, c.2 ++ rest)) = visit ((i : Int) + 1) st4 (c.1, c.2 ++ rest) := by
        rw [tkc, List.map_append]
        show visitAll ((i : Int) + 1) st ((cs.take j).map (fun c => (c.1, c.2 ++ rest)) ++ [(c.1, c.2 ++ rest)]) = _
        rw [visitAll_snoc, ← est4]
      -- how much there is
      have all1 : st4 = visitAll ((i : Int) + 1) (kn, [], sm) (((ly.take e).map (nexts lm)).flatten ++ (cs.take j).map fun c => (c.1, c.2 ++ rest)) := by
        rw [visitAll_app, ← est, ← est4]
      obtain ⟨l1, l2, l3, l4⟩ := visitAll_len ((i : Int) + 1) (((ly.take e).map (nexts lm)).flatten ++ (cs.take j).map fun c => (c.1, c.2 ++ rest)) (kn, [], sm)
      rw [← all1] at l1 l2 l3 l4
      rw [List.length_append, List.length_map, List.length_take] at l1 l2 l3
      have vz := vl e
      have l1 : st4.1.length ≤ kn.length + (((ly.take e).map (nexts lm)).flatten.length + min j cs.length) := l1
      have l2 : st4.2.1.length ≤ 0 + (((ly.take e).map (nexts lm)).flatten.length + min j cs.length) := l2
      have l3 : st4.2.2.length ≤ sm.length + (((ly.take e).map (nexts lm)).flatten.length + min j cs.length) := l3
      have xl4 : xs4.length = st4.1.length := by
        have z := congrArg List.length ek4
        rw [List.length_map, List.length_map] at z
        exact z
      have lul4 : lus4.length = st4.2.1.length := by
        have z := dpAll_len dT4
        rw [List.length_map] at z
        exact z
      have c3 : c.2.length ≤ 3 := c3
      have b4' : (y :: rest).length ≤ 1 + 3 * i := b4
      rw [List.length_cons] at b4'
      refine ⟨ca, _, rfl, ec, rfl, _, _, rfl, _, _, rfl, rfl, ?_⟩
      refine ⟨_, rfl, _, rfl, _, rfl, 1, rfl, ?_⟩
      unfold tNoPart
      refine rest_read ew4 fun rq H5 s5 eq5 => ?_
      have eq5 : SqT K H5 rq (rest.map V.str) := eq5
      refine cat_read ((Tk.of s5).seq ew) eq5 (by omega) fun cq H6 s6 ecq => ?_
      have s46 := s5.trans s6
      refine ⟨s2le, fun aq naq => ?_⟩
      have s7 : Same H6 (upd H6 aq (.tup [.int c.1, .ref cq])) := same_upd naq
      have eaq : (upd H6 aq (.tup [.int c.1, .ref cq])) aq = some (.tup [.int c.1, .ref cq]) := upd_same
      revert s7 eaq
      generalize upd H6 aq (.tup [.int c.1, .ref cq]) = H7
      intro s7 eaq
      have ecq7 := (Tk.of s7).seq ecq
      have dpa : Dp K H7 (.ref aq) (dCh (c.1, c.2 ++ rest)) := .tup (SqT.of eaq) (.cons (.int _) (.cons (.tup ecq7 (dp_strs _)) .nil))
      have s47 := s46.trans s7
      refine ⟨_, rfl, aq, _, _, V.ref cq, rfl, rfl, SqT.of eaq, rfl, Nat.zero_le _, fun Z nZ => ?_⟩
      have sZ : Same H7 (upd H7 Z (.tup [])) := same_upd nZ
      have eZ : (upd H7 Z (.tup [])) Z = some (.tup []) := upd_same
      revert sZ eZ
      generalize upd H7 Z (.tup []) = H8
      intro sZ eZ
      have s48 := s47.trans sZ
      have dpa8 := dp_tk (Tk.of sZ) _ _ (flat_ch _) dpa
      have l5w : ∀ x ∈ c.2 ++ rest, x ∈ L5 := fun x hx => by
        rcases List.mem_append.mp hx with hx | hx
        · exact l5 x (c4 x hx)
        · exact l5 x (b3 x (List.mem_cons_of_mem _ hx))
      have shw : SeqAt.shaped (.tuple ((c.2 ++ rest).map PyData.str)) = true := by
        unfold SeqAt.shaped
        rw [Bool.and_eq_true, decide_eq_true_eq]
        refine ⟨lay_wd l5w, ?_⟩
        show PyData.depthAll ((c.2 ++ rest).map PyData.str) + 1 ≤ 64
        rw [depth_strs]
        decide
      refine ⟨.tuple ((c.2 ++ rest).map PyData.str), .tuple [], .tup ((Tk.of sZ).seq ecq7) (dp_strs _), .tup (SqT.of eZ) .nil, shw, by decide +kernel, _, rfl, ?_⟩
      have eqe : PyData.eqv (.tuple ((c.2 ++ rest).map PyData.str)) (.tuple []) = (c.2 ++ rest).isEmpty := by
        cases c.2 ++ rest <;> rfl
      rw [eqe]
      have co8 := same co4 s48
      have ly8 := lysame ly4 s48
      have ew8 := (Tk.of s48).seq ew4
      have kk8 : ∀ b o, HB b = some o → b ≠ KD → b ≠ SD → b ≠ LT → H8 b = some o := fun b o eb n1 n2 n3 => s48 _ _ (kk4 b o eb n1 n2 n3)
      obtain ⟨xs8, eK8, all8, ek8, eS8, sH8⟩ := op co8
      obtain ⟨lus8, eT8, dT8⟩ := lyop ly8
      have xl8 : xs8.length = st4.1.length := by
        have z := congrArg List.length ek8
        rw [List.length_map, List.length_map] at z
        exact z
      have lul8 : lus8.length = st4.2.1.length := by
        have z := dpAll_len dT8
        rw [List.length_map] at z
        exact z
      by_cases emp : c.2 ++ rest = []
      · refine ifT (by rw [emp]; rfl) ?_
        have ev : visit ((i : Int) + 1) st4 (c.1, c.2 ++ rest) = (st4.1, st4.2.1, putR st4.2.2 c.1 (if (i : Int) + 1 < (getR st4.2.2 c.1).getD ((i : Int) + 1) then (i : Int) + 1 else (getR st4.2.2 c.1).getD ((i : Int) + 1))) := if_pos emp
        have dg : DGet H8 SD (.int c.1) ((getR st4.2.2 c.1).map V.int) := by
          rw [← rK_get]
          exact DGet.k (k := Sum.inl c.1) eS8
        have eg : ((getR st4.2.2 c.1).map V.int).getD (.int ((i : Int) + 1)) = .int ((getR st4.2.2 c.1).getD ((i : Int) + 1)) := by
          cases getR st4.2.2 c.1 <;> rfl
        have sl8 : (rK st4.2.2).length < sizeLine := by
          unfold rK
          rw [List.length_map, sizeLine_eq]
          have i6 : i < 6 := hi
          have mcl : cs.length ≤ 100 := mcl
          omega
        refine ⟨_, rfl, SD, rfl, .inl ⟨_, .inl eS8⟩, _, rfl, _, rfl, _, _, rfl, rfl, _, dg, ?_⟩
        rw [eg]
        refine ⟨_, rfl, _, _, rfl, rfl, _, _, rfl, _, rfl, _, rfl, SD, _, rfl, DPut.k (k := Sum.inl c.1) eS8 sl8, ?_⟩
        rw [rK_put]
        have tk9 : Tk H8 (upd H8 SD (.dK (rK (putR st4.2.2 c.1 (if (i : Int) + 1 < (getR st4.2.2 c.1).getD ((i : Int) + 1) then (i : Int) + 1 else (getR st4.2.2 c.1).getD ((i : Int) + 1)))))) := tk_up eS8 (fun _ z => nomatch z) (fun _ _ z => nomatch z)
        refine ⟨_, _, _, (st4.1, st4.2.1, putR st4.2.2 c.1 (if (i : Int) + 1 < (getR st4.2.2 c.1).getD ((i : Int) + 1) then (i : Int) + 1 else (getR st4.2.2 c.1).getD ((i : Int) + 1))), rfl, (evs.trans ev).symm, mk (xs := xs8) (by rw [upd_ne neKS]; exact eK8) (flK all8 ek8 tk9) ek8 upd_same (fun b o eb => by rw [upd_ne (ne_of_none eb nSDH)]; exact sH8 _ _ eb), lymk (by rw [upd_ne neTS]; exact eT8) (dp_tkAll tk9 _ _ (flat_map _ flat_ch _) dT8), fun b o eb n1 n2 n3 => by rw [upd_ne n2]; exact kk8 b o eb n1 n2 n3, tk9.seq ew8⟩
      · refine ifF (by cases z : c.2 ++ rest with | nil => exact absurd z emp | cons _ _ => rfl) ?_
        have dpk : Dp K H8 (.ref aq) (nkP (c.1, c.2 ++ rest)).data := by
          rw [nkP_data]
          exact dpa8
        refine ⟨_, rfl, _, rfl, KD, aq, xs8, nkP (c.1, c.2 ++ rest), rfl, eK8, all8, rfl, dpk, nkP_depth _, _, rfl, ?_⟩
        have memk : nkP (c.1, c.2 ++ rest) ∈ xs8.map (·.1) ↔ (c.1, c.2 ++ rest) ∈ st4.1 := by
          rw [ek8, List.mem_map]
          exact ⟨fun ⟨p, hp, e⟩ => nkP_inj e ▸ hp, fun h => ⟨_, h, rfl⟩⟩
        by_cases d : (c.1, c.2 ++ rest) ∈ st4.1
        · refine ifF (by rw [decide_eq_true (memk.mpr d)]; rfl) ?_
          refine ⟨_, _, _, st4, rfl, ?_, co8, ly8, kk8, ew8⟩
          rw [evs]
          exact ((if_neg emp).trans (if_pos d)).symm
        · have nd8 : nkP (c.1, c.2 ++ rest) ∉ xs8.map (·.1) := fun z => d (memk.mp z)
          refine ifT (by rw [decide_eq_false nd8]; rfl) ?_
          refine ⟨_, rfl, _, rfl, KD, aq, xs8, nkP (c.1, c.2 ++ rest), rfl, eK8, all8, rfl, dpk, nkP_depth _, nd8, by rw [xl8, sizeLine_eq]; omega, ?_⟩
          have tk9 : Tk H8 (upd H8 KD (KnO P w KD (xs8 ++ [(nkP (c.1, c.2 ++ rest), aq)]))) := tk_up eK8 (fun _ z => nomatch z) (fun _ _ z => nomatch z)
          have eT9 : (upd H8 KD (KnO P w KD (xs8 ++ [(nkP (c.1, c.2 ++ rest), aq)]))) LT = some (.lst lus8) := by
            rw [upd_ne neTK]
            exact eT8
          refine ⟨_, rfl, .inl ⟨rfl, _, SqL.of eT9⟩, _, rfl, LT, _, _, rfl, rfl, eT9, by rw [lul8, sizeLine_eq]; omega, ?_⟩
          have tk10 : Tk H8 (upd (upd H8 KD (KnO P w KD (xs8 ++ [(nkP (c.1, c.2 ++ rest), aq)]))) LT (.lst (lus8 ++ [.ref aq]))) := tk9.trans (tk_lst eT9)
          have nLTH : H LT = none := by
            obtain ⟨_, _, _, _, _, sHB⟩ := op co
            cases z : H LT with
            | none => rfl
            | some o =>
              rw [sHB _ _ z] at nLT
              cases nLT
          refine ⟨_, _, _, (st4.1 ++ [(c.1, c.2 ++ rest)], st4.2.1 ++ [(c.1, c.2 ++ rest)], st4.2.2), rfl, ?_, mk (xs := xs8 ++ [(nkP (c.1, c.2 ++ rest), aq)]) ?_ ?_ ?_ ?_ ?_, lymk upd_same ?_, ?_, tk10.seq ew8⟩
          · rw [evs]
            exact ((if_neg emp).trans (if_neg d)).symm
          · rw [upd_ne (Ne.symm neTK), upd_same]
          · intro x hx
            rcases List.mem_append.mp hx with hx | hx
            · exact flK all8 ek8 tk10 x hx
            · rw [List.mem_singleton.mp hx]
              refine ⟨?_, nkP_depth _⟩
              show Dp K _ (.ref aq) (nkP (c.1, c.2 ++ rest)).data
              rw [nkP_data]
              exact dp_tk tk10 _ _ (flat_ch _) dpa8
          · rw [List.map_append, List.map_append, ek8]
            rfl
          · rw [upd_ne (Ne.symm neTS), upd_ne (Ne.symm neKS)]
            exact eS8
          · intro b o eb
            rw [upd_ne (ne_of_none eb nLTH), upd_ne (ne_of_none eb nKD)]
            exact sH8 _ _ eb
          · rw [List.map_append]
            exact dpAll_app (dp_tkAll tk10 _ _ (flat_map _ flat_ch _) dT8) (.cons (dp_tk tk10 _ _ (flat_ch _) dpa8) .nil)
          · intro b o eb n1 n2 n3
            rw [upd_ne n3, upd_ne n1]
            exact kk8 b o eb n1 n2 n3
end
end Lr

namespace Lr
open PySem PySem.Spec PyProof.Rows L2

/-! tuple(d), the keys of d tuples -/
section
variable {P : Program} {w : World} {A : Around} {E : Value → Shared → Prop} {s : Shared} {d : Addr} {o : Obj} {es : Array DictEntry} {ep : Nat}
abbrev keyAt (es : Array DictEntry) (i : Nat) (v : Value) : Prop := ∃ en : DictEntry, es[i]? = some en ∧ v = en.key
theorem collect_keys {Q : List Value → Shared → Prop} (hh : A.handled = none) (lo : (d == sysModules) = false) (hx : o.ExactDict) (hd : o.data = .dict es ep) (at_d : s.heap.get? d = some o) (few : es.size ≤ sizeLine)
    (out : ∀ (h' : Heap) (tk : Nat) (acc : Array Value), (∀ b ob, s.heap.get? b = some ob → h'.get? b = some ob) → ItemsOf (keyAt es) acc es.size → Q acc.toList { s with heap := h', toks := tk }) :
    wpAny (model P w) A (collect (.ref d)) Q E s := by
  unfold collect
  refine wpAny_bind (wpAny_runValue (codeAny_builtin F.entry_proto_collect ?_))
  rw [Around.under_plainId F.plain_proto_collect _]
  show wpAny _ A.in1 (newList [] >>= fun l => again (.builtin "list.__iadd__" ⟨[l, .ref d], []⟩)) _ _ s
  refine wpAny_bind (wpAny_newObj_type ?_)
  refine wpAny_pure ⟨plainId_quiet F.plain_list_iadd _, codeAny_builtin F.entry_list_iadd ?_⟩
  rw [Around.under_plainId F.plain_list_iadd _]
  show wpAny _ A.in1 (Builtin.List.listExtendWith (.ref s.heap.objs.size) (.ref d) (.ref s.heap.objs.size)) _ _ _
  have eS : (s.heap.push { cls := .type "list", data := .seq ([] : List Value).toArray }).get? s.heap.objs.size = some { cls := .type "list", dict := none, data := .seq #[] 0, slots := #[] } := Heap.get?_push_size _ rfl
  have nd : s.heap.objs.size ≠ d := Nat.ne_of_gt (Heap.lt_size at_d)
  refine wpAny_mono (PySem.W.kdl_extend (A := A) (R := fun rr s' => rr = .ok (.ret (.ref s.heap.objs.size)) ∧ ∃ (h' : Heap) (tk : Nat) (acc : Array Value) (c' : Nat), s' = { s with heap := h', toks := tk } ∧
      (∀ b ob, s.heap.get? b = some ob → h'.get? b = some ob) ∧ h'.get? s.heap.objs.size = some { cls := .type "list", dict := none, data := .seq acc c', slots := #[] } ∧ ItemsOf (keyAt es) acc es.size)
    (s := { s with heap := s.heap.push { cls := .type "list", data := .seq ([] : List Value).toArray } }) (kdl_raw lo hx hd) hh (Heap.get?_push_of_some _ at_d) _ nd nd _ 0 eS
    (fun h' tk acc c' hk e hi => ⟨rfl, h', tk, acc, c', rfl, fun b ob q => hk b ob (Nat.ne_of_lt (Heap.lt_size q)) (Heap.get?_push_of_some _ q), e, hi⟩) few) (fun fin s' h => ?_) (fun e s' h => ?_)
  · cases fin with
    | done f =>
      obtain ⟨e, h', tk, acc, c', rfl, hk, hS', hi⟩ := h
      cases e
      show wpAny _ A (load s.heap.objs.size >>= _) _ _ _
      exact wpAny_bind (wpAny_load hS' (wpAny_pure (out h' tk acc hk hi)))
    | again c' =>
      refine ⟨h.1, codeAny_mono h.2 fun rr s'' hr' => ?_⟩
      obtain ⟨rfl, h', tk, acc, c', rfl, hk, hS', hi⟩ := hr'
      show wpAny _ A (load s.heap.objs.size >>= _) _ _ _
      exact wpAny_bind (wpAny_load hS' (wpAny_pure (out h' tk acc hk hi)))
  · exact absurd h.1 (by simp)
theorem tuple_keys {Q : Value → Shared → Prop} (hh : A.handled = none) (lo : (d == sysModules) = false) (hx : o.ExactDict) (hd : o.data = .dict es ep) (at_d : s.heap.get? d = some o) (few : es.size ≤ sizeLine)
    (out : ∀ (h' : Heap) (tk : Nat) (acc : Array Value), (∀ b ob, s.heap.get? b = some ob → h'.get? b = some ob) → ItemsOf (keyAt es) acc es.size → Q (.ref h'.objs.size) { s with heap := h'.push { cls := .type "tuple", data := .seq acc }, toks := tk }) :
    wpAny (model P w) A (call (.type "tuple") [.ref d]) Q E s := by
  refine callType_codes (Q₁ := fun obj s₁ => s₁.TypeIs obj "tuple" ∧ Q obj s₁) F.called_tuple (F.typeCall_tuple_1 _) F.entry_object_init ?_ fun obj s₁ h₁ =>
    ⟨h₁.1, F.args_object_init_2 obj _, object_init_meets F.called_tuple.init.lookup F.called_tuple.made (by decide) P w A.in1 _ s₁ ⟨h₁.1, rfl, h₁.2⟩⟩
  refine codeAny_of_tree ?_
  show wpAny _ A.in1.in1 (do checkBuiltinCall "tuple.__new__" ⟨[.type "tuple", .ref d], []⟩; again (.builtin "tuple.__new__" ⟨[.type "tuple", .ref d], []⟩)) _ _ s
  refine wpAny_bind (wpAny_of_eq (F.newCall_tuple_1 _) (wpAny_pure ⟨plainId_quiet F.plain_tuple_new _, codeAny_builtin F.entry_tuple_new ?_⟩))
  rw [Around.under_plainId F.plain_tuple_new _]
  have hsub := sub_tuple_self
  have hinit := init_tuple_lookup
  have hmh := madeHere_tuple
  have hTI : s.TypeIs (.ref d) "dict" := ⟨_, at_d, hx.1⟩
  have hh1 : A.in1.in1.handled = none := hh
  wp_walk using wpAny_typeOf hTI, collect_keys (A := A.in1.in1) hh1 lo hx hd at_d few
  intro h' tk acc hk hacc
  show wpAny _ _ (Builtin.Tuple.tupleExact acc.toList.toArray >>= fun v => ret v) _ _ _
  unfold Builtin.Tuple.tupleExact
  refine wpAny_bind (wpAny_newObj_type ?_ (by show acc.toList.toArray.size ≤ sizeLine; simp only [Array.toArray_toList]; rw [hacc.1]; exact few))
  refine wpAny_pure ?_
  have e : acc.toList.toArray = acc := by simp
  rw [e]
  exact ⟨⟨_, Heap.get?_push_size _ rfl, rfl⟩, out h' tk acc hk hacc⟩
end
section
variable {X : Cx}
def rTupK : List V → Hp → VK → Prop := fun xs H Q => ∃ (d : Addr) (kvs : List (List Key × V)), xs = [V.ref d] ∧ Rd H d (.dT kvs) ∧ ∀ (p : Addr) (bs : List Addr), H p = none → IsKeys H kvs bs → Q (.ref p) (upd H p (.tup (bs.map V.ref)))
theorem cr_tupK (hc : X.calm = true) : CallR X (.type "tuple") rTupK := by
  intro pins s σ H xs us Q I r h
  obtain ⟨d, kvs, rfl, hd, q⟩ := h
  obtain ⟨u, rfl, rx⟩ := r.one
  cases rx
  obtain ⟨z, hs, ks, pr, o, es, ep, ho, hx, hdt, he, hn⟩ := (show ObjOk X.prog X.w H s.heap d (.dT kvs) from hd.ok I.hok)
  have l1 : es.size = ks.length := size_of_entries he
  have l2 : kvs.length = ks.length := Paired.length pr
  refine tuple_keys (I.ok.hd hc) hs hx hdt ho (by omega) fun h' tk acc kp it => ?_
  have eb : acc.toList = (ks.map fun x => x.2.1).map Value.ref := by
    have hl : acc.toList.length = ks.length := by rw [Array.length_toList, it.1]; exact l1
    apply List.ext_getElem?
    intro j
    rw [List.getElem?_map, List.getElem?_map]
    cases hj : acc.toList[j]? with
    | none =>
      have h1 := List.getElem?_eq_none_iff.mp hj
      rw [List.getElem?_eq_none (by omega)]
      rfl
    | some v =>
      obtain ⟨en, hen, hv⟩ := it.2 j v (by rw [← Array.getElem?_toList]; exact hj)
      have qe := entry_at he j
      rw [hen] at qe
      cases hb : ks[j]? with
      | none =>
        rw [hb] at qe
        exact nomatch (show some en = none from qe)
      | some b =>
        rw [hb] at qe
        have e2 : en = entryOfKey (tupleKind (mixKind X.prog X.w)) b := Option.some.inj qe
        rw [hv, e2]
        rfl
  have rv : Vals ((ks.map fun x => x.2.1).map V.ref) acc.toList := by rw [eb]; exact vals_refs _
  have hz : ((ks.map fun x => x.2.1).map V.ref).length ≤ sizeLine := by rw [List.length_map, List.length_map]; omega
  have I1 : Inv X pins σ H { s with heap := h', toks := tk } := I.kept kp
  have I2 : Inv X pins σ (upd H h'.objs.size (.tup ((ks.map fun x => x.2.1).map V.ref))) { s with heap := h'.push { cls := .type "tuple", data := .seq acc }, toks := tk } :=
    I1.laid (t' := tk) (fun b ob e => Heap.get?_push_of_some _ e) (Nat.le_refl _) ⟨hz, acc.toList, rv, by
      have z := IsTup.new h' acc
      simpa using z⟩
  exact ⟨.ref h'.objs.size, _, I2, rfl, q _ _ (I1.hok.fresh (Nat.le_refl _)) (isKeys_of pr)⟩
end
end Lr

namespace Lr
open PySem PySem.Spec PyProof.Rows L2

/-! two dicts whose keys are tuples: the same -/
section
variable {P : Program} {w : World} {A : Around} {E : Value → Shared → Prop} {s : Shared} {a b : Addr} {xa xb : List (List L2.Key × Addr × Value)}
theorem same_tups {nm : String} {Q : Bool → Shared → Prop} (hu : A.units < cLine) (ha : (a == sysModules) = false) (hb : (b == sysModules) = false) (da : s.heap.DictOfH (TK P w) a xa) (db : s.heap.DictOfH (TK P w) b xb) (hl : xa.length = xb.length)
    (all : ∀ x ∈ xa, ∃ (j : Nat) (p : Addr × Value), xb[j]? = some (x.1, p) ∧ SeqAt.EqAt A s x.2.2 p.2 true) (out : Q true s) : wpAny (model P w) A (Builtin.Dict.samePairs nm a b) Q E s := by
  obtain ⟨oa, es, ep, oa1, _, oa2, oa3, oa4, oa5⟩ := da
  obtain ⟨ob, es2, ep2, ob1, _, ob2, ob3, ob4, ob5⟩ := db
  have la : es.size = xa.length := size_of_entries oa3
  have lb : es2.size = xb.length := size_of_entries ob3
  unfold Builtin.Dict.samePairs Builtin.Dict.showsAll
  rw [if_neg (show ¬ (a == sysModules) = true by rw [ha]; exact Bool.false_ne_true), if_neg (show ¬ (b == sysModules) = true by rw [hb]; exact Bool.false_ne_true)]
  refine wpAny_bind (wpAny_pure (wpAny_bind (wpAny_pure (wpAny_bind (wpAny_dictEntries oa1 oa2 ?_)))))
  dsimp only
  refine wpAny_bind (wpAny_dictEntries ob1 ob2 ?_)
  rw [if_neg (by rw [la, lb, hl]; simp)]
  refine wpAny_bind (wpAny_dictEpoch oa1 oa2 (wpAny_bind ?_))
  rw [Std.Legacy.Range.forIn_eq_forIn_range']
  simp only [Std.Legacy.Range.size, Nat.sub_zero, Nat.add_sub_cancel, Nat.div_one]
  refine wpAny_forIn_list _ (fun rest q s' => s' = s ∧ q = (none, ()) ∧ ∃ i, rest = List.range' i (es.size - i) ∧ i ≤ es.size) _ ?_ ?_ _ _ ⟨rfl, rfl, 0, by simp, Nat.zero_le _⟩
  · rintro x rest q s' ⟨rfl, rfl, i, er, hi⟩
    have lt : i < es.size := by
      rcases Nat.lt_or_ge i es.size with h | h
      · exact h
      · rw [Nat.sub_eq_zero_of_le h] at er
        simp at er
    obtain ⟨rfl, er2⟩ : x = i ∧ rest = List.range' (i + 1) (es.size - (i + 1)) := by
      have e : es.size - i = (es.size - (i + 1)) + 1 := by omega
      rw [e, List.range'_succ] at er
      injection er with h1 h2
      exact ⟨h1, h2⟩
    refine wpAny_bind (wpAny_dictEntries oa1 oa2 ?_)
    have lt2 : x < xa.length := by omega
    have hx := List.getElem?_eq_getElem lt2
    have hin : xa[x] ∈ xa := List.getElem_mem lt2
    generalize xa[x] = y at hx hin
    have en := entry_at oa3 x
    rw [hx] at en
    rw [en]
    show wpAny _ _ (holding [(entryOfKey (TK P w) y).key, (entryOfKey (TK P w) y).val] _ >>= _) _ _ _
    obtain ⟨j, p, hj, eqv⟩ := all y hin
    refine wpAny_bind (wpAny_holding (wpAny_bind (wpAny_dictFind_heap (knd := TK P w) (k := y.1) (a := y.2.1) hu (oa4 y hin) ob1 ob2 ob3 ob4 ob5 (fun no => absurd hj (no j p)) fun j2 p2 hj2 => ?_)))
    have jj : p2 = p := by
      have u := idxH_unique ob5 hj2 hj
      rw [u, hj] at hj2
      injection hj2 with h2
      injection h2 with _ h2
      exact h2.symm
    subst jj
    refine wpAny_bind (wpAny_dictEntries ob1 ob2 ?_)
    have en2 := entry_at ob3 j2
    rw [hj2] at en2
    rw [en2]
    refine wpAny_holding (eqv P w _ _ ?_)
    show wpAny _ _ (if (!true) = true then _ else _) _ _ _
    rw [if_neg (by decide)]
    refine wpAny_bind (wpAny_dictEpoch oa1 oa2 ?_)
    rw [if_neg (by simp)]
    exact wpAny_pure ⟨rfl, rfl, x + 1, er2, lt⟩
  · rintro q s' ⟨rfl, rfl, i, er, hi⟩
    exact wpAny_pure out
theorem ne_tups {Q : Value → Shared → Prop} (hu : A.units + 1 < cLine) (ha : (a == sysModules) = false) (hb : (b == sysModules) = false) (da : s.heap.DictOfH (TK P w) a xa) (db : s.heap.DictOfH (TK P w) b xb) (hl : xa.length = xb.length)
    (all : ∀ x ∈ xa, ∃ (j : Nat) (p : Addr × Value), xb[j]? = some (x.1, p) ∧ SeqAt.EqAt A.in1 s x.2.2 p.2 true) (out : Q (.bool false) s) : wpAny (model P w) A (compareOp .NotEq (.ref a) (.ref b)) Q E s := by
  refine wpAny_richCompare_same_room (op := .NotEq) da.typeIs db.typeIs PySem.F.slot_dict_ne (wpAny_call_entry PySem.F.slot_dict_ne da.typeIs PySem.F.entry_dict_ne ?_ (PySem.F.args_dict_ne_2 _ _)) (by omega)
  show wpAny _ _ (Builtin.Dict.dictSlotArgs "__ne__" ⟨[.ref a, .ref b], []⟩ >>= _) _ _ s
  refine wpAny_bind ?_
  unfold Builtin.Dict.dictSlotArgs
  refine wpAny_bind (wpAny_notOrdered_dict da.typeIs ?_)
  show wpAny _ _ (pure (Value.ref a, Value.ref b)) _ _ s
  refine wpAny_pure (wpAny_bind (wpAny_isInstance (T := "dict") db.typeIs PySem.F.sub_dict_dict ?_))
  simp only [Bool.not_true, Bool.false_eq_true, if_false]
  refine wpAny_bind (wpAny_pure (wpAny_bind (wpAny_pure ?_)))
  refine wpAny_bind (same_tups (show A.units + 1 < cLine from hu) ha hb da db hl all ?_)
  refine wpAny_pure ⟨_, rfl, ?_, ?_⟩
  · exact fun x => nomatch x
  · simpa using out
end
section
variable {X : Cx}
def rNeT : R2 := fun x y H Q => ∃ (a b : Addr) (ks ls : List (List L2.Key × V)), x = .ref a ∧ y = .ref b ∧ H a = some (.dT ks) ∧ H b = some (.dT ls) ∧ ks.length = ls.length ∧ (∀ p ∈ ks, ∃ i : Int, p.2 = .int i ∧ (p.1, V.int i) ∈ ls) ∧ Q (.bl false) H
theorem op_neT (hu : X.A.units + 1 < cLine) : OpR X (compareOp .NotEq) rNeT := by
  intro pins s σ H x y v u Q I rx ry h
  obtain ⟨a, b, ks, ls, rfl, rfl, ea, eb, hl, all, q⟩ := h
  cases rx
  cases ry
  obtain ⟨za, na, xa, ra, da⟩ := dt_of I.hok ea
  obtain ⟨zb, nb, xb, rb, db⟩ := dt_of I.hok eb
  have la : ks.length = xa.length := Paired.length ra
  have lb : ls.length = xb.length := Paired.length rb
  refine ne_tups hu na nb da db (by omega) (fun x hx => ?_) ⟨.bl false, H, I, rfl, q⟩
  obtain ⟨i, hi⟩ := List.mem_iff_getElem?.mp hx
  have il := (List.getElem?_eq_some_iff.mp hi).1
  obtain ⟨p, hp, e1, e2, e3⟩ := paired_get2 ra hi
  obtain ⟨z, ez, hz⟩ := all p (List.mem_of_getElem? hp)
  obtain ⟨j, hj⟩ := List.mem_iff_getElem?.mp hz
  obtain ⟨y, hy, f1, f2, f3⟩ := L2.paired_get rb hj
  obtain ⟨k, c, v⟩ := x
  obtain ⟨k2, c2, v2⟩ := y
  have e1 : p.1 = k := e1
  have f1 : p.1 = k2 := f1
  have e3 : RelV p.2 v := e3
  have f3 : RelV (V.int z) v2 := f3
  rw [ez] at e3
  obtain ⟨t, rfl⟩ := e3
  obtain ⟨t2, rfl⟩ := f3
  have kk : k2 = k := f1.symm.trans e1
  subst kk
  refine ⟨j, (c2, .int z t2), hy, ?_⟩
  have h1 : SeqAt.EqAt X.A.in1 s (.int z t) (.int z t2) (z == z) := SeqAt.EqAt.int_int z t z t2
  rw [show (z == z) = true by simp] at h1
  exact h1
/-- {k1: v1, k2: v2}, the keys tuples -/
def tD2 (tk1 tv1 tk2 tv2 : TE) : TE := fun σ H Q => ∀ D, H D = none → tk1 σ (upd H D (.dT [])) fun y1 H1 => tv1 σ H1 fun z1 H2 => tk2 σ H2 fun y2 H3 => tv2 σ H3 fun z2 H4 => ∃ (q1 q2 : Addr) (c1 c2 : List L2.Key), y1 = .ref q1 ∧ H4 q1 = some (.tup (c1.map kV)) ∧ y2 = .ref q2 ∧ H4 q2 = some (.tup (c2.map kV)) ∧ H4 D = some (.dT []) ∧
  Q (.ref D) (upd H4 D (.dT (putK (putK [] c1 z1) c2 z2)))
theorem pe_d2 {k1 v1 k2 v2 : Expr} {pos : Pos} {tk1 tv1 tk2 tv2 : TE} (hu : X.A.units + 1 < cLine) (h1 : PE X k1 tk1) (g1 : PE X v1 tv1) (h2 : PE X k2 tk2) (g2 : PE X v2 tv2) : PE X (.Dict [some k1, some k2] [v1, v2] pos) (tD2 tk1 tv1 tk2 tv2) := by
  refine ⟨fun pins s σ H Q I h => ?_⟩
  refine wpAny_Dict_any rfl rfl (by simp) (show 2 ≤ 15 by decide) ?_
  generalize eD : s.heap.objs.size = D
  have nD : H D = none := I.hok.fresh (Nat.le_of_eq eD)
  have I1 : Inv X pins σ (upd H D (.dT [])) { s with heap := s.heap.push { cls := .type "dict", data := .dict #[] } } := by
    refine I.laid (t' := s.toks) (fun b o z => Heap.get?_push_of_some _ z) (Nat.le_of_eq eD) ?_
    rw [← eD]
    exact dt_empty s.heap I.big
  show wpAny _ _ (evalPairs [(eval k1 X.env, do let x ← eval v1 X.env; standAt pos; pure x), (eval k2 X.env, do let x ← eval v2 X.env; standAt pos; pure x)]) _ _ _
  unfold evalPairs
  refine wpAny_bind (thn (h1.run pins _ σ _ _ I1 (h D nD)) fun u1 s2 ⟨y1, H2, I2, r1, w1⟩ => ?_)
  refine wpAny_bind (wpAny_holding (wpAny_bind (thn (g1.run pins s2 σ H2 _ I2 w1) fun t1 s3 ⟨z1, H3, I3, r2, w2⟩ => wpAny_bind (wpAny_standAt (wpAny_pure ?_)))))
  refine wpAny_bind (wpAny_holding ?_)
  unfold evalPairs
  refine wpAny_bind (thn (h2.run pins _ σ _ _ I3 w2) fun u2 s4 ⟨y2, H4, I4, r3, w3⟩ => ?_)
  refine wpAny_bind (wpAny_holding (wpAny_bind (thn (g2.run pins s4 σ H4 _ I4 w3) fun t2 s5 ⟨z2, H5, I5, r4, q1, q2, c1, c2, e1, a1, e2, a2, eD5, want⟩ => wpAny_bind (wpAny_standAt (wpAny_pure ?_)))))
  refine wpAny_bind (wpAny_holding ?_)
  unfold evalPairs
  refine wpAny_pure (wpAny_pure (wpAny_pure ?_))
  subst e1 e2
  cases r1
  cases r3
  unfold storeAll
  simp only [List.forIn_cons, List.forIn_nil]
  refine wpAny_bind (wpAny_bind (dct_put hu I5 eD5 a1 r2 (by rw [sizeLine_eq]; show 0 < 16777216; decide) fun s6 I6 => wpAny_pure ?_))
  dsimp only
  have ne2 : q2 ≠ D := fun z => by
    rw [z, eD5] at a2
    cases a2
  refine wpAny_bind (wpAny_bind (dct_put hu I6 upd_same (by rw [upd_ne ne2]; exact a2) r4 (by have z := length_putK ([] : List (List L2.Key × V)) c1 z1; rw [sizeLine_eq]; rw [List.length_nil] at z; omega) fun s7 I7 => wpAny_pure ?_))
  dsimp only
  refine wpAny_pure ?_
  rw [upd_upd] at I7
  exact ⟨.ref D, _, I7, rfl, want⟩
end
end Lr

namespace Lr
open PySem PySem.Spec PyProof.Rows L2

/-! what the law's own numbers are -/
mutual
theorem der_mono2 {mv mv' : Mvs} (h : ∀ k cs c, (k, cs) ∈ mv → c ∈ cs → ∃ cs', (k, cs') ∈ mv' ∧ c ∈ cs') : ∀ {k : Int × Str} {q w : Int}, Der mv k q w → Der mv' k q w
  | _, _, _, .mk a hc t => by
    obtain ⟨cs', m, hc'⟩ := h _ _ _ a hc
    exact .mk m hc' (way_mono2 h t)
theorem way_mono2 {mv mv' : Mvs} (h : ∀ k cs c, (k, cs) ∈ mv → c ∈ cs → ∃ cs', (k, cs') ∈ mv' ∧ c ∈ cs') : ∀ {s : Int} {ws : List Str} {q w : Int}, WayD mv s ws q w → WayD mv' s ws q w
  | _, _, _, _, .nil => .nil
  | _, _, _, _, .cons a t => .cons (der_mono2 h a) (way_mono2 h t)
end
/-- the ways on as the law holds them -/
abbrev lmN (N : Nt) (fl : List Int) : Mvs := lmv N fl (hdsL (("" : Str) :: N.labels) N.roads.length)
theorem lmN_mem {N : Nt} {fl : List Int} {m : (Int × Str) × List Chc} : m ∈ lmN N fl ↔ m.1 ∈ hdsL (("" : Str) :: N.labels) N.roads.length ∧ m.2 = firstN N.rows fl m.1 := by
  unfold lmN lmv
  rw [List.mem_map]
  constructor
  · rintro ⟨h, hh, rfl⟩
    exact ⟨hh, rfl⟩
  · rintro ⟨h1, h2⟩
    exact ⟨m.1, h1, Prod.ext rfl h2.symm⟩
theorem lmN_nd {N : Nt} (ok : NtOk N) (fl : List Int) : ((lmN N fl).map (·.1)).Nodup := by
  rw [lmv_keys]
  exact hdsL_nd (ys_nd ok (List.Perm.refl _)) _
theorem der_lm {N : Nt} {fl : List Int} {k : Int × Str} {q w : Int} : Der (lmN N fl) k q w ↔ Der (mvN N fl) k q w := by
  constructor
  · refine der_mono2 fun k cs c h hc => ?_
    obtain ⟨h1, h2⟩ := lmN_mem.mp h
    have h2 : cs = firstN N.rows fl k := h2
    rw [h2] at hc
    exact ⟨moves N.rows fl k, mvOf_mem.mpr ⟨h1, rfl⟩, firstN_mem.mp hc⟩
  · refine der_mono2 fun k cs c h hc => ?_
    obtain ⟨h1, h2⟩ := mvOf_mem.mp h
    have h2 : cs = moves N.rows fl k := h2
    rw [h2] at hc
    exact ⟨firstN N.rows fl k, lmN_mem.mpr ⟨h1, rfl⟩, firstN_mem.mpr hc⟩
theorem lm_ok {N : Nt} (ok : NtOk N) {fl : List Int} {m : (Int × Str) × List Chc} (h : m ∈ lmN N fl) : m.2.length ≤ 3 ∧ ∀ c ∈ m.2, ChOk N.roads N.labels m.1.1 c := by
  obtain ⟨h1, h2⟩ := lmN_mem.mp h
  refine ⟨?_, fun c hc => ?_⟩
  · have z := moves_len ok (fl := fl) (h := m.1)
    rw [h2]
    have e : (firstN N.rows fl m.1).length = (moves N.rows fl m.1).length := by
      unfold firstN moves
      cases e : N.rows.find? (fun r => decide (r.1 = m.1)) with
      | none => rfl
      | some q =>
        obtain ⟨a, b⟩ := q
        cases b with
        | none => rfl
        | some gs =>
          show (firstGo fl gs).length = (movesGo fl gs).length
          rw [firstGo_moves, List.length_mergeSort]
    omega
  · rw [h2] at hc
    exact moves_ok ok (firstN_mem.mp hc)
theorem lm_tot {N : Nt} {fl : List Int} {s : Int} {y : Str} (s0 : 0 ≤ s) (s1 : s < (N.roads.length : Int)) (hy : y ∈ N.labels) : ∃ cs, ((s, y), cs) ∈ lmN N fl :=
  ⟨firstN N.rows fl (s, y), lmN_mem.mpr ⟨hdsL_mem.mpr ⟨s0, s1, List.mem_cons_of_mem _ hy⟩, rfl⟩⟩
theorem lm_nl {N : Nt} (ok : NtOk N) {fl : List Int} : ∀ m ∈ lmN N fl, ∀ c ∈ m.2, ("" : Str) ∉ c.2 := fun m hm c hc z => by
  have h := ((lm_ok ok hm).2 c hc).2.2.2.2 _ z
  exact lay_no_end (ok.lw _ h) rfl
abbrev msN (N : Nt) (fl : List Int) : Mvs := (lmN N fl).filter fun m => !decide (m.1.2 = ("" : Str))
/-- the law's lots when they stand still -/
structure LotsOk (N : Nt) (fl : List Int) (lt : Lots) : Prop where
  inv : LInv N.roads.length ((msN N fl).map (·.1)) (lmN N fl) lt
  cl : ClosedL (msN N fl) lt
theorem LotsOk.mem {N : Nt} {fl : List Int} {lt : Lots} (h : LotsOk N fl lt) {k : Int × Str} {x : Int} : x ∈ lookL lt k ↔ ∃ w, Der (lmN N fl) k x w := by
  constructor
  · exact h.inv.sound k x
  · rintro ⟨w, d⟩
    refine derL_in h.cl (fun m hm ne => List.mem_filter.mpr ⟨hm, ?_⟩) d
    rw [decide_eq_false ne]
    rfl
theorem LotsOk.nd {N : Nt} (ok : NtOk N) {fl : List Int} {lt : Lots} (h : LotsOk N fl lt) : (lt.map (·.1)).Nodup := by
  rw [h.inv.keys]
  exact (lmN_nd ok fl).sublist (List.filter_sublist.map _)
theorem LotsOk.key {N : Nt} {fl : List Int} {lt : Lots} (h : LotsOk N fl lt) {k : Int × Str} (hk : k ∈ lt.map (·.1)) : 0 ≤ k.1 ∧ k.1 < (N.roads.length : Int) ∧ k.2 ∈ N.labels ∧ k.2 ≠ "" := by
  rw [h.inv.keys] at hk
  obtain ⟨m, hm, rfl⟩ := List.mem_map.mp hk
  obtain ⟨h1, h2⟩ := List.mem_filter.mp hm
  obtain ⟨a, b, c⟩ := hdsL_mem.mp (lmN_mem.mp h1).1
  have ne : m.1.2 ≠ "" := fun z => by
    rw [decide_eq_true z] at h2
    cases h2
  exact ⟨a, b, (List.mem_cons.mp c).resolve_left ne, ne⟩
def dueL (lt : Lots) : List Tri := (lt.map fun e => e.2.map fun x => (e.1, x)).flatten
theorem dueL_snoc (lt : Lots) (e : (Int × Str) × List Int) : dueL (lt ++ [e]) = dueL lt ++ e.2.map fun x => (e.1, x) := by
  unfold dueL
  rw [List.map_append, List.flatten_append]
  simp
theorem dueL_mem {lt : Lots} (nd : (lt.map (·.1)).Nodup) {t : Tri} : t ∈ dueL lt ↔ t.2 ∈ lookL lt t.1 := by
  unfold dueL
  rw [List.mem_flatten]
  constructor
  · rintro ⟨l, hl, ht⟩
    obtain ⟨e, he, rfl⟩ := List.mem_map.mp hl
    obtain ⟨q, hq, rfl⟩ := List.mem_map.mp ht
    rw [lookL_mem nd he]
    exact hq
  · intro h
    have ex : ∃ e ∈ lt, e.1 = t.1 := by
      unfold lookL at h
      cases e : lt.find? fun e => decide (e.1 = t.1) with
      | none =>
        rw [e] at h
        cases h
      | some x =>
        have z := List.find?_some e
        exact ⟨x, List.mem_of_find?_eq_some e, of_decide_eq_true z⟩
    obtain ⟨e, he, e1⟩ := ex
    refine ⟨_, List.mem_map.mpr ⟨e, he, rfl⟩, List.mem_map.mpr ⟨t.2, ?_, ?_⟩⟩
    · rw [← lookL_mem nd he, e1]
      exact h
    · rw [e1]
theorem dueL_nd : ∀ {lt : Lots}, (lt.map (·.1)).Nodup → (∀ e ∈ lt, e.2.Nodup) → (dueL lt).Nodup
  | [], _, _ => List.nodup_nil
  | e :: lt, nd, h => by
    have nd0 := nd
    rw [List.map_cons, List.nodup_cons] at nd
    show (e.2.map (fun x => (e.1, x)) ++ dueL lt).Nodup
    rw [List.nodup_append]
    refine ⟨?_, dueL_nd nd.2 fun x hx => h x (List.mem_cons_of_mem _ hx), fun a ha b hb z => ?_⟩
    · have z := h e List.mem_cons_self
      rw [List.nodup_iff_pairwise_ne] at z
      rw [List.nodup_iff_pairwise_ne, List.pairwise_map]
      exact z.imp fun ne q => ne (by injection q)
    · obtain ⟨q, hq, rfl⟩ := List.mem_map.mp ha
      unfold dueL at hb
      obtain ⟨l, hl, ht⟩ := List.mem_flatten.mp hb
      obtain ⟨e2, he2, rfl⟩ := List.mem_map.mp hl
      obtain ⟨q2, hq2, rfl⟩ := List.mem_map.mp ht
      injection z with z _
      exact nd.1 (List.mem_map.mpr ⟨e2, he2, z.symm⟩)
theorem LotsOk.pops {N : Nt} (ok : NtOk N) {fl : List Int} {lt : Lots} (h : LotsOk N fl lt) : IsPops N fl ((dueL lt).mergeSort leT) := by
  refine ⟨sort_sorted _, (List.mergeSort_perm _ _).nodup_iff.mpr (dueL_nd (h.nd ok) fun e he => (h.inv.ok e he).1), fun t => ?_⟩
  rw [List.mem_mergeSort, dueL_mem (h.nd ok), h.mem]
  exact ⟨fun ⟨w, d⟩ => ⟨w, der_lm.mp d⟩, fun ⟨w, d⟩ => ⟨w, der_lm.mpr d⟩⟩
theorem dueL_len {n : Nat} : ∀ {lt : Lots}, LtOk n lt → (dueL lt).length ≤ lt.length * n
  | [], _ => Nat.zero_le _
  | e :: lt, h => by
    have a := dueL_len fun x hx => h x (List.mem_cons_of_mem _ hx)
    have b := (h e List.mem_cons_self).len
    show (e.2.map (fun x => (e.1, x)) ++ dueL lt).length ≤ (lt.length + 1) * n
    rw [List.length_append, List.length_map, Nat.succ_mul]
    omega
/-- the least steps of a pop, beside what the search shows -/
theorem shown_val {N : Nt} (ok : NtOk N) {fl : List Int} {k : Int × Str} (ne : k.2 ≠ "") {sm : Row} (sh : Shown (lmN N fl) k.1 k.2 sm) {q W : Int} (d : Der (mvN N fl) k q W) (lst : ∀ w', Der (mvN N fl) k q w' → W ≤ w') :
    (getR sm q).getD (if W > 7 then W else 7) = W := by
  obtain ⟨i, l⟩ := k
  obtain ⟨n, e, rn⟩ := (der_iff (lm_nl ok) ne).mp (der_lm.mpr d)
  have mn : ∀ m', m' < n → ¬ Run (lmN N fl) m' i [l] q [] := fun m' lt r => by
    have z := lst (m' : Int) (der_lm.mp ((der_iff (lm_nl ok) ne).mpr ⟨m', rfl, r⟩))
    omega
  by_cases c : n ≤ 6
  · have g := (sh q W).mpr ⟨n, e, c, rn, mn⟩
    rw [g]
    rfl
  · have g : getR sm q = none := by
      cases z : getR sm q with
      | none => rfl
      | some v =>
        obtain ⟨m, e1, hm, r1, _⟩ := (sh q v).mp z
        exact absurd r1 (mn m (by omega))
    rw [g]
    show (if W > 7 then W else 7) = W
    split <;> omega
theorem shown_in {N : Nt} (ok : NtOk N) {fl : List Int} {lt : Lots} (h : LotsOk N fl lt) {k : Int × Str} (ne : k.2 ≠ "") {sm : Row} (sh : Shown (lmN N fl) k.1 k.2 sm) {p : Int × Int} (hp : p ∈ sm) : p.1 ∈ lookL lt k := by
  obtain ⟨i, l⟩ := k
  have ex : ∃ v, getR sm p.1 = some v := by
    have z := any_get p.1 sm
    cases e : getR sm p.1 with
    | some v => exact ⟨v, rfl⟩
    | none =>
      rw [e] at z
      have y : (sm.any fun q => decide (q.1 = p.1)) = true := List.any_eq_true.mpr ⟨p, hp, decide_eq_true rfl⟩
      rw [y] at z
      cases z
  obtain ⟨v, hv⟩ := ex
  obtain ⟨m, _, _, r1, _⟩ := (sh p.1 v).mp hv
  exact h.mem.mpr ⟨(m : Int), (der_iff (lm_nl ok) ne).mpr ⟨m, rfl, r1⟩⟩
end Lr

namespace Lr
open PySem PySem.Spec PyProof.Rows L2

/-! the net by hand -/
def nH : Nt := ⟨[(0, 0), (0, 1)], ["a", "b"], [((0, "a"), some [[(0, ["b", "b"])]]), ((0, "b"), some [[(1, [])], [(0, [])]])]⟩
theorem nH_ok : NtOk nH := by
  refine ⟨by decide, by decide, by decide, by decide, by decide, by decide +kernel, by decide +kernel, by decide, fun r hr => ?_, fun i a b ha hb => ?_⟩
  · have c1 : ChOk nH.roads nH.labels 0 (0, ["b", "b"]) := ⟨by decide, by decide, by decide, by decide, by decide +kernel⟩
    have c2 : ChOk nH.roads nH.labels 0 (1, []) := ⟨by decide, by decide, by decide, by decide, fun _ h => nomatch h⟩
    have c3 : ChOk nH.roads nH.labels 0 (0, []) := ⟨by decide, by decide, by decide, by decide, fun _ h => nomatch h⟩
    have g : ∀ c, ChOk nH.roads nH.labels 0 c → GrOk nH.roads nH.labels 0 [c] := fun c h => ⟨(show 1 ≤ 1 by decide), (show 1 ≤ 3 by decide), fun x hx => by rw [List.mem_singleton.mp hx]; exact h, List.nodup_cons.mpr ⟨List.not_mem_nil, List.nodup_nil⟩⟩
    rcases List.mem_cons.mp hr with rfl | hr
    · refine ⟨by decide, by decide, .inr (by decide +kernel), (show 1 ≤ 1 by decide), (show 1 ≤ 3 by decide), fun x hx => ?_⟩
      rw [List.mem_singleton.mp hx]
      exact g _ c1
    · rw [List.mem_singleton.mp hr]
      refine ⟨by decide, by decide, .inr (by decide +kernel), (show 1 ≤ 2 by decide), (show 2 ≤ 3 by decide), fun x hx => ?_⟩
      rcases List.mem_cons.mp hx with rfl | hx
      · exact g _ c2
      · rw [List.mem_singleton.mp hx]
        exact g _ c3
  · match i, ha, hb with
    | 0, ha, hb =>
      cases ha
      cases hb
      decide +kernel
    | i + 1, ha, hb => exact absurd hb (by simp [nH])
theorem lmH_ok {N : Nt} (ok : NtOk N) {fl : List Int} : MvOk N.roads.length (lmN N fl) := fun m hm => by
  refine ⟨?_, fun c hc => ?_⟩
  · have hy := (hdsL_mem.mp (lmN_mem.mp hm).1).2.2
    rcases List.mem_cons.mp hy with e | hy
    · rw [e]
      decide +kernel
    · exact lay_len _ (ok.lw _ hy)
  · obtain ⟨a, b, _, d, _⟩ := (lm_ok ok hm).2 c hc
    exact ⟨a, b, by omega⟩
/-- pops by a saturated table of the law's own ways -/
theorem lm_least {N : Nt} (ok : NtOk N) {fl : List Int} {m : Nat} (en : Ends (lmN N fl) m []) (k : Int × Str) (q w : Int) : (q, w) ∈ lookQ (satQ (lmN N fl) m []) k ↔ Der (mvN N fl) k q w ∧ ∀ w', Der (mvN N fl) k q w' → w ≤ w' := by
  rw [sat_rows (lmH_ok ok) en]
  exact ⟨fun h => ⟨der_lm.mp h.1, fun w' d => h.2 w' (der_lm.mpr d)⟩, fun h => ⟨der_lm.mpr h.1, fun w' d => h.2 w' (der_lm.mp d)⟩⟩
theorem lm_tris {N : Nt} (ok : NtOk N) {fl : List Int} {m : Nat} (en : Ends (lmN N fl) m []) (t : Tri) : (∃ w, Der (mvN N fl) t.1 t.2 w) ↔ t ∈ trisQ (satQ (lmN N fl) m []) := by
  have mo := lmH_ok ok (fl := fl)
  obtain ⟨so, qok⟩ := sat_sound mo m [] (QOk.nil _ _) (fun k q w h => nomatch h)
  have cl := sat_closed _ m [] en
  rw [tris_mem qok.nd]
  constructor
  · rintro ⟨w, hw⟩
    obtain ⟨v, _, hv⟩ := der_in cl mo qok (der_lm.mpr hw)
    exact ⟨v, hv⟩
  · rintro ⟨w, hw⟩
    exact ⟨w, der_lm.mp (so _ _ _ hw)⟩
theorem lm_pops {N : Nt} (ok : NtOk N) {fl : List Int} {m : Nat} (en : Ends (lmN N fl) m []) {ts us : List Tri} (e : trisQ (satQ (lmN N fl) m []) = us) (h : IsPops N fl ts) (so : us.Pairwise fun a b => leT a b = true) (nd : us.Nodup) : ts = us := by
  refine sorted_one h.1 so h.2.1 nd fun t => ?_
  rw [h.2.2, lm_tris ok en, e]
theorem sat1 : satQ (lmN nH []) 3 [] = ([((0, "a"), []), ((0, "b"), [(1, 1)])] : PT) := by decide +kernel
theorem sat2 : satQ (lmN nH [1]) 3 [] = ([((0, "a"), [(0, 3)]), ((0, "b"), [(0, 1)])] : PT) := by decide +kernel
theorem sat3 : satQ (lmN nH [0, 1]) 3 [] = ([] : PT) := by decide +kernel
theorem en1 : Ends (lmN nH []) 3 [] := by
  have h : (roundQ (lmN nH []) ([], false)).2 = false ∨ (roundQ (lmN nH []) ((roundQ (lmN nH []) ([], false)).1, false)).2 = false := by decide +kernel
  exact h.elim .inl fun h => .inr (.inl h)
theorem en2 : Ends (lmN nH [1]) 3 [] := by
  have h : (roundQ (lmN nH [1]) ([], false)).2 = false ∨ (roundQ (lmN nH [1]) ((roundQ (lmN nH [1]) ([], false)).1, false)).2 = false ∨ (roundQ (lmN nH [1]) ((roundQ (lmN nH [1]) ((roundQ (lmN nH [1]) ([], false)).1, false)).1, false)).2 = false := by decide +kernel
  exact h.elim .inl fun h => .inr (h.elim .inl fun h => .inr (.inl h))
theorem en3 : Ends (lmN nH [0, 1]) 3 [] := by
  have h : (roundQ (lmN nH [0, 1]) ([], false)).2 = false := by decide +kernel
  exact .inl h
theorem hand1 {ts : List Tri} (h : IsPops nH [] ts) : ts = ([((0, "b"), 1)] : List Tri) := lm_pops nH_ok en1 (by rw [sat1]; rfl) h (List.pairwise_singleton _ _) (List.nodup_cons.mpr ⟨List.not_mem_nil, List.nodup_nil⟩)
theorem hand3 {ts : List Tri} (h : IsPops nH [0, 1] ts) : ts = [] := lm_pops nH_ok en3 (by rw [sat3]; rfl) h .nil List.nodup_nil
theorem hand2 {es : List St} (h : IsSteps nH [1] es) : es = ([(((0, "a"), 0), 3), (((0, "b"), 0), 1)] : List St) := by
  have e1 : es.map (·.1) = ([((0, "a"), 0), ((0, "b"), 0)] : List Tri) := lm_pops nH_ok en2 (by rw [sat2]; rfl) h.1 (List.pairwise_cons.mpr ⟨fun x hx => by rw [List.mem_singleton.mp hx]; decide +kernel, List.pairwise_singleton _ _⟩) (by decide +kernel)
  have val : ∀ e ∈ es, ∀ v, getR (lookQ (satQ (lmN nH [1]) 3 []) e.1.1) e.1.2 = some v → e.2 = v := fun e he v hv => by
    have m := (lm_least nH_ok en2 e.1.1 e.1.2 e.2).mpr (h.2 e he)
    obtain ⟨_, qok⟩ := sat_sound (lmH_ok nH_ok (fl := [1])) 3 [] (QOk.nil _ _) (fun k q w h => nomatch h)
    have g := get_mem (lookQ_ok qok e.1.1).nd m
    have g : getR (lookQ (satQ (lmN nH [1]) 3 []) e.1.1) e.1.2 = some e.2 := g
    rw [g] at hv
    injection hv
  match es, e1, val with
  | [a, b], e1, val =>
    injection e1 with h1 h2
    injection h2 with h2 _
    obtain ⟨ta, wa⟩ := a
    obtain ⟨tb, wb⟩ := b
    have h1 : ta = (((0, "a"), 0) : Tri) := h1
    have h2 : tb = (((0, "b"), 0) : Tri) := h2
    subst h1 h2
    have v1 := val _ List.mem_cons_self 3 (by rw [sat2]; exact (by decide +kernel : getR (lookQ ([((0, "a"), [(0, 3)]), ((0, "b"), [(0, 1)])] : PT) ((0 : Int), ("a" : Str))) 0 = some 3))
    have v2 := val _ (List.mem_cons_of_mem _ List.mem_cons_self) 1 (by rw [sat2]; exact (by decide +kernel : getR (lookQ ([((0, "a"), [(0, 3)]), ((0, "b"), [(0, 1)])] : PT) ((0 : Int), ("b" : Str))) 0 = some 1))
    have v1 : wa = 3 := v1
    have v2 : wb = 1 := v2
    rw [v1, v2]
  | [], e1, _ => cases e1
  | [_], e1, _ =>
    injection e1 with _ e1
    cases e1
  | _ :: _ :: _ :: _, e1, _ =>
    injection e1 with _ e1
    injection e1 with _ e1
    cases e1
end Lr

namespace Lr
open PySem PySem.Spec PyProof.Rows L2

/-! triples as data: short, alike -/
abbrev Shows (d : PyData) : Prop := d.showable = true ∧ d.shown.length ≤ sizeLine ∧ d.depth ≤ 60
def T3 (t : Tri) : Prop := 0 ≤ t.1.1 ∧ t.1.1 < 10 ∧ t.1.2 ∈ L5 ∧ 0 ≤ t.2 ∧ t.2 < 10
theorem tri_leaf {t : Tri} (h : T3 t) : (triD t).showable = true ∧ (triD t).leavesShort 13 = true ∧ (triD t).weight ≤ 100 ∧ SeqAt.shaped (triD t) = true := by
  have z : ((List.range 10).all fun i => L5.all fun y => (List.range 10).all fun x => (triD (((i : Int), y), (x : Int))).showable && ((triD (((i : Int), y), (x : Int))).leavesShort 13 && (decide ((triD (((i : Int), y), (x : Int))).weight ≤ 100) && SeqAt.shaped (triD (((i : Int), y), (x : Int)))))) = true := by decide +kernel
  obtain ⟨⟨i, y⟩, x⟩ := t
  obtain ⟨a, b, c, d, e⟩ := h
  have a : 0 ≤ i := a
  have b : i < 10 := b
  have d : 0 ≤ x := d
  have e : x < 10 := e
  have z1 := List.all_eq_true.mp z i.toNat (List.mem_range.mpr (by omega))
  have z2 := List.all_eq_true.mp z1 y c
  have z3 := List.all_eq_true.mp z2 x.toNat (List.mem_range.mpr (by omega))
  rw [Int.toNat_of_nonneg a, Int.toNat_of_nonneg d, Bool.and_eq_true, Bool.and_eq_true, Bool.and_eq_true, decide_eq_true_eq] at z3
  exact ⟨z3.1, z3.2.1, z3.2.2.1, z3.2.2.2⟩
theorem tris_leaf : ∀ {ts : List Tri}, (∀ t ∈ ts, T3 t) → PyData.showableAll (ts.map triD) = true ∧ PyData.leavesShortAll 13 (ts.map triD) = true ∧ PyData.weightAll (ts.map triD) ≤ 101 * ts.length ∧ PyData.depthAll (ts.map triD) ≤ 1 ∧ PyData.canLayAll0 (ts.map triD) = true
  | [], _ => ⟨rfl, rfl, Nat.le_refl _, Nat.zero_le _, rfl⟩
  | t :: ts, h => by
    obtain ⟨a, b, c, d, e⟩ := tris_leaf (ts := ts) fun y hy => h y (List.mem_cons_of_mem _ hy)
    obtain ⟨a1, b1, c1, s1⟩ := tri_leaf (h t List.mem_cons_self)
    unfold SeqAt.shaped at s1
    rw [Bool.and_eq_true] at s1
    refine ⟨?_, ?_, ?_, ?_, ?_⟩
    · show ((triD t).showable && PyData.showableAll (ts.map triD)) = true
      rw [a, a1]
      rfl
    · show ((triD t).leavesShort 13 && PyData.leavesShortAll 13 (ts.map triD)) = true
      rw [b, b1]
      rfl
    · show (triD t).weight + 1 + PyData.weightAll (ts.map triD) ≤ _
      rw [List.length_cons, Nat.mul_add]
      omega
    · show max 1 (PyData.depthAll (ts.map triD)) ≤ 1
      omega
    · show ((triD t).canLay0 && PyData.canLayAll0 (ts.map triD)) = true
      rw [e]
      have z := s1.1
      rw [z]
      rfl
theorem two_shows {ts : List Tri} (h : ∀ t ∈ ts, T3 t) (l : ts.length ≤ 2000) : Shows (.list [.tuple (ts.map triD), .tuple (ts.map triD)]) := by
  obtain ⟨a, b, c, d, _⟩ := tris_leaf h
  refine ⟨?_, PyData.shown_fits (B := 13) (by decide) (by decide) ?_ ?_, ?_⟩
  · show (PyData.showableAll (ts.map triD) && (PyData.showableAll (ts.map triD) && true)) = true
    rw [a]
    rfl
  · show (PyData.leavesShortAll 13 (ts.map triD) && (PyData.leavesShortAll 13 (ts.map triD) && true)) = true
    rw [b]
    rfl
  · show PyData.weightAll (ts.map triD) + 1 + (PyData.weightAll (ts.map triD) + 1 + 0) ≤ 2 ^ 20
    omega
  · show max (PyData.depthAll (ts.map triD) + 1) (max (PyData.depthAll (ts.map triD) + 1) 0) + 1 ≤ 60
    omega
theorem shaped_tris {ts : List Tri} (h : ∀ t ∈ ts, T3 t) : SeqAt.shaped (.tuple (ts.map triD)) = true := by
  obtain ⟨_, _, _, d, e⟩ := tris_leaf h
  unfold SeqAt.shaped
  rw [Bool.and_eq_true, decide_eq_true_eq]
  refine ⟨e, ?_⟩
  show PyData.depthAll (ts.map triD) + 1 ≤ 64
  omega
theorem eqv_tri (t : Tri) : PyData.eqv (triD t) (triD t) = true := by
  show ((t.1.1 == t.1.1) && ((t.1.2 == t.1.2) && ((t.2 == t.2) && true))) = true
  simp
theorem eqv_tris : ∀ ts : List Tri, PyData.eqv (.tuple (ts.map triD)) (.tuple (ts.map triD)) = true
  | [] => rfl
  | t :: ts => by
    show (PyData.eqv (triD t) (triD t) && PyData.eqv (.tuple (ts.map triD)) (.tuple (ts.map triD))) = true
    rw [eqv_tri, eqv_tris ts]
    rfl
mutual
theorem da_dp {K : PySem.W.Frag} {H : Hp} : ∀ (d : PyData) (v : V), Dp K H v d → Da K H false v d
  | .none, _, h => by cases h; exact .non
  | .bool b, _, h => by cases h; exact .bl b
  | .int i, _, h => by cases h; exact .int i
  | .str x, _, h => by cases h; exact .str x
  | .list ds, _, h => by
    cases h with
    | lst hs ha => exact .lst hs (da_dpAll _ _ ha) (fun z => nomatch z)
  | .tuple ds, _, h => by
    cases h with
    | tup hs ha => exact .tup hs (da_dpAll _ _ ha)
  | .dict _, _, h => nomatch h
theorem da_dpAll {K : PySem.W.Frag} {H : Hp} : ∀ (ds : List PyData) (vs : List V), DpAll K H vs ds → DaAll K H false vs ds
  | [], _, h => by cases h; exact .nil
  | d :: ds, _, h => by
    cases h with
    | cons h t => exact .cons (da_dp d _ h) (da_dpAll ds _ t)
end
theorem pops_t3 {N : Nt} (ok : NtOk N) {fl : List Int} {lt : Lots} (h : LotsOk N fl lt) {ts : List Tri} (hp : IsPops N fl ts) : ∀ t ∈ ts, T3 t := fun t ht => by
  obtain ⟨w, d⟩ := (hp.2.2 t).mp ht
  have m := h.mem.mpr ⟨w, der_lm.mpr d⟩
  have r := look_rok h.inv.ok t.1
  have rt := r.2 _ m
  have kin : t.1 ∈ lt.map (·.1) := by
    apply Classical.byContradiction
    intro n
    have z : lookL lt t.1 = [] := by
      unfold lookL
      cases e : lt.find? fun e => decide (e.1 = t.1) with
      | none => rfl
      | some x =>
        have y := List.find?_some e
        exact absurd (List.mem_map.mpr ⟨x, List.mem_of_find?_eq_some e, of_decide_eq_true y⟩) n
    rw [z] at m
    cases m
  obtain ⟨a, b, c, _⟩ := h.key kin
  have n10 := ok.r2
  exact ⟨a, by omega, ok.lw _ c, rt.1, by omega⟩
end Lr

namespace Lr
open PySem PySem.Spec PyProof.Rows L2

theorem asc_len2 : ∀ {fl : List Int} {n : Nat}, fl.Pairwise (· < ·) → (∀ z ∈ fl, 0 ≤ z ∧ z < (n : Int)) → fl.length ≤ n := fun {fl n} hp hb => by
  have z := nat_nodup_len (fl.map Int.toNat) (List.range n) (by
    rw [List.nodup_iff_pairwise_ne, List.pairwise_map]
    refine List.Pairwise.imp_of_mem (fun {x y} hx hy lt => ?_) hp
    have a := hb x hx
    have b := hb y hy
    omega) (fun x hx => by
    obtain ⟨y, hy, rfl⟩ := List.mem_map.mp hx
    have a := hb y hy
    exact List.mem_range.mpr (by omega))
  simpa using z
def spLFa (K : PySem.W.Frag) : Sp := fun vs H Q _ => ∃ (m c g : Addr) (x : V) (n M : Nat) (N : Nt), vs = [.ref m, x, .int (M : Nat)] ∧ Ms H m c g n ∧ n + 50 < 100000 ∧ M ≤ 5 ∧ Dp K H x (dNt N) ∧ 1 ≤ N.roads.length ∧ N.roads.length ≤ 10 ∧
  ∀ (fl : List Int) (H' : Hp) (p : Addr) (n' : Nat), FlOk fl N.roads.length → Kp H H' m g → Ms H' m c g n' → n' ≤ n + 10 → H' p = some (.tup (fl.map V.int)) → Q (.ref p) H'
section
variable {P : Program} {w : World} {K : PySem.W.Frag} {mg : Str → Option Value} {base : Heap}
theorem scLFa : FnScope ["m", "net", "most", "k"] ["m", "net", "most"] (defScope sLFa) := ⟨rfl, rfl, rfl, by decide +kernel, rfl, by decide +kernel, by decide +kernel⟩
theorem ok_LFa {f : Addr} {fd : FuncData} {fDr : Addr} {fdDr : FuncData} (F : Fun K "_law_failed" "_law_failed" sLFa f fd) (T : Bt mg) (CDr : Cal K mg "_law_draw" fDr fdDr ["m", "limit"]) (GDr : FnOk P w K mg base CX0 2 fDr fdDr ["m", "limit"] spDra) : FnOk P w K mg base CX0 3 f fd ["m", "net", "most"] (spLFa K) := by
  refine F.ok scLFa (fun vs H Q E h => ?_) (fun cdv A outer s H vs Q E hr h => ?_)
  · obtain ⟨m, c, g, x, n, M, N, rfl, _⟩ := h
    rfl
  · obtain ⟨m, c, g, x, n, M, N, rfl, Mm, nb, m5, dx, r1, r10, k⟩ := h
    have hr2 : Room 2 (A.deeper (envOfC "_law_failed" (defScope sLFa) s.heap.objs.size f cdv)) := Room.mono hr (by decide)
    refine ⟨_, (pss_one (ps_ret (pe_callTy call_tuple_of (by rfl) T.tuple (by decide +kernel) (pa_cons (pe_callB (cr_sortedSet rfl) (by rfl) T.sorted (by decide +kernel) (pa_cons (pe_callTy (cr_setLI rfl) (by rfl) T.set (by decide +kernel) (pa_cons (pe_lc (own := [("k", 3)]) (g := gName 3) (tt := tYes) (te := tCall spDra [] E0 (tCons (tVar 0) (tCons (tCB (rLenSq K) (tCons (tOp (rIxT K) (tVar 1) (tC (.int 0))) tNil)) tNil))) rfl scLFa.nd
      (pi_range1 (by rfl) T.range (pa_cons (pe_call GDr hr2 (by rfl) CDr.g CDr.k CDr.b .nil pass0 (pa_cons (pv 0) (pa_cons (pe_op op_add (pv 2) pe_int) pa_nil))) pa_nil)) (blkOk_by (N := ["m", "net", "most", "k"]) (sc := defScope sLFa) (by decide +kernel)) (fun _ _ _ _ _ => pg_name (i := 3) scLFa.nd rfl (.inl rfl)) (fun _ _ _ _ _ => pts_nil)
      (fun _ _ _ _ _ => pe_call GDr hr2 (by rfl) CDr.g CDr.k CDr.b .nil pass0 (pa_cons (pv 0) (pa_cons (pe_callB (lenK (K := K)) (by rfl) T.len PySem.boot_len (pa_cons (pe_ix (ixT (K := K)) (pv 1) pe_int (fun _ _ => rfl)) pa_nil)) pa_nil)))) pa_nil)) pa_nil)) pa_nil)))), ?_⟩
    obtain ⟨p, r, l, w', ps, rfl, en, er, el, ew, pr⟩ := net_parts dx
    obtain ⟨rs, sr, rl, _⟩ := er.sq
    refine ⟨_, rfl, _, rfl, _, _, rfl, rfl, m, c, g, n, _, rfl, by omega, by omega, by omega, Mm, fun z H1 z0 z1 M1 k1' => ?_⟩
    have k1 : Kp H H1 m g := k1'
    refine ⟨z, rfl, by omega, by omega, fun D nD => ?_⟩
    have nDm := M1.notm nD
    have nDg := M1.notg nD
    have nDH : H D = none := by
      cases e : H D with
      | none => rfl
      | some o =>
        have q := k1 _ _ e nDm nDg
        rw [nD] at q
        cases q
    have tkK : ∀ {H' : Hp}, Kp H H' m g → Tk H H' := fun {H'} kk b xs => by
      obtain ⟨gs, _, hg⟩ := Mm.hg
      have ne : ∀ o, H b = some o → (∀ kv, o ≠ .dK kv) → (∀ ys, o ≠ .lst ys) → b ≠ m ∧ b ≠ g := fun o e h1 h2 => ⟨fun q => by
        rw [q, Mm.hd] at e
        injection e with e
        exact h1 _ e.symm, fun q => by
        have hg : H g = some (.lst (gs.map V.int)) := hg
        rw [q, hg] at e
        injection e with e
        exact h2 _ e.symm⟩
      exact ⟨fun e => by
        obtain ⟨a, b'⟩ := ne _ e (fun _ q => nomatch q) (fun _ q => nomatch q)
        exact kk _ _ e a b', fun o e => by
        obtain ⟨a, b'⟩ := ne _ e (fun _ q => nomatch q) (fun _ q => nomatch q)
        exact kk _ _ e a b'⟩
    refine lc_it walk_range (fun i H' => ∃ (xs : List Int) (n' : Nat), H' D = some (.lst (xs.map V.int)) ∧ xs.length = i ∧ (∀ y ∈ xs, 0 ≤ y ∧ y < (N.roads.length : Int)) ∧ Kp H H' m g ∧ Ms H' m c g n' ∧ n' = n + 1 + i) ⟨[], n + 1, upd_same, rfl, (fun _ h => nomatch h), k1.put nDH, M1.same (same_upd nD), rfl⟩ (fun i H' _ _ => trivial) ?_ ?_
    · rintro i y H3 H2 hi ⟨xs, n', eD, xl, xb, kk, M2, nn⟩ ⟨rfl, hy⟩
      refine ⟨rfl, yes_of ?_⟩
      have i6 : i < 6 := by omega
      refine ⟨_, rfl, _, rfl, p, _, _, _, rfl, rfl, (tkK kk).seq en, rfl, r, _, rfl, .inr ((tkK kk).seq sr), m, c, g, n', _, rfl, by rw [List.length_map]; omega, by rw [List.length_map]; omega, by omega, M2, fun q H4 q0 q1 M4 k4' => ?_⟩
      have k4 : Kp H2 H4 m g := k4'
      rw [List.length_map, rl] at q1
      have eD4 := k4 _ _ eD nDm nDg
      refine ⟨_, eD4, by rw [List.length_map, sizeLine_eq]; omega, xs ++ [q], n' + 1, by rw [upd_same, List.map_append]; rfl, by rw [List.length_append, xl]; rfl, fun y hy => ?_, ?_, M4.put nDm ?_ nDg, by omega⟩
      · rcases List.mem_append.mp hy with hy | hy
        · exact xb y hy
        · rw [List.mem_singleton.mp hy]
          exact ⟨q0, q1⟩
      · intro b o e n1 n2
        have z := k4 _ _ (kk _ _ e n1 n2) n1 n2
        rw [upd_ne (fun w => by
          have q := k1 _ _ e n1 n2
          rw [w, nD] at q
          cases q)]
        exact z
      · intro w
        obtain ⟨cs, _, hc⟩ := M1.hc
        rw [← w] at hc
        have hc : H1 D = some (.lst (cs.map V.int)) := hc
        rw [nD] at hc
        cases hc
    · rintro H2 ⟨xs, n', eD, xl, xb, kk, M2, nn⟩
      refine ⟨D, xs, rfl, SqL.of eD, by omega, fun S cnt nS hc => ?_⟩
      refine ⟨S, _, cnt, rfl, upd_same, by omega, fun fl R pw mem fll nR => ?_⟩
      have nSm := M2.notm nS
      have nSg := M2.notg nS
      have sS : Same H2 (upd H2 S (SetO w S (fun j => decide (j ∈ xs)) cnt)) := same_upd nS
      have sR : Same _ (upd (upd H2 S (SetO w S (fun j => decide (j ∈ xs)) cnt)) R (.lst (fl.map V.int))) := same_upd nR
      have fb : ∀ z ∈ fl, 0 ≤ z ∧ z < (N.roads.length : Int) := fun z hz => xb z (of_decide_eq_true ((mem z).mp hz))
      refine ⟨R, _, rfl, .inl ⟨SqL.of upd_same, fun q nq => ?_⟩⟩
      have sq := (sS.trans sR).trans (same_upd (o := .tup (fl.map V.int)) nq)
      exact k fl _ q n' ⟨pw, fb, asc_len2 pw fb⟩ (kk.trans (Kp.of sq)) (M2.same sq) (by omega) upd_same
end
end Lr

namespace Lr
open PySem PySem.Spec PyProof.Rows L2

theorem isiK {X : Cx} {K : PySem.W.Frag} (h : X.K = K := by rfl) : CallR X (.builtin "isinstance") (rIsi K) := h ▸ call_isi
def spLaw (K : PySem.W.Frag) : Sp := fun vs H Q _ => ∃ (a : Addr) (ns : List Int), vs = [.ref a] ∧ SqL K H a (ns.map V.int) ∧ ns.length ≤ 63 ∧ ∀ H', Q (.bl true) H'
abbrev LawN : List Str := ["script", "m", "turn", "net", "failed", "goes", "lots", "due", "head", "road", "changed_so", "fewest", "pop", "shown", "others"]
section
variable {P : Program} {w : World} {K : PySem.W.Frag} {mg : Str → Option Value} {base : Heap}
theorem scLaw : FnScope ["script", "m", "turn", "net", "failed", "goes", "lots", "due", "head", "road", "changed_so", "fewest", "pop", "shown", "others"] ["script"] (defScope sLaw) := ⟨rfl, rfl, rfl, by decide +kernel, rfl, by decide +kernel, by decide +kernel⟩
theorem ok_law {f : Addr} {fd : FuncData} {fBeg : Addr} {fdBeg : FuncData} {fLN : Addr} {fdLN : FuncData} {fLFa : Addr} {fdLFa : FuncData} {fLMo : Addr} {fdLMo : FuncData} {fLLo : Addr} {fdLLo : FuncData} {fLSh : Addr} {fdLSh : FuncData} {fPop : Addr} {fdPop : FuncData} {fPSt : Addr} {fdPSt : FuncData} (F_ : Fun K "law" "law" sLaw f fd) (Tb : Bt mg) (noRep : mg "repr" = none) (noMax : mg "max" = none)
    (CBeg : Cal K mg "_law_begun" fBeg fdBeg ["script"]) (GBeg : FnOk P w K mg base CX0 2 fBeg fdBeg ["script"] (spBeg K)) (CLN : Cal K mg "_law_net" fLN fdLN ["m", "most", "wide"]) (GLN : FnOk P w K mg base CX0 5 fLN fdLN ["m", "most", "wide"] (spLNz K)) (CLFa : Cal K mg "_law_failed" fLFa fdLFa ["m", "net", "most"]) (GLFa : FnOk P w K mg base CX0 3 fLFa fdLFa ["m", "net", "most"] (spLFa K))
    (CLMo : Cal K mg "_law_moves" fLMo fdLMo ["net", "failed"]) (GLMo : FnOk P w K mg base CX0 1 fLMo fdLMo ["net", "failed"] (spLMo K)) (CLLo : Cal K mg "_law_lots" fLLo fdLLo ["goes"]) (GLLo : FnOk P w K mg base CX0 2 fLLo fdLLo ["goes"] (spLLo K)) (CLSh : Cal K mg "_law_shown" fLSh fdLSh ["goes", "road", "label"]) (GLSh : FnOk P w K mg base CX0 1 fLSh fdLSh ["goes", "road", "label"] (spLSh K))
    (CPop : Cal K mg "pops" fPop fdPop ["net", "failed"]) (GPop : FnOk P w K mg base CX0 9 fPop fdPop ["net", "failed"] (spPop K)) (CPSt : Cal K mg "pop_steps" fPSt fdPSt ["net", "failed"]) (GPSt : FnOk P w K mg base CX0 9 fPSt fdPSt ["net", "failed"] (spPSt K)) : FnG P w K mg base CX0 12 f fd ["script"] (spLaw K) := by
  refine Fun.okG F_ scLaw (fun vs H Q E h => ?_) (fun cdv A outer s H vs Q E gd hr h => ?_)
  · obtain ⟨a, ns, rfl, _⟩ := h
    rfl
  · obtain ⟨a, ns, rfl, hS, few, k⟩ := h
    have hr11 : Room 11 (A.deeper (envOfC "law" (defScope sLaw) s.heap.objs.size f cdv)) := hr
    have hr9 : Room 9 (A.deeper (envOfC "law" (defScope sLaw) s.heap.objs.size f cdv)) := Room.mono hr (by decide)
    have hr5 : Room 5 (A.deeper (envOfC "law" (defScope sLaw) s.heap.objs.size f cdv)) := Room.mono hr (by decide)
    have hr3 : Room 3 (A.deeper (envOfC "law" (defScope sLaw) s.heap.objs.size f cdv)) := Room.mono hr (by decide)
    have hr2 : Room 2 (A.deeper (envOfC "law" (defScope sLaw) s.heap.objs.size f cdv)) := Room.mono hr (by decide)
    have hr1 : Room 1 (A.deeper (envOfC "law" (defScope sLaw) s.heap.objs.size f cdv)) := Room.mono hr (by decide)
    have hu100 : (A.deeper (envOfC "law" (defScope sLaw) s.heap.objs.size f cdv)).units + 100 < cLine := by
      have z := hr11.un
      omega
    have hu64 : (A.deeper (envOfC "law" (defScope sLaw) s.heap.objs.size f cdv)).units + 64 < cLine := by omega
    have hu1 : (A.deeper (envOfC "law" (defScope sLaw) s.heap.objs.size f cdv)).units + 1 < cLine := by omega
    have gd2 : (A.deeper (envOfC "law" (defScope sLaw) s.heap.objs.size f cdv)).guards = some [] := gd
    refine ⟨_, (pss_cons (ps_set (i := 1) scLaw.nd rfl (by first | exact Or.inl rfl | exact Or.inr rfl) (pe_call GBeg hr2 (by rfl) CBeg.g CBeg.k CBeg.b .nil pass0 (pa_cons (pv 0) pa_nil)))
        (pss_cons (ps_for PassesOwn.never rfl (pi_range1 (by rfl) Tb.range (pa_cons pe_int pa_nil)) (pg_name (i := 2) scLaw.nd rfl (by first | exact Or.inl rfl | exact Or.inr rfl)) (pss_cons (ps_set (i := 3) scLaw.nd rfl (by first | exact Or.inl rfl | exact Or.inr rfl) (pe_call GLN hr5 (by rfl) CLN.g CLN.k CLN.b .nil pass0 (pa_cons (pv 1) (pa_cons pe_int (pa_cons pe_int pa_nil)))))
        (pss_cons (ps_set (i := 4) scLaw.nd rfl (by first | exact Or.inl rfl | exact Or.inr rfl) (pe_call GLFa hr3 (by rfl) CLFa.g CLFa.k CLFa.b .nil pass0 (pa_cons (pv 1) (pa_cons (pv 3) (pa_cons pe_int pa_nil)))))
        (pss_cons (ps_set (i := 5) scLaw.nd rfl (by first | exact Or.inl rfl | exact Or.inr rfl) (pe_ix (ixT (K := K)) (pe_call GLMo hr1 (by rfl) CLMo.g CLMo.k CLMo.b .nil pass0 (pa_cons (pv 3) (pa_cons (pv 4) pa_nil))) pe_int (fun _ _ => rfl)))
        (pss_cons (ps_set (i := 6) scLaw.nd rfl (by first | exact Or.inl rfl | exact Or.inr rfl) (pe_call GLLo hr2 (by rfl) CLLo.g CLLo.k CLLo.b .nil pass0 (pa_cons (pv 5) pa_nil)))
        (pss_cons (ps_set (i := 7) scLaw.nd rfl (by first | exact Or.inl rfl | exact Or.inr rfl) (pe_lst pa_nil))
        (pss_cons (ps_lock (ps_for PassesOwn.never rfl (pi_keys (pv 6)) (pg_name (i := 8) scLaw.nd rfl (by first | exact Or.inl rfl | exact Or.inr rfl)) (pss_one (ps_set (i := 7) scLaw.nd rfl (by first | exact Or.inl rfl | exact Or.inr rfl) (pe_op op_cat (pv 7) (pe_lc (own := [("road", 9)]) (g := gName 9) (tt := tYes) (te := tOp (rCatA K) (tVar 8) (tTup (tCons (tVar 9) tNil))) rfl scLaw.nd (pi_list (pe_dget hu1 (pv 6) (pv 8) (fun _ _ => rfl))) (blkOk_by (N := ["script", "m", "turn", "net", "failed", "goes", "lots", "due", "head", "road", "changed_so", "fewest", "pop", "shown", "others"]) (sc := defScope sLaw) (by decide +kernel)) (fun _ _ _ _ _ => pg_name (i := 9) scLaw.nd rfl (.inl rfl)) (fun _ _ _ _ _ => pts_nil) (fun _ _ _ _ _ => (pe_op (catAK (K := K)) (pv 8) (pe_tup (pa_cons (pv 9) pa_nil))))))))))
        (pss_cons (ps_set (i := 7) scLaw.nd rfl (by first | exact Or.inl rfl | exact Or.inr rfl) (pe_callTy call_tuple_of (by rfl) Tb.tuple (by decide +kernel) (pa_cons (pe_callB (cr_sortedZ hu64) (by rfl) Tb.sorted (by decide +kernel) (pa_cons (pv 7) pa_nil)) pa_nil)))
        (pss_cons (ps_if (pt_cmpR op_ne (pe_callB (call_repr gd2 hu100) (by rfl) noRep (by decide +kernel) (pa_cons (pe_lst (pa_cons (pe_call GPop hr9 (by rfl) CPop.g CPop.k CPop.b .nil pass0 (pa_cons (pv 3) (pa_cons (pv 4) pa_nil))) (pa_cons (pe_call GPop hr9 (by rfl) CPop.g CPop.k CPop.b .nil pass0 (pa_cons (pv 3) (pa_cons (pv 4) pa_nil))) pa_nil))) pa_nil)) (pe_callB (call_repr gd2 hu100) (by rfl) noRep (by decide +kernel) (pa_cons (pe_lst (pa_cons (pv 7) (pa_cons (pv 7) pa_nil))) pa_nil)) (nomark _)) (pss_one (ps_ret pe_bl)) pss_nil)
        (pss_cons (ps_set (i := 10) scLaw.nd rfl (by first | exact Or.inl rfl | exact Or.inr rfl) (pe_call GPSt hr9 (by rfl) CPSt.g CPSt.k CPSt.b .nil pass0 (pa_cons (pv 3) (pa_cons (pv 4) pa_nil))))
        (pss_cons (ps_dput hu1 (pv 10) (pe_tup (pa_cons pe_int (pa_cons pe_str (pa_cons pe_int pa_nil)))) pe_int rfl)
        (pss_cons (ps_set (i := 11) scLaw.nd rfl (by first | exact Or.inl rfl | exact Or.inr rfl) (pe_call GPSt hr9 (by rfl) CPSt.g CPSt.k CPSt.b .nil pass0 (pa_cons (pv 3) (pa_cons (pv 4) pa_nil))))
        (pss_cons (ps_if (PW.pt (pw_or (pt_cmpR (neDK (K := K) hu64) (pe_callTy (cr_tupK rfl) (by rfl) Tb.tuple (by decide +kernel) (pa_cons (pv 11) pa_nil)) (pv 7) (nomark _)) (pw_or1 (pt_cmpR (neDK (K := K) hu64) (pe_lock (pe_lc (own := [("pop", 12)]) (g := gName 12) (tt := _) rfl scLaw.nd (pi_keys (pv 11)) (blkOk_by (N := ["script", "m", "turn", "net", "failed", "goes", "lots", "due", "head", "road", "changed_so", "fewest", "pop", "shown", "others"]) (sc := defScope sLaw) (by decide +kernel)) (fun _ _ _ _ _ => pg_name (i := 12) scLaw.nd rfl (.inl rfl)) (fun _ _ _ _ _ => pts_one (pt_not (pt_val (pe_callB (isiK (K := K)) (by rfl) Tb.isi (by decide +kernel) (pa_cons (pe_dget hu1 (pv 11) (pv 12) (fun _ _ => rfl)) (pa_cons (pe_bltn (v := V.ty "int") (by rfl) Tb.int (by decide +kernel) rfl) pa_nil)))))) (fun _ _ _ _ _ => (pv 12)))) (pe_lst pa_nil) (nomark _))))) (pss_one (ps_ret pe_bl)) pss_nil)
        (pss_one (ps_lock (ps_for PassesOwn.never rfl (pi_keys (pv 6)) (pg_name (i := 8) scLaw.nd rfl (by first | exact Or.inl rfl | exact Or.inr rfl)) (pss_cons (ps_set (i := 13) scLaw.nd rfl (by first | exact Or.inl rfl | exact Or.inr rfl) (pe_call GLSh hr1 (by rfl) CLSh.g CLSh.k CLSh.b .nil pass0 (pa_cons (pv 5) (pa_cons (pe_ix (ixT (K := K)) (pv 8) pe_int (fun _ _ => rfl)) (pa_cons (pe_ix (ixT (K := K)) (pv 8) pe_int (fun _ _ => rfl)) pa_nil)))))
        (pss_cons (ps_for PassesOwn.never rfl (pi_list (pe_ifExp (pt_cmpR op_notN (pv 13) pe_non (nomark _)) (pe_dget hu1 (pv 6) (pv 8) (fun _ _ => rfl)) (pe_lst pa_nil))) (pg_name (i := 9) scLaw.nd rfl (by first | exact Or.inl rfl | exact Or.inr rfl)) (pss_one (ps_if (pt_cmpR op_ne (pe_dget hu1 (pv 11) (pe_op (catAK (K := K)) (pv 8) (pe_tup (pa_cons (pv 9) pa_nil))) (fun _ _ => rfl)) (pe_dget2 hu1 (pv 13) (pv 9) (pe_callB (call_max2 rfl) (by rfl) noMax (by decide +kernel) (pa_cons pe_int (pa_cons (pe_dget hu1 (pv 11) (pe_op (catAK (K := K)) (pv 8) (pe_tup (pa_cons (pv 9) pa_nil))) (fun _ _ => rfl)) pa_nil))) ⟨rfl, rfl, rfl, rfl⟩) (nomark _)) (pss_one (ps_ret pe_bl)) pss_nil)))
        (pss_cons (ps_set (i := 14) scLaw.nd rfl (by first | exact Or.inl rfl | exact Or.inr rfl) (pe_ifExp (pt_cmpR op_notN (pv 13) pe_non (nomark _)) (pe_lock (pe_lc (own := [("road", 9)]) (g := gName 9) (tt := _) rfl scLaw.nd (pi_keys (pv 13)) (blkOk_by (N := ["script", "m", "turn", "net", "failed", "goes", "lots", "due", "head", "road", "changed_so", "fewest", "pop", "shown", "others"]) (sc := defScope sLaw) (by decide +kernel)) (fun _ _ _ _ _ => pg_name (i := 9) scLaw.nd rfl (.inl rfl)) (fun _ _ _ _ _ => pts_one (pt_cmpR (notinSK (K := K)) (pv 9) (pe_dget hu1 (pv 6) (pv 8) (fun _ _ => rfl)) (by rfl))) (fun _ _ _ _ _ => (pv 9)))) (pe_lst pa_nil)))
        (pss_one (ps_if (pt_cmpR (neDK (K := K) hu64) (pv 14) (pe_lst pa_nil) (nomark _)) (pss_one (ps_ret pe_bl)) pss_nil)))))))))))))))))))))
        (pss_cons (ps_set (i := 3) scLaw.nd rfl (by first | exact Or.inl rfl | exact Or.inr rfl) (pe_tup (pa_cons (pe_tup (pa_cons (pe_tup (pa_cons pe_int (pa_cons pe_int pa_nil))) (pa_cons (pe_tup (pa_cons pe_int (pa_cons pe_int pa_nil))) pa_nil))) (pa_cons (pe_tup (pa_cons pe_str (pa_cons pe_str pa_nil))) (pa_cons (pe_tup (pa_cons (pe_tup (pa_cons (pe_tup (pa_cons pe_int (pa_cons pe_str pa_nil))) (pa_cons (pe_tup (pa_cons (pe_tup (pa_cons (pe_tup (pa_cons pe_int (pa_cons (pe_tup (pa_cons pe_str (pa_cons pe_str pa_nil))) pa_nil))) pa_nil)) pa_nil)) pa_nil))) (pa_cons (pe_tup (pa_cons (pe_tup (pa_cons pe_int (pa_cons pe_str pa_nil))) (pa_cons (pe_tup (pa_cons (pe_tup (pa_cons (pe_tup (pa_cons pe_int (pa_cons (pe_tup pa_nil) pa_nil))) pa_nil)) (pa_cons (pe_tup (pa_cons (pe_tup (pa_cons pe_int (pa_cons (pe_tup pa_nil) pa_nil))) pa_nil)) pa_nil))) pa_nil))) pa_nil))) pa_nil)))))
        (pss_cons (ps_if (PW.pt (pw_or (pt_cmpR (neDK (K := K) hu64) (pe_call GPop hr9 (by rfl) CPop.g CPop.k CPop.b .nil pass0 (pa_cons (pv 3) (pa_cons (pe_tup pa_nil) pa_nil))) (pe_tup (pa_cons (pe_tup (pa_cons pe_int (pa_cons pe_str (pa_cons pe_int pa_nil)))) pa_nil)) (nomark _)) (pw_or1 (pt_cmpR (op_neT hu1) (pe_call GPSt hr9 (by rfl) CPSt.g CPSt.k CPSt.b .nil pass0 (pa_cons (pv 3) (pa_cons (pe_tup (pa_cons pe_int pa_nil)) pa_nil))) (pe_d2 hu1 (pe_tup (pa_cons pe_int (pa_cons pe_str (pa_cons pe_int pa_nil)))) pe_int (pe_tup (pa_cons pe_int (pa_cons pe_str (pa_cons pe_int pa_nil)))) pe_int) (nomark _))))) (pss_one (ps_ret pe_bl)) pss_nil)
        (pss_one (ps_ret (pe_cmpR (op_eqD hu64) (pe_call GPop hr9 (by rfl) CPop.g CPop.k CPop.b .nil pass0 (pa_cons (pv 3) (pa_cons (pe_tup (pa_cons pe_int (pa_cons pe_int pa_nil))) pa_nil))) (pe_tup pa_nil) (nomark _)))))))), ?_⟩
    refine ⟨_, rfl, a, ns, rfl, hS, few, fun HX m cc g sX nm nc ng MX => ?_⟩
    refine ⟨3, rfl, by decide, by decide, ?_⟩
    refine for_range (lo := 0) (n := 3) (fun i σ H' => ∃ (u2 u3 u4 u5 u6 u7 u8 u9 u10 u11 u13 u14 : Option V) (n' : Nat), σ = [some (.ref a), some (.ref m), u2, u3, u4, u5, u6, u7, u8, u9, u10, u11, none, u13, u14] ∧ Ms H' m cc g n' ∧ n' ≤ 2000 * i)
      ⟨_, _, _, _, _, _, _, _, _, _, _, _, 0, rfl, MX, Nat.zero_le _⟩ ?_ ?_
    · rintro i σ H0 hi ⟨u2, u3, u4, u5, u6, u7, u8, u9, u10, u11, u13, u14, n0, rfl, M0, nb0⟩
      have hi3 : i < 3 := hi
      refine ⟨_, rfl, m, cc, g, n0, 3, 4, rfl, M0, by omega, by decide, by decide, by decide, fun x H2 N n1 k1 M2 nb1 lr1 dN okN nz => ?_⟩
      refine ⟨_, rfl, _, rfl, m, cc, g, x, n1, 2, N, rfl, M2, by omega, by decide, dN, okN.r1, okN.r2, fun fl H3 fp n2 fo k3 M3 nb2 efp => ?_⟩
      have t23 := k3.tk M2
      have dN3 := dp_tk t23 _ _ (flat_nt N) dN
      have nz3 := NetZ.tk nz t23
      have sf3 : SqT K H3 fp (fl.map V.int) := SqT.of efp
      refine ⟨_, rfl, _, rfl, x, fp, N, fl, rfl, dN3, nz3, okN, sf3, fun H4 p4 G E4 us s4 sp4 nG nus ga => ?_⟩
      refine ⟨p4, _, _, V.ref G, rfl, rfl, sp4, rfl, ?_⟩
      have lml : (lmN N fl).length ≤ 100 := by
        unfold lmN lmv
        rw [List.length_map, hdsL_len, List.length_cons]
        have z2 := okN.l2
        have z4 : N.roads.length * (N.labels.length + 1) ≤ 10 * 10 := Nat.mul_le_mul okN.r2 (by omega)
        omega
      have n10 := okN.r2
      refine ⟨_, rfl, G, lmN N fl, us, N.roads.length, rfl, ga, lmN_nd okN fl, by omega, by omega, fun q hq => ?_, fun H5 L lt as s5 nL la li cl => ?_⟩
      · obtain ⟨z1, z2⟩ := lm_ok okN hq
        refine ⟨by omega, ?_, fun c hc => ⟨(z2 c hc).1, (z2 c hc).2.1⟩⟩
        rcases List.mem_cons.mp (hdsL_mem.mp (lmN_mem.mp hq).1).2.2 with z | z
        · rw [z]
          decide +kernel
        · exact L5_lay (okN.lw _ z)
      have lo : LotsOk N fl lt := ⟨li, cl⟩
      have ltl : lt.length ≤ 100 := by
        have z := congrArg List.length li.keys
        rw [List.length_map, List.length_map] at z
        have z2 := List.length_filter_le (fun q : (Int × Str) × List Chc => !decide (q.1.2 = ("" : Str))) (lmN N fl)
        omega
      have asl : as.length = lt.length := Paired.length la.val
      have lkl : (lotK lt as).length = lt.length := by
        unfold lotK
        rw [List.length_map, List.length_zip, asl, Nat.min_self]
      have M5 : Ms H5 m cc g n2 := (M3.same s4).same s5
      have ga5 := ga.keep s5
      have dN5 := dp_tk (Tk.of (s4.trans s5)) _ _ (flat_nt N) dN3
      have sf5 := (Tk.of (s4.trans s5)).seq sf3
      clear nz3 sp4 efp
      -- the walk over the lots: what a key is
      have walk : ∀ {j : Nat} {key : List L2.Key} {v0 : V}, (lotK lt as)[j]? = some (key, v0) → ∃ e u, lt[j]? = some e ∧ as[j]? = some u ∧ key = [Sum.inl e.1.1, Sum.inr e.1.2] ∧ v0 = V.ref u ∧ H5 u = some (.lst (e.2.map V.int)) := fun {j key v0} hk => by
        unfold lotK at hk
        rw [List.getElem?_map, Option.map_eq_some_iff] at hk
        obtain ⟨⟨e, u⟩, hz, hk⟩ := hk
        rw [List.getElem?_zip_eq_some] at hz
        injection hk with h1 h2
        obtain ⟨u', h3, h4⟩ := paired_get2 la.val hz.1
        rw [hz.2] at h3
        injection h3 with h3
        rw [← h3] at h4
        exact ⟨e, u, hz.1, hz.2, h1.symm, h2.symm, h4⟩
      have getL : ∀ {H' : Hp} {od : Obj} {qa : Addr} {e : (Int × Str) × List Int} {u : Addr} {j : Nat}, H' L = some (.frz od (.dT (lotK lt as))) → H' qa = some (.tup [V.int e.1.1, .str e.1.2]) → lt[j]? = some e → as[j]? = some u → DGet H' L (.ref qa) (some (V.ref u)) := fun {H' od qa e u j} e1 e2 e3 e4 => by
        have z : valV (lotK lt as) [Sum.inl e.1.1, Sum.inr e.1.2] = some (V.ref u) := by
          have hin : (([Sum.inl e.1.1, Sum.inr e.1.2] : List L2.Key), V.ref u) ∈ lotK lt as := List.mem_map.mpr ⟨(e, u), List.mem_of_getElem? (i := j) (List.getElem?_zip_eq_some.mpr ⟨e3, e4⟩), rfl⟩
          obtain ⟨u2, h1, h2⟩ := lot_some la.val (k := e.1) (List.mem_map_of_mem (f := fun e : (Int × Str) × List Int => e.1) (List.mem_of_getElem? e3))
          rw [h1]
          have nd := la.nd
          have go : ∀ {lt : Lots} {as : List Addr} {j : Nat} {e : (Int × Str) × List Int} {u : Addr}, (lt.map (·.1)).Nodup → lt[j]? = some e → as[j]? = some u → valV (lotK lt as) [Sum.inl e.1.1, Sum.inr e.1.2] = some (V.ref u) := by
            intro lt
            induction lt with
            | nil => intro as j e u _ h; simp at h
            | cons y lt ih =>
              intro as j e u nd h1 h2
              rw [List.map_cons, List.nodup_cons] at nd
              cases as with
              | nil => simp at h2
              | cons b as =>
                cases j with
                | zero =>
                  simp at h1 h2
                  subst h1 h2
                  exact valV_pos rfl
                | succ j =>
                  have h1 : lt[j]? = some e := by simpa using h1
                  have h2 : as[j]? = some u := by simpa using h2
                  have ne : y.1 ≠ e.1 := fun z => nd.1 (by rw [z]; exact List.mem_map_of_mem (f := fun e : (Int × Str) × List Int => e.1) (List.mem_of_getElem? h1))
                  exact (valV_neg (p := ([Sum.inl y.1.1, Sum.inr y.1.2], V.ref b)) (fun q => ne (keyOf_inj q))).trans (ih nd.2 h1 h2)
          exact h1.symm.trans (go nd e3 e4)
        exact .inr ⟨lotK lt as, [Sum.inl e.1.1, Sum.inr e.1.2], qa, .inr ⟨od, e1⟩, rfl, e2, z.symm⟩
      refine ⟨Nat.zero_le _, fun D0 nD0 => ?_⟩
      have s6 : Same H5 (upd H5 D0 (.lst [])) := same_upd nD0
      have e6 : (upd H5 D0 (.lst [])) D0 = some (.lst []) := upd_same
      revert s6 e6
      generalize upd H5 D0 (.lst []) = H6
      intro s6 e6
      have eL6 := s6 _ _ la.tab
      refine ⟨L, _, eL6, trivial, fun od => ?_⟩
      have k7 : ∀ b o, H6 b = some o → b ≠ L → (upd H6 L (.frz od (.dT (lotK lt as)))) b = some o := fun b o e n => by rw [upd_ne n]; exact e
      have e7 : (upd H6 L (.frz od (.dT (lotK lt as)))) L = some (.frz od (.dT (lotK lt as))) := upd_same
      have tk7 : Tk H6 (upd H6 L (.frz od (.dT (lotK lt as)))) := tk_dT eL6
      revert k7 e7 tk7
      generalize upd H6 L (.frz od (.dT (lotK lt as))) = H7
      intro k7 e7 tk7
      refine ⟨_, rfl, L, od, rfl, .inr ⟨lotK lt as, e7, ?_⟩⟩
      have duel : ∀ j, (dueL (lt.take j)).length ≤ 1000 := fun j => by
        have z := dueL_len (lt := lt.take j) fun e he => li.ok e (List.mem_of_mem_take he)
        rw [List.length_take] at z
        have z2 : min j lt.length * N.roads.length ≤ 100 * 10 := Nat.mul_le_mul (by omega) n10
        omega
      refine for_it walk_keysT (fun j σ H' => ∃ (u8 u9 : Option V) (DD : Addr) (qs : List Addr), σ = [some (.ref a), some (.ref m), some (.int (0 + (i : Int))), some x, some (.ref fp), some (.ref G), some (.ref L), some (.ref DD), u8, u9, u10, u11, none, u13, u14] ∧ H' DD = some (.lst (qs.map V.ref)) ∧ TrisAt H' qs (dueL (lt.take j)) ∧ ∀ b o, H7 b = some o → H' b = some o) ⟨_, _, D0, [], rfl, k7 _ _ e6 (fun z => by rw [z, eL6] at e6; cases e6), by rw [List.take_zero]; exact .nil, fun b o e => e⟩ (fun j σ H' _ ⟨_, _, _, _, _, _, _, kk⟩ => kk _ _ e7) ?_ ?_
      · rintro j xk σ H9 H8 hj ⟨u8, u9, DD, qs, rfl, eD, tr, kk⟩ ⟨rfl, key, v0, qa, hk, rfl, eq⟩
        obtain ⟨e, u, he, hu, rfl, rfl, eu⟩ := walk hk
        have eqa : H8 qa = some (.tup [V.int e.1.1, .str e.1.2]) := eq
        have tke : lt.take (j + 1) = lt.take j ++ [e] := by rw [List.take_succ, he]; rfl
        have roke := li.ok e (List.mem_of_getElem? he)
        have eu8 : H8 u = some (.lst (e.2.map V.int)) := kk _ _ (k7 _ _ (s6 _ _ eu) (fun z => by rw [z, la.tab] at eu; cases eu))
        have dg := getL (kk _ _ e7) eqa he hu
        refine ⟨_, rfl, _, rfl, _, rfl, L, _, rfl, dg, u, rfl, ⟨_, SqL.of eu8⟩, fun D nD => ?_⟩
        refine lc_list (K := K) (a := u) (xs := e.2.map V.int) (fun t H' => ∃ rs : List Addr, H' D = some (.lst (rs.map V.ref)) ∧ TrisAt H' rs ((e.2.take t).map fun y => (e.1, y)) ∧ ∀ b o, H8 b = some o → H' b = some o) ⟨[], upd_same, by rw [List.take_zero]; exact .nil, fun b o e => by rw [upd_ne (ne_of_none e nD)]; exact e⟩ (fun t H' _ ⟨_, _, _, kk2⟩ => SqL.of (kk2 _ _ eu8)) ?_ ?_
        · rintro t xv H9 hx ⟨rs, eD9, tr9, kk9⟩
          rw [List.getElem?_map, Option.map_eq_some_iff] at hx
          obtain ⟨y, hy, rfl⟩ := hx
          have tky : e.2.take (t + 1) = e.2.take t ++ [y] := by rw [List.take_succ, hy]; rfl
          have tl := (List.getElem?_eq_some_iff.mp hy).1
          refine ⟨rfl, yes_of ?_⟩
          refine ⟨_, rfl, _, rfl, s1le, fun tp ntp => ?_⟩
          have stp : Same H9 (upd H9 tp (.tup [.int y])) := same_upd ntp
          have etp : (upd H9 tp (.tup [.int y])) tp = some (.tup [.int y]) := upd_same
          revert stp etp
          generalize upd H9 tp (.tup [.int y]) = H10
          intro stp etp
          refine ⟨qa, tp, _, _, rfl, rfl, SqT.of (stp _ _ (kk9 _ _ eqa)), SqT.of etp, by rw [sizeLine_eq]; show 3 ≤ 16777216; decide, (fun z => nomatch z), (fun _ z => nomatch z), fun _ _ p np => ?_⟩
          have sp : Same H10 (upd H10 p (.tup ([V.int e.1.1, .str e.1.2] ++ [.int y]))) := same_upd np
          have ep : (upd H10 p (.tup ([V.int e.1.1, .str e.1.2] ++ [.int y]))) p = some (.tup [V.int e.1.1, .str e.1.2, .int y]) := upd_same
          revert sp ep
          generalize upd H10 p (.tup ([V.int e.1.1, .str e.1.2] ++ [.int y])) = H11
          intro sp ep
          have s911 := stp.trans sp
          have eD11 := s911 _ _ eD9
          have rl := Paired.length tr9
          rw [List.length_map, List.length_take] at rl
          have rokl := roke.len
          refine ⟨_, eD11, by rw [List.length_map, sizeLine_eq]; omega, rs ++ [p], by rw [upd_same, List.map_append]; rfl, ?_, fun b o e => by rw [upd_ne (ne_of_none e nD)]; exact s911 _ _ (kk9 _ _ e)⟩
          rw [tky, List.map_append]
          refine paired_app (TrisAt.tk tr9 ((Tk.of s911).trans (tk_lst2 eD11))) (.cons ?_ .nil)
          exact (tk_lst2 eD11 _ _).1 ep
        · rintro H9 ⟨rs, eD9, tr9, kk9⟩
          rw [List.length_map, List.take_length] at tr9
          have rl := Paired.length tr9
          rw [List.length_map] at rl
          have rokl := roke.len
          have ql := Paired.length tr
          have dl := duel j
          refine ⟨DD, D, _, _, rfl, rfl, kk9 _ _ eD, eD9, by rw [List.length_map, List.length_map, sizeLine_eq]; omega, fun p np => ?_⟩
          have sp : Same H9 (upd H9 p (.lst (qs.map V.ref ++ rs.map V.ref))) := same_upd np
          refine ⟨_, _, p, qs ++ rs, rfl, by rw [upd_same, List.map_append], ?_, fun b o e => sp _ _ (kk9 _ _ (kk _ _ e))⟩
          rw [tke, dueL_snoc]
          exact paired_app (TrisAt.tk tr (Tk.of (Same.trans kk9 sp))) (TrisAt.tk tr9 (Tk.of sp))
      rintro σ H8 ⟨u8, u9, DD, qs, rfl, eD, tr, kk⟩
      rw [lkl, List.take_length] at tr
      have eL8 := kk _ _ e7
      refine ⟨eL8, ?_⟩
      have tkU : Tk H8 (upd H8 L (.dT (lotK lt as))) := tk_up eL8 (fun _ z => nomatch z) (fun _ _ z => by
        injection z with _ z
        cases z)
      have s58 : Same H5 (upd H8 L (.dT (lotK lt as))) := fun b o e => by
        by_cases c : b = L
        · rw [c, upd_same]
          rw [c, la.tab] at e
          exact e
        · rw [upd_ne c]
          exact kk _ _ (k7 _ _ (s6 _ _ e) c)
      have eDU : (upd H8 L (.dT (lotK lt as))) DD = some (.lst (qs.map V.ref)) := by
        rw [upd_ne (fun z => by rw [z, eL8] at eD; cases eD)]
        exact eD
      have trU := TrisAt.tk tr tkU
      revert s58 eDU trU
      generalize upd H8 L (.dT (lotK lt as)) = HA
      intro s58 eDU trU
      clear tr eD kk eL8 tkU eL6 tk7 k7 e7 e6 s6
      have ql := Paired.length trU
      have dl := duel lt.length
      rw [List.take_length] at dl
      refine ⟨_, rfl, DD, qs.map V.ref, (dueL lt).map triD, rfl, SqL.of eDU, TrisAt.dp trU, fun d hd d' hd' => ?_, .inl fun d hd => ?_, fun d hd => ?_, by rw [List.length_map, ql]; omega, fun bs pS bm bl bt np => ?_⟩
      · obtain ⟨t1, _, rfl⟩ := List.mem_map.mp hd
        obtain ⟨t2, _, rfl⟩ := List.mem_map.mp hd'
        rfl
      · obtain ⟨t1, _, rfl⟩ := List.mem_map.mp hd
        exact ⟨_, _, rfl⟩
      · obtain ⟨t1, _, rfl⟩ := List.mem_map.mp hd
        show Nat.max 0 (Nat.max 0 (Nat.max 0 0)) + 1 ≤ 60
        decide
      obtain ⟨rs, us2, e1, e2, trS⟩ := tris_sorted trU bm
      rw [bt, sort_tri] at e2
      have e3 := map_inj (fun _ _ => triD_inj) e2
      rw [← e3] at trS
      rw [e1]
      have sS : Same HA (upd HA pS (.lst (rs.map V.ref))) := same_upd np
      have eS : (upd HA pS (.lst (rs.map V.ref))) pS = some (.lst (rs.map V.ref)) := upd_same
      revert sS eS
      generalize upd HA pS (.lst (rs.map V.ref)) = HB
      intro sS eS
      have isd := lo.pops okN
      generalize hts : (dueL lt).mergeSort leT = ts at trS isd
      have tsl : ts.length ≤ 1000 := by
        rw [← hts, List.length_mergeSort]
        exact dl
      refine ⟨pS, rs.map V.ref, rfl, .inl ⟨SqL.of eS, fun DU nDU => ?_⟩⟩
      have sU : Same HB (upd HB DU (.tup (rs.map V.ref))) := same_upd nDU
      have eU : SqT K (upd HB DU (.tup (rs.map V.ref))) DU (rs.map V.ref) := SqT.of upd_same
      revert sU eU
      generalize upd HB DU (.tup (rs.map V.ref)) = HC
      intro sU eU
      have trC := TrisAt.tk trS (Tk.of (sS.trans sU))
      have t3 := pops_t3 okN lo isd
      have s5C := (s58.trans sS).trans sU
      -- repr of the pops, twice
      refine ⟨_, rfl, _, rfl, x, fp, N, fl, rfl, dp_tk (Tk.of s5C) _ _ (flat_nt N) dN5, okN, (Tk.of s5C).seq sf5, fo, fun HD1 q1 qs1 ts1 sD1 sq1 tr1 ip1 => ?_⟩
      have s5D := s5C.trans sD1
      refine ⟨_, rfl, _, rfl, x, fp, N, fl, rfl, dp_tk (Tk.of s5D) _ _ (flat_nt N) dN5, okN, (Tk.of s5D).seq sf5, fo, fun HE q2 qs2 ts2 sE sq2 tr2 ip2 => ?_⟩
      have ee1 := pops_one isd ip1
      have ee2 := pops_one isd ip2
      subst ee1
      subst ee2
      refine ⟨s2le, fun LL nLL => ?_⟩
      have sL : Same HE (upd HE LL (.lst [.ref q1, .ref q2])) := same_upd nLL
      have eLL : (upd HE LL (.lst [.ref q1, .ref q2])) LL = some (.lst [.ref q1, .ref q2]) := upd_same
      revert sL eLL
      generalize upd HE LL (.lst [.ref q1, .ref q2]) = HF
      intro sL eLL
      obtain ⟨sh1, sh2, sh3⟩ := two_shows t3 (by omega)
      have dL : Dp K HF (.ref LL) (.list [.tuple (ts.map triD), .tuple (ts.map triD)]) := .lst (SqL.of eLL) (.cons (.tup ((Tk.of (sE.trans sL)).seq sq1) (TrisAt.dp (TrisAt.tk tr1 (Tk.of (sE.trans sL))))) (.cons (.tup ((Tk.of sL).seq sq2) (TrisAt.dp (TrisAt.tk tr2 (Tk.of sL)))) .nil))
      refine ⟨_, _, false, rfl, da_dp _ _ dL, sh1, sh2, sh3, ?_⟩
      refine ⟨_, rfl, _, rfl, s2le, fun LR nLR => ?_⟩
      have sR : Same HF (upd HF LR (.lst [.ref DU, .ref DU])) := same_upd nLR
      have eLR : (upd HF LR (.lst [.ref DU, .ref DU])) LR = some (.lst [.ref DU, .ref DU]) := upd_same
      revert sR eLR
      generalize upd HF LR (.lst [.ref DU, .ref DU]) = HG
      intro sR eLR
      have sCG := ((sD1.trans sE).trans sL).trans sR
      have dTs : ∀ {H' : Hp}, Same HC H' → Dp K H' (.ref DU) (.tuple (ts.map triD)) := fun {H'} s => .tup ((Tk.of s).seq eU) (TrisAt.dp (TrisAt.tk trC (Tk.of s)))
      have dR : Dp K HG (.ref LR) (.list [.tuple (ts.map triD), .tuple (ts.map triD)]) := .lst (SqL.of eLR) (.cons (dTs sCG) (.cons (dTs sCG) .nil))
      refine ⟨_, _, false, rfl, da_dp _ _ dR, sh1, sh2, sh3, ?_⟩
      refine ⟨rfl, _, rfl, ifF (by simp) ?_⟩
      -- pop_steps, twice
      have s5G := s5C.trans sCG
      refine ⟨_, rfl, _, rfl, x, fp, N, fl, rfl, dp_tk (Tk.of s5G) _ _ (flat_nt N) dN5, okN, (Tk.of s5G).seq sf5, fo, fun HH D1 es1 sH nD1 eD1 l1 is1 => ?_⟩
      refine ⟨_, rfl, s3le, fun kq nkq => ?_⟩
      have skq : Same HH (upd HH kq (.tup [.int 0, .str "a", .int 0])) := same_upd nkq
      have ekq : (upd HH kq (.tup [.int 0, .str "a", .int 0])) kq = some (.tup [.int 0, .str "a", .int 0]) := upd_same
      revert skq ekq
      generalize upd HH kq (.tup [.int 0, .str "a", .int 0]) = HI
      intro skq ekq
      have eD1I := skq _ _ eD1
      refine ⟨D1, _, rfl, DPut.t (k := [Sum.inl 0, Sum.inr "a", Sum.inl 0]) eD1I ekq (by unfold stK; rw [List.length_map, sizeLine_eq]; omega), ?_⟩
      have sGI : Same HG (upd HI D1 (.dT (putK (stK es1) [Sum.inl 0, Sum.inr "a", Sum.inl 0] (V.int 99)))) := fun b o e => by
        rw [upd_ne (ne_of_none e nD1)]
        exact skq _ _ (sH _ _ e)
      revert sGI
      generalize upd HI D1 (.dT (putK (stK es1) [Sum.inl 0, Sum.inr "a", Sum.inl 0] (V.int 99))) = HJ
      intro sGI
      have s5J := s5G.trans sGI
      refine ⟨_, rfl, _, rfl, x, fp, N, fl, rfl, dp_tk (Tk.of s5J) _ _ (flat_nt N) dN5, okN, (Tk.of s5J).seq sf5, fo, fun HK D2 es sK nD2 eD2 l2 is2 => ?_⟩
      have sCK := (sCG.trans sGI).trans sK
      have ees := pops_one isd is2.1
      -- tuple(fewest) != due
      refine ⟨_, rfl, D2, _, rfl, .inl eD2, fun pT bsT npT hkT => ?_⟩
      have sT : Same HK (upd HK pT (.tup (bsT.map V.ref))) := same_upd npT
      have eT : SqT K (upd HK pT (.tup (bsT.map V.ref))) pT (bsT.map V.ref) := SqT.of upd_same
      have trT : TrisAt HK bsT (es.map (·.1)) := by
        have go : ∀ {es : List St} {bs : List Addr}, IsKeys HK (stK es) bs → TrisAt HK bs (es.map (·.1)) := by
          intro es
          induction es with
          | nil =>
            intro bs h
            cases h
            exact .nil
          | cons e es ih =>
            intro bs h
            cases h with
            | cons h t => exact .cons h (ih t)
        exact go hkT
      have trT2 := TrisAt.tk trT (Tk.of sT)
      revert sT eT trT2
      generalize upd HK pT (.tup (bsT.map V.ref)) = HL2
      intro sT eT trT2
      have sCL := sCK.trans sT
      have shT := shaped_tris t3
      refine ⟨_, rfl, .tuple (ts.map triD), .tuple (ts.map triD), by rw [ees]; exact .tup eT (TrisAt.dp trT2), dTs sCL, shT, shT, _, rfl, ?_⟩
      rw [eqv_tris]
      refine ifF rfl ?_
      -- [pop for pop in fewest if not isinstance(fewest[pop], int)] != []
      have eD2L := sT _ _ eD2
      refine ⟨D2, _, eD2L, trivial, fun od2 => ?_⟩
      have kM : ∀ b o, HL2 b = some o → b ≠ D2 → (upd HL2 D2 (.frz od2 (.dT (stK es)))) b = some o := fun b o e n => by rw [upd_ne n]; exact e
      have eM : (upd HL2 D2 (.frz od2 (.dT (stK es)))) D2 = some (.frz od2 (.dT (stK es))) := upd_same
      revert kM eM
      generalize upd HL2 D2 (.frz od2 (.dT (stK es))) = HM
      intro kM eM
      refine ⟨_, rfl, D2, od2, rfl, .inr ⟨stK es, eM, fun D nD => ?_⟩⟩
      have esn : (es.map (·.1)).Nodup := is2.1.2.1
      refine lc_it walk_keysT (fun j H' => H' D = some (.lst []) ∧ ∀ b o, HM b = some o → H' b = some o) ⟨upd_same, fun b o e => by rw [upd_ne (ne_of_none e nD)]; exact e⟩ (fun j H' _ ⟨_, kk⟩ => kk _ _ eM) ?_ ?_
      · rintro j xk H9 H8 hj ⟨eD, kk⟩ ⟨rfl, key, v0, qa, hk, rfl, eq⟩
        obtain ⟨e, he, rfl, rfl⟩ : ∃ e, es[j]? = some e ∧ key = keyS e.1 ∧ v0 = V.int e.2 := by
          unfold stK at hk
          rw [List.getElem?_map, Option.map_eq_some_iff] at hk
          obtain ⟨e, h1, h2⟩ := hk
          injection h2 with h2 h3
          exact ⟨e, h1, h2.symm, h3.symm⟩
        have dg : DGet H8 D2 (.ref qa) (some (V.int e.2)) := .inr ⟨stK es, keyS e.1, qa, .inr ⟨od2, kk _ _ eM⟩, rfl, eq, (stK_get esn (List.mem_of_getElem? he)).symm⟩
        refine ⟨rfl, _, rfl, _, rfl, D2, _, rfl, dg, .int e.2, .ty "int", _, _, true, rfl, .ty _, .base (.int _), kit_ty (by decide +kernel), _, rfl, ?_⟩
        exact ifF rfl ⟨eD, kk⟩
      rintro HN0 ⟨eDN, kkN⟩
      have eN2 := kkN _ _ eM
      have sLN : Same HL2 (upd HN0 D2 (.dT (stK es))) := fun b o e => by
        by_cases c : b = D2
        · rw [c, upd_same]
          rw [c, eD2L] at e
          exact e
        · rw [upd_ne c]
          exact kkN _ _ (kM _ _ e c)
      have eDN2 : (upd HN0 D2 (.dT (stK es))) D = some (.lst []) := by
        rw [upd_ne (fun z => by rw [z, eN2] at eDN; cases eDN)]
        exact eDN
      refine ⟨eN2, Nat.zero_le _, fun Z nZ => ?_⟩
      have sZ : Same (upd HN0 D2 (.dT (stK es))) (upd (upd HN0 D2 (.dT (stK es))) Z (.lst [])) := same_upd nZ
      refine ⟨.list [], .list [], .lst (SqL.of (sZ _ _ eDN2)) .nil, .lst (SqL.of upd_same) .nil, by decide +kernel, by decide +kernel, _, rfl, ifF rfl ?_⟩
      have sCN := sCL.trans (sLN.trans sZ)
      have eD2N := (sLN.trans sZ) _ _ eD2L
      revert sCN eD2N
      generalize upd (upd HN0 D2 (.dT (stK es))) Z (.lst []) = HN
      intro sCN eD2N
      clear sLN sZ eDN2 eDN eN2 kkN kM eM nD nZ
      -- the search, head by head
      have s5N := s5C.trans sCN
      have eLN := s5N _ _ la.tab
      refine ⟨L, _, eLN, trivial, fun od => ?_⟩
      have kO : ∀ b o, HN b = some o → b ≠ L → (upd HN L (.frz od (.dT (lotK lt as)))) b = some o := fun b o e n => by rw [upd_ne n]; exact e
      have eO : (upd HN L (.frz od (.dT (lotK lt as)))) L = some (.frz od (.dT (lotK lt as))) := upd_same
      revert kO eO
      generalize upd HN L (.frz od (.dT (lotK lt as))) = HO1
      intro kO eO
      have k5O : ∀ b o, H5 b = some o → b ≠ L → HO1 b = some o := fun b o e n => kO _ _ (s5N _ _ e) n
      have neD2L : D2 ≠ L := fun z => by
        have q := s5J _ _ la.tab
        rw [← z, nD2] at q
        cases q
      have eD2O := kO _ _ eD2N neD2L
      have gaO : GoAt K HO1 G (lmN N fl) us := GoAt.but ga5 la.tab (fun z => by
        have q := s5 _ _ ga.1
        rw [z] at q
        have q2 := nL
        rw [← z, ga.1] at q2
        cases q2) k5O
      refine ⟨_, rfl, L, od, rfl, .inr ⟨lotK lt as, eO, ?_⟩⟩
      refine for_it walk_keysT (fun j σ H' => ∃ (u8 u9 u13 u14 : Option V), σ = [some (.ref a), some (.ref m), some (.int (0 + (i : Int))), some x, some (.ref fp), some (.ref G), some (.ref L), some (.ref DU), u8, u9, some (.ref D1), some (.ref D2), none, u13, u14] ∧ ∀ b o, HO1 b = some o → H' b = some o) ⟨_, _, _, _, rfl, fun b o e => e⟩ (fun j σ H' _ ⟨_, _, _, _, _, kk⟩ => kk _ _ eO) ?_ ?_
      rotate_left
      · rintro σ H' ⟨u8, u9, u13, u14, rfl, kk⟩
        have eL' := kk _ _ eO
        refine ⟨eL', _, _, _, _, _, _, _, _, _, _, _, _, n2, rfl, M5.same fun b o e => ?_, by omega⟩
        by_cases c : b = L
        · rw [c, upd_same]
          rw [c, la.tab] at e
          exact e
        · rw [upd_ne c]
          exact kk _ _ (k5O _ _ e c)
      rintro j xk σ H9 H8 hj ⟨u8, u9, u13, u14, rfl, kk⟩ ⟨rfl, key, v0, qa, hk, rfl, eq⟩
      obtain ⟨e, u, he, hu, rfl, rfl, eu⟩ := walk hk
      have eqa : H8 qa = some (.tup [V.int e.1.1, .str e.1.2]) := eq
      have ein := List.mem_of_getElem? he
      have kin : e.1 ∈ lt.map (·.1) := List.mem_map_of_mem (f := fun e : (Int × Str) × List Int => e.1) ein
      obtain ⟨a0, a1, a2, a3⟩ := lo.key kin
      have elook : lookL lt e.1 = e.2 := lookL_mem la.nd ein
      have roke := (li.ok e ein).len
      have neuL : u ≠ L := fun z => by
        rw [z, la.tab] at eu
        cases eu
      have euO := kk _ _ (k5O _ _ eu neuL)
      have ga8 := gaO.keep kk
      -- shown
      refine ⟨_, rfl, _, rfl, qa, _, _, V.int e.1.1, rfl, rfl, SqT.of eqa, rfl, _, rfl, qa, _, _, V.str e.1.2, rfl, rfl, SqT.of eqa, rfl, G, e.1.1, e.1.2, lmN N fl, us, N.roads.length, N.labels, rfl, ga8, lmN_nd okN fl, by omega, a0, a1, a2, okN.lw, fun s y h0 h1 hy => lm_tot h0 h1 hy, fun q hq => ?_, fun v H9 s9 hv => ?_⟩
      · obtain ⟨z1, z2⟩ := lm_ok okN hq
        refine ⟨by omega, fun c hc => ?_⟩
        obtain ⟨b1, b2, _, b4, b5⟩ := z2 c hc
        exact ⟨b1, b2, b4, b5⟩
      have kk9 : ∀ b o, HO1 b = some o → H9 b = some o := fun b o e => s9 _ _ (kk _ _ e)
      have dg9 : ∀ {H' : Hp}, Same H9 H' → DGet H' L (.ref qa) (some (V.ref u)) := fun {H'} s => getL (s _ _ (kk9 _ _ eO)) (s _ _ (s9 _ _ eqa)) he hu
      rcases hv with rfl | ⟨SDm, sm, rfl, nSD, eSD, sml, shn⟩
      · -- nothing is shown
        refine ⟨_, rfl, rfl, _, rfl, ifF rfl ?_⟩
        refine ⟨Nat.zero_le _, fun Z nZ => ?_⟩
        have sZ : Same H9 (upd H9 Z (.lst [])) := same_upd nZ
        have eZ : (upd H9 Z (.lst [])) Z = some (.lst []) := upd_same
        refine ⟨Z, rfl, ⟨_, SqL.of eZ⟩, ?_⟩
        refine for_list (K := K) (a := Z) (xs := []) (fun t σ H' => σ = [some (.ref a), some (.ref m), some (.int (0 + (i : Int))), some x, some (.ref fp), some (.ref G), some (.ref L), some (.ref DU), some (.ref qa), u9, some (.ref D1), some (.ref D2), none, some .non, u14] ∧ H' = upd H9 Z (.lst [])) ⟨rfl, rfl⟩ (fun t σ H' _ h => by rw [h.2]; exact SqL.of eZ) ?_ ?_
        · rintro t xv σ H' hx _
          simp at hx
        rintro σ H' ⟨rfl, rfl⟩
        refine ⟨_, rfl, rfl, _, rfl, ifF rfl ?_⟩
        refine ⟨Nat.zero_le _, fun Z2 nZ2 => ?_⟩
        have sZ2 := sZ.trans (same_upd (o := .lst []) nZ2)
        refine ⟨_, rfl, Nat.zero_le _, fun Z3 nZ3 => ?_⟩
        have sZ3 := same_upd (o := .lst []) nZ3
        refine ⟨.list [], .list [], .lst (SqL.of (sZ3 _ _ upd_same)) .nil, .lst (SqL.of upd_same) .nil, by decide +kernel, by decide +kernel, _, rfl, ifF rfl ?_⟩
        exact ⟨_, _, _, _, rfl, fun b o e => sZ3 _ _ (sZ2 _ _ (kk9 _ _ e))⟩
      -- what is shown is right
      refine ⟨_, rfl, rfl, _, rfl, ifT rfl ?_⟩
      refine ⟨_, rfl, _, rfl, L, _, rfl, dg9 (Same.refl _), u, rfl, ⟨_, SqL.of (s9 _ _ euO)⟩, ?_⟩
      refine for_list (K := K) (a := u) (xs := e.2.map V.int) (fun t σ H' => ∃ u9 : Option V, σ = [some (.ref a), some (.ref m), some (.int (0 + (i : Int))), some x, some (.ref fp), some (.ref G), some (.ref L), some (.ref DU), some (.ref qa), u9, some (.ref D1), some (.ref D2), none, some (.ref SDm), u14] ∧ Same H9 H') ⟨_, rfl, Same.refl _⟩ (fun t σ H' _ ⟨_, _, sm⟩ => SqL.of (sm _ _ (s9 _ _ euO))) ?_ ?_
      · rintro t xv σ H' hx ⟨u9', rfl, sH⟩
        rw [List.getElem?_map, Option.map_eq_some_iff] at hx
        obtain ⟨y, hy, rfl⟩ := hx
        have yin : y ∈ lookL lt e.1 := by
          rw [elook]
          exact List.mem_of_getElem? hy
        have tin : ((e.1, y) : Tri) ∈ es.map (·.1) := by
          rw [← ees, isd.2.2]
          obtain ⟨w0, d0⟩ := lo.mem.mp yin
          exact ⟨w0, der_lm.mp d0⟩
        obtain ⟨se, hse, ese⟩ := List.mem_map.mp tin
        obtain ⟨st, W⟩ := se
        have ese : st = (e.1, y) := ese
        subst ese
        obtain ⟨dW, lW⟩ := is2.2 _ hse
        have gW := stK_get esn hse
        have sv : (getR sm y).getD (if W > 7 then W else 7) = W := shown_val okN a3 shn dW lW
        have key3 : ∀ {H' : Hp} {tp : Addr} {Q' : V → Hp → Prop}, Same H9 H' → H' tp = some (.tup [V.int y]) → (∀ (p : Addr) (H'' : Hp), Same H' H'' → H'' p = some (.tup [V.int e.1.1, .str e.1.2, .int y]) → Q' (.ref p) H'') → rCatA K (.ref qa) (.ref tp) H' Q' := fun {H' tp Q'} s et kq => by
          refine ⟨qa, tp, _, _, rfl, rfl, SqT.of (s _ _ (s9 _ _ eqa)), SqT.of et, by rw [sizeLine_eq]; show 3 ≤ 16777216; decide, (fun z => nomatch z), (fun _ z => nomatch z), fun _ _ p np => ?_⟩
          exact kq p _ (same_upd np) upd_same
        have dgF : ∀ {H' : Hp} {p : Addr}, Same H9 H' → H' p = some (.tup [V.int e.1.1, .str e.1.2, .int y]) → DGet H' D2 (.ref p) (some (V.int W)) := fun {H' p} s ep => by
          have z := DGet.t (k := keyS (e.1, y)) (s _ _ (kk9 _ _ eD2O)) ep
          rw [gW] at z
          exact z
        refine ⟨_, rfl, _, rfl, _, rfl, s1le, fun tp ntp => ?_⟩
        refine key3 (sH.trans (same_upd ntp)) upd_same fun p HQ sQ eQ => ?_
        have sHQ := (sH.trans (same_upd (o := .tup [V.int y]) ntp)).trans sQ
        refine ⟨D2, V.int W, rfl, dgF sHQ eQ, ?_⟩
        refine ⟨_, rfl, SDm, rfl, .inl ⟨_, .inl (sHQ _ _ eSD)⟩, _, rfl, _, rfl, _, rfl, _, rfl, s1le, fun tp2 ntp2 => ?_⟩
        refine key3 (sHQ.trans (same_upd ntp2)) upd_same fun p2 HR sR2 eR2 => ?_
        have sHR := (sHQ.trans (same_upd (o := .tup [V.int y]) ntp2)).trans sR2
        refine ⟨D2, V.int W, rfl, dgF sHR eR2, 7, W, rfl, ?_⟩
        have dgS : DGet HR SDm (.int y) ((getR sm y).map V.int) := by
          rw [← rK_get]
          exact DGet.k (k := Sum.inl y) (sHR _ _ eSD)
        refine ⟨_, dgS, ?_⟩
        have fin : ((getR sm y).map V.int).getD (.int (if W > 7 then W else 7)) = .int W := by
          revert sv
          cases getR sm y with
          | none => exact fun sv => congrArg V.int sv
          | some v => exact fun sv => congrArg V.int sv
        rw [fin]
        refine ⟨rfl, _, rfl, ifF (by simp) ?_⟩
        exact ⟨_, rfl, sHR⟩
      rintro σ H' ⟨u9', rfl, sH⟩
      have k9' : ∀ b o, HO1 b = some o → H' b = some o := fun b o e => sH _ _ (kk9 _ _ e)
      refine ⟨_, rfl, rfl, _, rfl, ifT rfl ?_⟩
      have eSH := sH _ _ eSD
      refine ⟨SDm, _, eSH, trivial, fun od3 => ?_⟩
      have nSO : HO1 SDm = none := by
        cases z : HO1 SDm with
        | none => rfl
        | some o =>
          rw [kk _ _ z] at nSD
          cases nSD
      have kP : ∀ b o, H' b = some o → b ≠ SDm → (upd H' SDm (.frz od3 (.dK (rK sm)))) b = some o := fun b o e n => by rw [upd_ne n]; exact e
      have eP : (upd H' SDm (.frz od3 (.dK (rK sm)))) SDm = some (.frz od3 (.dK (rK sm))) := upd_same
      revert kP eP
      generalize upd H' SDm (.frz od3 (.dK (rK sm))) = HP
      intro kP eP
      refine ⟨_, rfl, SDm, od3, rfl, .inl ⟨rK sm, eP, fun D nD => ?_⟩⟩
      have euP : HP u = some (.lst (e.2.map V.int)) := kP _ _ (sH _ _ (s9 _ _ euO)) (fun z => by
        rw [z] at euO
        rw [euO] at nSD
        cases nSD)
      have eqP : HP qa = some (.tup [V.int e.1.1, .str e.1.2]) := kP _ _ (sH _ _ (s9 _ _ eqa)) (fun z => by
        rw [z, nSD] at eqa
        cases eqa)
      have eOP : HP L = some (.frz od (.dT (lotK lt as))) := kP _ _ (k9' _ _ eO) (fun z => by
        rw [z, nSO] at eO
        cases eO)
      refine lc_it walk_keys (fun t H' => H' D = some (.lst []) ∧ ∀ b o, HP b = some o → H' b = some o) ⟨upd_same, fun b o e => by rw [upd_ne (ne_of_none e nD)]; exact e⟩ (fun t H' _ ⟨_, kk⟩ => kk _ _ eP) ?_ ?_
      · rintro t xv HQ HR ht ⟨eD, kq⟩ ⟨rfl, key, v1, hk1, rfl⟩
        obtain ⟨pp, hp1, rfl⟩ : ∃ pp, sm[t]? = some pp ∧ key = Sum.inl pp.1 := by
          unfold rK at hk1
          rw [List.getElem?_map, Option.map_eq_some_iff] at hk1
          obtain ⟨q, h1, h2⟩ := hk1
          injection h2 with h2 _
          exact ⟨q, h1, h2.symm⟩
        have pin := shown_in okN lo a3 shn (List.mem_of_getElem? hp1)
        rw [elook] at pin
        have dgL := getL (kq _ _ eOP) (kq _ _ eqP) he hu
        refine ⟨rfl, _, rfl, _, rfl, _, rfl, L, _, rfl, dgL, u, _, rfl, .inl (SqL.of (kq _ _ euP)), rfl, flat_ints e.2, _, rfl, ?_⟩
        refine ifF ?_ ⟨eD, kq⟩
        show (!inV (V.int pp.1) (e.2.map V.int)) = false
        rw [inV_ints, decide_eq_true pin]
        rfl
      rintro HQ ⟨eDQ, kq⟩
      have eSQ := kq _ _ eP
      refine ⟨eSQ, ?_⟩
      have eDQ2 : (upd HQ SDm (.dK (rK sm))) D = some (.lst []) := by
        rw [upd_ne (fun z => by rw [z, eSQ] at eDQ; cases eDQ)]
        exact eDQ
      refine ⟨_, rfl, Nat.zero_le _, fun Z nZ => ?_⟩
      have sZ : Same (upd HQ SDm (.dK (rK sm))) (upd (upd HQ SDm (.dK (rK sm))) Z (.lst [])) := same_upd nZ
      refine ⟨.list [], .list [], .lst (SqL.of (sZ _ _ eDQ2)) .nil, .lst (SqL.of upd_same) .nil, by decide +kernel, by decide +kernel, _, rfl, ifF rfl ?_⟩
      refine ⟨_, _, _, _, rfl, fun b o eb => sZ _ _ ?_⟩
      have nb : b ≠ SDm := fun z => by
        rw [z, nSO] at eb
        cases eb
      rw [upd_ne nb]
      exact kq _ _ (kP _ _ (k9' _ _ eb) nb)
    · rintro σ h0 ⟨u2, u3, u4, u5, u6, u7, u8, u9, u10, u11, u13, u14, n0, rfl, _, _⟩
      refine ⟨s2le, fun p1 np1 => ?_⟩
      have s1 : Same h0 (upd h0 p1 (.tup [.int 0, .int 0])) := same_upd np1
      have e1 : (upd h0 p1 (.tup [.int 0, .int 0])) p1 = some (.tup [.int 0, .int 0]) := upd_same
      revert s1 e1
      generalize upd h0 p1 (.tup [.int 0, .int 0]) = h1
      intro s1 e1
      refine ⟨s2le, fun p2 np2 => ?_⟩
      have s2 : Same h1 (upd h1 p2 (.tup [.int 0, .int 1])) := same_upd np2
      have e2 : (upd h1 p2 (.tup [.int 0, .int 1])) p2 = some (.tup [.int 0, .int 1]) := upd_same
      revert s2 e2
      generalize upd h1 p2 (.tup [.int 0, .int 1]) = h2
      intro s2 e2
      refine ⟨s2le, fun p3 np3 => ?_⟩
      have s3 : Same h2 (upd h2 p3 (.tup [.ref p1, .ref p2])) := same_upd np3
      have e3 : (upd h2 p3 (.tup [.ref p1, .ref p2])) p3 = some (.tup [.ref p1, .ref p2]) := upd_same
      revert s3 e3
      generalize upd h2 p3 (.tup [.ref p1, .ref p2]) = h3
      intro s3 e3
      refine ⟨s2le, fun p4 np4 => ?_⟩
      have s4 : Same h3 (upd h3 p4 (.tup [.str "a", .str "b"])) := same_upd np4
      have e4 : (upd h3 p4 (.tup [.str "a", .str "b"])) p4 = some (.tup [.str "a", .str "b"]) := upd_same
      revert s4 e4
      generalize upd h3 p4 (.tup [.str "a", .str "b"]) = h4
      intro s4 e4
      refine ⟨s2le, fun p5 np5 => ?_⟩
      have s5 : Same h4 (upd h4 p5 (.tup [.int 0, .str "a"])) := same_upd np5
      have e5 : (upd h4 p5 (.tup [.int 0, .str "a"])) p5 = some (.tup [.int 0, .str "a"]) := upd_same
      revert s5 e5
      generalize upd h4 p5 (.tup [.int 0, .str "a"]) = h5
      intro s5 e5
      refine ⟨s2le, fun p6 np6 => ?_⟩
      have s6 : Same h5 (upd h5 p6 (.tup [.str "b", .str "b"])) := same_upd np6
      have e6 : (upd h5 p6 (.tup [.str "b", .str "b"])) p6 = some (.tup [.str "b", .str "b"]) := upd_same
      revert s6 e6
      generalize upd h5 p6 (.tup [.str "b", .str "b"]) = h6
      intro s6 e6
      refine ⟨s2le, fun p7 np7 => ?_⟩
      have s7 : Same h6 (upd h6 p7 (.tup [.int 0, .ref p6])) := same_upd np7
      have e7 : (upd h6 p7 (.tup [.int 0, .ref p6])) p7 = some (.tup [.int 0, .ref p6]) := upd_same
      revert s7 e7
      generalize upd h6 p7 (.tup [.int 0, .ref p6]) = h7
      intro s7 e7
      refine ⟨s1le, fun p8 np8 => ?_⟩
      have s8 : Same h7 (upd h7 p8 (.tup [.ref p7])) := same_upd np8
      have e8 : (upd h7 p8 (.tup [.ref p7])) p8 = some (.tup [.ref p7]) := upd_same
      revert s8 e8
      generalize upd h7 p8 (.tup [.ref p7]) = h8
      intro s8 e8
      refine ⟨s1le, fun p9 np9 => ?_⟩
      have s9 : Same h8 (upd h8 p9 (.tup [.ref p8])) := same_upd np9
      have e9 : (upd h8 p9 (.tup [.ref p8])) p9 = some (.tup [.ref p8]) := upd_same
      revert s9 e9
      generalize upd h8 p9 (.tup [.ref p8]) = h9
      intro s9 e9
      refine ⟨s2le, fun p10 np10 => ?_⟩
      have s10 : Same h9 (upd h9 p10 (.tup [.ref p5, .ref p9])) := same_upd np10
      have e10 : (upd h9 p10 (.tup [.ref p5, .ref p9])) p10 = some (.tup [.ref p5, .ref p9]) := upd_same
      revert s10 e10
      generalize upd h9 p10 (.tup [.ref p5, .ref p9]) = h10
      intro s10 e10
      refine ⟨s2le, fun p11 np11 => ?_⟩
      have s11 : Same h10 (upd h10 p11 (.tup [.int 0, .str "b"])) := same_upd np11
      have e11 : (upd h10 p11 (.tup [.int 0, .str "b"])) p11 = some (.tup [.int 0, .str "b"]) := upd_same
      revert s11 e11
      generalize upd h10 p11 (.tup [.int 0, .str "b"]) = h11
      intro s11 e11
      refine ⟨Nat.zero_le _, fun p12 np12 => ?_⟩
      have s12 : Same h11 (upd h11 p12 (.tup [])) := same_upd np12
      have e12 : (upd h11 p12 (.tup [])) p12 = some (.tup []) := upd_same
      revert s12 e12
      generalize upd h11 p12 (.tup []) = h12
      intro s12 e12
      refine ⟨s2le, fun p13 np13 => ?_⟩
      have s13 : Same h12 (upd h12 p13 (.tup [.int 1, .ref p12])) := same_upd np13
      have e13 : (upd h12 p13 (.tup [.int 1, .ref p12])) p13 = some (.tup [.int 1, .ref p12]) := upd_same
      revert s13 e13
      generalize upd h12 p13 (.tup [.int 1, .ref p12]) = h13
      intro s13 e13
      refine ⟨s1le, fun p14 np14 => ?_⟩
      have s14 : Same h13 (upd h13 p14 (.tup [.ref p13])) := same_upd np14
      have e14 : (upd h13 p14 (.tup [.ref p13])) p14 = some (.tup [.ref p13]) := upd_same
      revert s14 e14
      generalize upd h13 p14 (.tup [.ref p13]) = h14
      intro s14 e14
      refine ⟨Nat.zero_le _, fun p15 np15 => ?_⟩
      have s15 : Same h14 (upd h14 p15 (.tup [])) := same_upd np15
      have e15 : (upd h14 p15 (.tup [])) p15 = some (.tup []) := upd_same
      revert s15 e15
      generalize upd h14 p15 (.tup []) = h15
      intro s15 e15
      refine ⟨s2le, fun p16 np16 => ?_⟩
      have s16 : Same h15 (upd h15 p16 (.tup [.int 0, .ref p15])) := same_upd np16
      have e16 : (upd h15 p16 (.tup [.int 0, .ref p15])) p16 = some (.tup [.int 0, .ref p15]) := upd_same
      revert s16 e16
      generalize upd h15 p16 (.tup [.int 0, .ref p15]) = h16
      intro s16 e16
      refine ⟨s1le, fun p17 np17 => ?_⟩
      have s17 : Same h16 (upd h16 p17 (.tup [.ref p16])) := same_upd np17
      have e17 : (upd h16 p17 (.tup [.ref p16])) p17 = some (.tup [.ref p16]) := upd_same
      revert s17 e17
      generalize upd h16 p17 (.tup [.ref p16]) = h17
      intro s17 e17
      refine ⟨s2le, fun p18 np18 => ?_⟩
      have s18 : Same h17 (upd h17 p18 (.tup [.ref p14, .ref p17])) := same_upd np18
      have e18 : (upd h17 p18 (.tup [.ref p14, .ref p17])) p18 = some (.tup [.ref p14, .ref p17]) := upd_same
      revert s18 e18
      generalize upd h17 p18 (.tup [.ref p14, .ref p17]) = h18
      intro s18 e18
      refine ⟨s2le, fun p19 np19 => ?_⟩
      have s19 : Same h18 (upd h18 p19 (.tup [.ref p11, .ref p18])) := same_upd np19
      have e19 : (upd h18 p19 (.tup [.ref p11, .ref p18])) p19 = some (.tup [.ref p11, .ref p18]) := upd_same
      revert s19 e19
      generalize upd h18 p19 (.tup [.ref p11, .ref p18]) = h19
      intro s19 e19
      refine ⟨s2le, fun p20 np20 => ?_⟩
      have s20 : Same h19 (upd h19 p20 (.tup [.ref p10, .ref p19])) := same_upd np20
      have e20 : (upd h19 p20 (.tup [.ref p10, .ref p19])) p20 = some (.tup [.ref p10, .ref p19]) := upd_same
      revert s20 e20
      generalize upd h19 p20 (.tup [.ref p10, .ref p19]) = h20
      intro s20 e20
      refine ⟨s3le, fun p21 np21 => ?_⟩
      have s21 : Same h20 (upd h20 p21 (.tup [.ref p3, .ref p4, .ref p20])) := same_upd np21
      have e21 : (upd h20 p21 (.tup [.ref p3, .ref p4, .ref p20])) p21 = some (.tup [.ref p3, .ref p4, .ref p20]) := upd_same
      revert s21 e21
      generalize upd h20 p21 (.tup [.ref p3, .ref p4, .ref p20]) = h21
      intro s21 e21
      have t21 : Same h21 h21 := Same.refl _
      have t20 : Same h20 h21 := s21.trans t21
      have t19 : Same h19 h21 := s20.trans t20
      have t18 : Same h18 h21 := s19.trans t19
      have t17 : Same h17 h21 := s18.trans t18
      have t16 : Same h16 h21 := s17.trans t17
      have t15 : Same h15 h21 := s16.trans t16
      have t14 : Same h14 h21 := s15.trans t15
      have t13 : Same h13 h21 := s14.trans t14
      have t12 : Same h12 h21 := s13.trans t13
      have t11 : Same h11 h21 := s12.trans t12
      have t10 : Same h10 h21 := s11.trans t11
      have t9 : Same h9 h21 := s10.trans t10
      have t8 : Same h8 h21 := s9.trans t9
      have t7 : Same h7 h21 := s8.trans t8
      have t6 : Same h6 h21 := s7.trans t7
      have t5 : Same h5 h21 := s6.trans t6
      have t4 : Same h4 h21 := s5.trans t5
      have t3 : Same h3 h21 := s4.trans t4
      have t2 : Same h2 h21 := s3.trans t3
      have t1 : Same h1 h21 := s2.trans t2
      have E1 := SqT.of (K := K) (t1 _ _ e1)
      have E2 := SqT.of (K := K) (t2 _ _ e2)
      have E3 := SqT.of (K := K) (t3 _ _ e3)
      have E4 := SqT.of (K := K) (t4 _ _ e4)
      have E5 := SqT.of (K := K) (t5 _ _ e5)
      have E6 := SqT.of (K := K) (t6 _ _ e6)
      have E7 := SqT.of (K := K) (t7 _ _ e7)
      have E8 := SqT.of (K := K) (t8 _ _ e8)
      have E9 := SqT.of (K := K) (t9 _ _ e9)
      have E10 := SqT.of (K := K) (t10 _ _ e10)
      have E11 := SqT.of (K := K) (t11 _ _ e11)
      have E12 := SqT.of (K := K) (t12 _ _ e12)
      have E13 := SqT.of (K := K) (t13 _ _ e13)
      have E14 := SqT.of (K := K) (t14 _ _ e14)
      have E15 := SqT.of (K := K) (t15 _ _ e15)
      have E16 := SqT.of (K := K) (t16 _ _ e16)
      have E17 := SqT.of (K := K) (t17 _ _ e17)
      have E18 := SqT.of (K := K) (t18 _ _ e18)
      have E19 := SqT.of (K := K) (t19 _ _ e19)
      have E20 := SqT.of (K := K) (t20 _ _ e20)
      have E21 := SqT.of (K := K) (t21 _ _ e21)
      have pr : ∀ {p : Addr} {i j : Int}, SqT K h21 p [.int i, .int j] → Dp K h21 (.ref p) (dPr (i, j)) := fun e => .tup e (.cons (.int _) (.cons (.int _) .nil))
      have dN : Dp K h21 (.ref p21) (dNt nH) := .tup E21 (.cons (.tup E3 (.cons (pr E1) (.cons (pr E2) .nil))) (.cons (.tup E4 (dp_strs [Str.ofString "a", Str.ofString "b"])) (.cons (.tup E20 (.cons (.tup E10 (.cons (.tup E5 (.cons (.int _) (.cons (.str _) .nil))) (.cons (.tup E9 (.cons (.tup E8 (.cons (.tup E7 (.cons (.int _) (.cons (.tup E6 (dp_strs [Str.ofString "b", Str.ofString "b"])) .nil))) .nil)) .nil)) .nil))) (.cons (.tup E19 (.cons (.tup E11 (.cons (.int _) (.cons (.str _) .nil))) (.cons (.tup E18 (.cons (.tup E14 (.cons (.tup E13 (.cons (.int _) (.cons (.tup E12 .nil) .nil))) .nil)) (.cons (.tup E17 (.cons (.tup E16 (.cons (.int _) (.cons (.tup E15 .nil) .nil))) .nil)) .nil))) .nil))) .nil))) .nil)))
      clear E1 E2 E3 E4 E5 E6 E7 E8 E9 E10 E11 E12 E13 E14 E15 E16 E17 E18 E19 E20 E21 t1 t2 t3 t4 t5 t6 t7 t8 t9 t10 t11 t12 t13 t14 t15 t16 t17 t18 t19 t20 t21 s1 s2 s3 s4 s5 s6 s7 s8 s9 s10 s11 s12 s13 s14 s15 s16 s17 s18 s19 s20 s21 e1 e2 e3 e4 e5 e6 e7 e8 e9 e10 e11 e12 e13 e14 e15 e16 e17 e18 e19 e20 e21
      -- pops(net, ()) != ((0, 'b', 1),)
      refine ⟨_, rfl, Nat.zero_le _, fun f0 nf0 => ?_⟩
      have sf0 : Same h21 (upd h21 f0 (.tup [])) := same_upd nf0
      have ef0 : (upd h21 f0 (.tup [])) f0 = some (.tup []) := upd_same
      revert sf0 ef0
      generalize upd h21 f0 (.tup []) = g0
      intro sf0 ef0
      refine ⟨_, f0, nH, [], rfl, dp_tk (Tk.of sf0) _ _ (flat_nt nH) dN, nH_ok, SqT.of ef0, ⟨.nil, (fun _ h => nomatch h), Nat.zero_le _⟩, fun g1 q1 qs1 ts1 sg1 sq1 tr1 ip1 => ?_⟩
      have ee1 := hand1 ip1
      refine ⟨s3le, fun c1 nc1 => ?_⟩
      have sc1 : Same g1 (upd g1 c1 (.tup [.int 0, .str "b", .int 1])) := same_upd nc1
      have ec1 : (upd g1 c1 (.tup [.int 0, .str "b", .int 1])) c1 = some (.tup [.int 0, .str "b", .int 1]) := upd_same
      revert sc1 ec1
      generalize upd g1 c1 (.tup [.int 0, .str "b", .int 1]) = g2
      intro sc1 ec1
      refine ⟨s1le, fun c2 nc2 => ?_⟩
      have sc2 : Same g2 (upd g2 c2 (.tup [.ref c1])) := same_upd nc2
      have ec2 : (upd g2 c2 (.tup [.ref c1])) c2 = some (.tup [.ref c1]) := upd_same
      revert sc2 ec2
      generalize upd g2 c2 (.tup [.ref c1]) = g3
      intro sc2 ec2
      have s13 := sc1.trans sc2
      have dl1 : Dp K g3 (.ref q1) (.tuple [triD (((0, "b"), 1) : Tri)]) := by
        have z := TrisAt.dp (K := K) (TrisAt.tk tr1 (Tk.of s13))
        rw [ee1] at z
        exact .tup ((Tk.of s13).seq sq1) z
      have dr1 : Dp K g3 (.ref c2) (.tuple [triD (((0, "b"), 1) : Tri)]) := .tup (SqT.of ec2) (.cons (.tup (SqT.of (sc2 _ _ ec1)) (.cons (.int _) (.cons (.str _) (.cons (.int _) .nil)))) .nil)
      refine ⟨_, _, dl1, dr1, by decide +kernel, by decide +kernel, _, rfl, ifF (by decide +kernel) ?_⟩
      -- pop_steps(net, (1,)) != {..}
      have s03 := (sf0.trans sg1).trans s13
      refine ⟨_, rfl, s1le, fun f1 nf1 => ?_⟩
      have sf1 : Same g3 (upd g3 f1 (.tup [.int 1])) := same_upd nf1
      have ef1 : (upd g3 f1 (.tup [.int 1])) f1 = some (.tup [.int 1]) := upd_same
      revert sf1 ef1
      generalize upd g3 f1 (.tup [.int 1]) = g4
      intro sf1 ef1
      have s04 := s03.trans sf1
      have fo1 : FlOk [1] nH.roads.length := ⟨List.pairwise_singleton _ _, (fun z hz => by rw [List.mem_singleton.mp hz]; exact ⟨by decide, by decide⟩), by decide⟩
      refine ⟨_, f1, nH, [1], rfl, dp_tk (Tk.of s04) _ _ (flat_nt nH) dN, nH_ok, SqT.of ef1, fo1, fun g5 D es sg5 nD eD _ is => ?_⟩
      have ee2 := hand2 is
      refine fun E nE => ?_
      have sE : Same g5 (upd g5 E (.dT [])) := same_upd nE
      have eE : (upd g5 E (.dT [])) E = some (.dT []) := upd_same
      revert sE eE
      generalize upd g5 E (.dT []) = g6
      intro sE eE
      refine ⟨s3le, fun k1 nk1 => ?_⟩
      have sk1 : Same g6 (upd g6 k1 (.tup [.int 0, .str "a", .int 0])) := same_upd nk1
      have ek1 : (upd g6 k1 (.tup [.int 0, .str "a", .int 0])) k1 = some (.tup [.int 0, .str "a", .int 0]) := upd_same
      revert sk1 ek1
      generalize upd g6 k1 (.tup [.int 0, .str "a", .int 0]) = g7
      intro sk1 ek1
      refine ⟨s3le, fun k2 nk2 => ?_⟩
      have sk2 : Same g7 (upd g7 k2 (.tup [.int 0, .str "b", .int 0])) := same_upd nk2
      have ek2 : (upd g7 k2 (.tup [.int 0, .str "b", .int 0])) k2 = some (.tup [.int 0, .str "b", .int 0]) := upd_same
      revert sk2 ek2
      generalize upd g7 k2 (.tup [.int 0, .str "b", .int 0]) = g8
      intro sk2 ek2
      have eE8 := sk2 _ _ (sk1 _ _ eE)
      have eD8 := sk2 _ _ (sk1 _ _ (sE _ _ eD))
      refine ⟨k1, k2, keyS ((0, "a"), 0), keyS ((0, "b"), 0), rfl, sk2 _ _ ek1, rfl, ek2, eE8, ?_⟩
      have neDE : D ≠ E := fun z => by
        rw [← z, eD] at nE
        cases nE
      have epk : putK (putK ([] : List (List L2.Key × V)) (keyS ((0, "a"), 0)) (V.int 3)) (keyS ((0, "b"), 0)) (V.int 1) = stK [(((0, "a"), 0), 3), (((0, "b"), 0), 1)] := by
        rw [show putK ([] : List (List L2.Key × V)) (keyS ((0, "a"), 0)) (V.int 3) = stK [(((0, "a"), 0), 3)] from rfl]
        exact stK_put (es := [(((0, "a"), 0), 3)]) (e := (((0, "b"), 0), 1)) (by decide +kernel)
      have sE9 : ∀ b o, g8 b = some o → b ≠ E → (upd g8 E (.dT (putK (putK ([] : List (List L2.Key × V)) (keyS ((0, "a"), 0)) (V.int 3)) (keyS ((0, "b"), 0)) (V.int 1)))) b = some o := fun b o e n => by rw [upd_ne n]; exact e
      have eE9 : (upd g8 E (.dT (putK (putK ([] : List (List L2.Key × V)) (keyS ((0, "a"), 0)) (V.int 3)) (keyS ((0, "b"), 0)) (V.int 1)))) E = some (.dT (stK [(((0, "a"), 0), 3), (((0, "b"), 0), 1)])) := by rw [upd_same, epk]
      revert sE9 eE9
      generalize upd g8 E (.dT (putK (putK ([] : List (List L2.Key × V)) (keyS ((0, "a"), 0)) (V.int 3)) (keyS ((0, "b"), 0)) (V.int 1))) = g9
      intro sE9 eE9
      rw [ee2] at eD8
      refine ⟨D, E, _, _, rfl, rfl, sE9 _ _ eD8 neDE, eE9, rfl, fun p hp => ?_, _, rfl, ifF rfl ?_⟩
      · have hp0 := hp
        unfold stK at hp
        obtain ⟨q, _, rfl⟩ := List.mem_map.mp hp
        exact ⟨q.2, rfl, hp0⟩
      -- pops(net, (0, 1)) == ()
      have dN9 : Dp K g9 (.ref p21) (dNt nH) := by
        have z := dp_tk (Tk.of (((((s04.trans sg5).trans sE).trans sk1).trans sk2))) _ _ (flat_nt nH) dN
        exact dp_tk (fun b xs => ⟨fun e => sE9 _ _ e (fun z => by rw [z, eE8] at e; cases e), fun o e => sE9 _ _ e (fun z => by rw [z, eE8] at e; cases e)⟩) _ _ (flat_nt nH) z
      refine ⟨_, rfl, s2le, fun f2 nf2 => ?_⟩
      have sf2 : Same g9 (upd g9 f2 (.tup [.int 0, .int 1])) := same_upd nf2
      have ef2 : (upd g9 f2 (.tup [.int 0, .int 1])) f2 = some (.tup [.int 0, .int 1]) := upd_same
      revert sf2 ef2
      generalize upd g9 f2 (.tup [.int 0, .int 1]) = g10
      intro sf2 ef2
      have fo2 : FlOk [0, 1] nH.roads.length := ⟨by decide, by decide, by decide⟩
      refine ⟨_, f2, nH, [0, 1], rfl, dp_tk (Tk.of sf2) _ _ (flat_nt nH) dN9, nH_ok, SqT.of ef2, fo2, fun g11 q3 qs3 ts3 sg3 sq3 tr3 ip3 => ?_⟩
      have ee3 := hand3 ip3
      refine ⟨Nat.zero_le _, fun Z nZ => ?_⟩
      have sZ : Same g11 (upd g11 Z (.tup [])) := same_upd nZ
      have dl3 : Dp K (upd g11 Z (.tup [])) (.ref q3) (.tuple []) := by
        have z := TrisAt.dp (K := K) (TrisAt.tk tr3 (Tk.of sZ))
        rw [ee3] at z
        exact .tup ((Tk.of sZ).seq sq3) z
      refine ⟨_, _, dl3, .tup (SqT.of upd_same) .nil, by decide +kernel, by decide +kernel, ?_⟩
      exact k _
end
end Lr

namespace L2
open PySem PySem.Spec PyProof.Rows

/-- the law's call at the heap behind the top: no repr runs there -/
theorem law_callG {P : Program} {w : World} {K : PySem.W.Frag} {mg mb : Str → Option Value} {CX : CXT} {k : Nat} {fa a : Addr} {fd : FuncData} {x : Str} {sp : Sp} {s : Shared} {vs : List Value} {ns : List Int}
    (kin : K.In s.heap) (glob : s.heap.Ns mainGlobals mg) (blt : s.heap.Ns builtinsNs mb) (boot : ∀ x : Str, x ≠ "__name__" → mb x = bootBuiltins x) (nolim : s.heap.NoLimit) (nogen : s.gens = #[])
    (at_a : s.heap.get? a = some { cls := .type "list", data := .seq vs.toArray }) (inums : IntsAre vs ns) (few : ns.length ≤ sizeLine) (hr : Room k callerA)
    (G : ∀ base : Heap, K.In base → base.Ns mainGlobals mg → FnG P w K mg base CX k fa fd [x] sp) (bind : ∀ (s : Shared) (u : Value), BindsTo s fd ⟨[u], []⟩ [(x, u)])
    (want : ∀ H : Hp, Only H → SqL K H a (ns.map V.int) → sp [.ref a] H (fun v _ => v = .bl true) fun _ _ _ => False) (calm : ∀ H e s', CX [] H s (fun _ _ _ => False) e s' → False) :
    codeAny (model P w) callerA (.call (.ref fa) ⟨[.ref a], []⟩) (fun r s' => r = .ok (.ret (.bool true)) ∧ OldK s.heap s'.heap ∧ s'.os = s.os ∧ AllBare s'.gens) s := by
  have rel := vals_ints inums
  have same_len := inums.length
  -- H tells of the script alone, if of anything
  have main : ∀ H : Hp, Only H → SqL K H a (ns.map V.int) → HOk P w H s.heap → (∀ b, H b ≠ none → b = a) → (H a ≠ none → K.lookup a = none) →
      codeAny (model P w) callerA (.call (.ref fa) ⟨[.ref a], []⟩) (fun r s' => r = .ok (.ret (.bool true)) ∧ OldK s.heap s'.heap ∧ s'.os = s.os ∧ AllBare s'.gens) s := by
    intro H only seq hok just_a not_K
    have hid : ∀ {b : Addr} {o : Obj}, s.heap.get? b = some o → H b = none → (hidT s.heap H).get? b = some o := fun z n => hidT_get z n
    have is_a : ∀ {b : Addr} {u : HO}, H b = some u → b = a := fun {b u} z => just_a b (by
      rw [z]
      simp)
    have dict_free : ∀ {b : Addr} {o : Obj} {es : Array DictEntry} {ep : Nat}, s.heap.get? b = some o → o.data = .dict es ep → H b = none := fun {b o es ep} z dz => by
      cases q : H b with
      | none => rfl
      | some u =>
        have e := is_a q
        subst e
        rw [at_a] at z
        cases z
        exact absurd (show Data.seq vs.toArray _ = Data.dict es ep from dz) (fun e => by cases e)
    have ns_hid : ∀ {b : Addr} {m : Str → Option Value}, s.heap.Ns b m → (hidT s.heap H).Ns b m := fun {b m} n => by
      obtain ⟨o, es, ep, z, dz, r⟩ := n
      exact ⟨o, es, ep, hid z (dict_free z dz), dz, r⟩
    have kin_hid : K.In (hidT s.heap H) := fun b o z => hid (kin b o z) (by
      cases q : H b with
      | none => rfl
      | some u =>
        have e := is_a q
        subst e
        rw [not_K (by rw [q]; simp)] at z
        cases z)
    have mod : Mod K mg (hidT s.heap H) := by
      obtain ⟨mc, l1, l2⟩ := nolim
      exact ⟨kin_hid, ns_hid glob, ⟨mb, ns_hid blt, boot⟩, ⟨mc, ns_hid l1, l2⟩⟩
    have env0 : Env0 P w K mg (hidT s.heap H) callerA [] s H := ⟨rfl, mod, fun b o z => of_hidT z, Nat.le_of_eq (hidT_size _ _), trivial, (fun b hb => absurd hb (by simp [frs])), hok, .of_eq nogen⟩
    have run := (G _ kin_hid (ns_hid glob)).go callerA [] s H ⟨[.ref a], []⟩ [.ref a] [.ref a] _ _ rfl hr env0 (bind s (.ref a)) (.cons rfl .nil) (want H only seq)
    refine codeAny_mono run fun r s' back => ?_
    match r, back with
    | .error er, back => exact (calm H er s' back).elim
    | .ok .next, back => exact False.elim back
    | .ok .brk, back => exact False.elim back
    | .ok .cont, back => exact False.elim back
    | .ok (.ret u), ⟨v, H', os, bare, un, hok', ru, q⟩ =>
      have vt : v = .bl true := q
      subst vt
      obtain rfl : u = Value.bool true := ru
      refine ⟨rfl, OldK.of_keep fun b o z => ?_, os, bare⟩
      cases q : H b with
      | none => exact un.keep b o z q (fun z => nomatch z) (by simp)
      | some u =>
        rcases only b with n | ⟨ob, xs, e⟩
        · rw [q] at n
          cases n
        · have e' := un.frzs b ob _ e
          obtain ⟨z1, _⟩ := hok b _ e
          obtain ⟨z2, _⟩ := hok' b _ e'
          rw [z] at z1
          cases z1
          exact z2
  have its_len : (ns.map V.int).length ≤ sizeLine := by
    rw [List.length_map]
    exact few
  cases in_K : K.lookup a with
  | some o =>
    have z := kin a o in_K
    rw [at_a] at z
    cases z
    refine main (fun _ => none) (fun _ => .inl rfl) (.inr ⟨_, vs.toArray, _, in_K, rfl, rfl, rfl, ?_, by simpa using rel⟩) (fun b u z => nomatch (show (none : Option HO) = some u from z)) (fun b z => absurd rfl z) fun z => absurd rfl z
    rw [List.size_toArray, same_len]
    exact few
  | none =>
    refine main (fun b => if b = a then some (.frz { cls := .type "list", data := .seq vs.toArray } (.lst (ns.map V.int))) else none) (fun b => ?_) (.inl (.inr ⟨_, if_pos rfl⟩)) (fun b u z => ?_) (fun b z => ?_) fun _ => in_K
    · by_cases e : b = a
      · exact .inr ⟨_, _, if_pos e⟩
      · exact .inl (if_neg e)
    · by_cases e : b = a
      · have z2 := (if_pos e).symm.trans z
        cases z2
        subst e
        exact ⟨at_a, its_len, vs, _, rel, at_a⟩
      · exact nomatch (if_neg e).symm.trans z
    · by_cases e : b = a
      · exact e
      · exact absurd (if_neg e) z

/-- what the head leaves (case hc), from such a promise of the law -/
theorem walk_ofG {l : PySem.W.OpenLaw} {n k : Nat} {q : Program} {loose : List Str} {XP : (Str → Option Value) → Heap → Prop} {YP : World → Heap → Prop} {d : DefRec} {K : Params → PySem.W.Frag} {sp : PySem.W.Frag → Sp} {x : Str}
    (most : l.most = some n) (low : n ≤ sizeLine) (plain : d.params.defaults = []) (hr : Room k callerA) (hY : ∀ (w : World) (h : Heap), YP w h → (K w.params).In h)
    (F : ∀ (w : World) (mg : Str → Option Value) (fa : Addr) (h : Heap), (K w.params).In h → h.Ns mainGlobals mg → mg d.name = some (.ref fa) →
      ∃ fd : FuncData, (∀ (s : Shared) (u : Value), BindsTo s fd ⟨[u], []⟩ [(x, u)]) ∧ ∀ base : Heap, (K w.params).In base → base.Ns mainGlobals mg → FnG l.prog w (K w.params) mg base CX0 k fa fd [x] (sp (K w.params)))
    (want : ∀ (K : PySem.W.Frag) (H : Hp) (a : Addr) (ns : List Int), ns.length ≤ n → Only H → SqL K H a (ns.map V.int) → sp K [.ref a] H (fun v _ => v = .bl true) fun _ _ _ => False) :
    PySem.W.WalkO q loose XP YP l.row.toRowW d [] (fun f vs => PySem.call f vs) := by
  refine Att.attach_call most plain fun w s₀ s₁ mg mb fa o pm cd doc a vs ns G Y ho hd hcd hmg at_a inums few nogen => ?_
  have kin := hY w _ Y
  obtain ⟨fd, bind, hF⟩ := F w mg fa _ kin G.T.g hmg
  exact law_callG kin G.T.g G.T.b G.T.builtins G.T.nolimit nogen at_a inums (Nat.le_trans few low) hr hF bind (fun H only seq => want _ H a ns few only seq) fun H e s' z => z
end L2

namespace Lr
open PySem PySem.Spec PyProof.Rows L2

theorem all_mk {l : PySem.W.OpenLaw} {w : World} {K : PySem.W.Frag} {h : Heap} {mg : Str → Option Value} {fa fM fF fDr fBeg fLaw fLN fLGp fLFa fLMo fLLo fLOf fLSh fPop fNN fTu fNR fHp fPa fHo fNu fNL fLa fWo fNW fRw fHd fRd fSg fGs fGr fCh fLs fLb fNF fFa fAs fCBH fAH fFC fGA fPTb fSat fTbO fAE fRch fLy fNxL fSgO fEO fPSt fWO : Addr} (X : K.In h) (G : h.Ns mainGlobals mg) (hfa : mg "law" = some (.ref fa))
    {odM anM odF anF odDr anDr odBeg anBeg odLaw anLaw odLN anLN odLGp anLGp odLFa anLFa odLMo anLMo odLLo anLLo odLOf anLOf odLSh anLSh odPop anPop odNN anNN odTu anTu odNR anNR odHp anHp odPa anPa odHo anHo odNu anNu odNL anNL odLa anLa odWo anWo odNW anNW odRw anRw odHd anHd odRd anRd odSg anSg odGs anGs odGr anGr odCh anCh odLs anLs odLb anLb odNF anNF odFa anFa odAs anAs odCBH anCBH odAH anAH odFC anFC odGA anGA odPTb anPTb odSat anSat odTbO anTbO odAE anAE odRch anRch odLy anLy odNxL anNxL odSgO anSgO odEO anEO odPSt anPSt odWO anWO : Option Addr} {slM slF slDr slBeg slLaw slLN slLGp slLFa slLMo slLLo slLOf slLSh slPop slNN slTu slNR slHp slPa slHo slNu slNL slLa slWo slNW slRw slHd slRd slSg slGs slGr slCh slLs slLb slNF slFa slAs slCBH slAH slFC slGA slPTb slSat slTbO slAE slRch slLy slNxL slSgO slEO slPSt slWO : Array (Option Value)} {ocM kVM dcM pmM cdM ctM ocF kVF dcF pmF cdF ctF ocDr kVDr dcDr pmDr cdDr ctDr ocBeg kVBeg dcBeg pmBeg cdBeg ctBeg ocLaw kVLaw dcLaw pmLaw cdLaw ctLaw ocLN kVLN dcLN pmLN cdLN ctLN ocLGp kVLGp dcLGp pmLGp cdLGp ctLGp ocLFa kVLFa dcLFa pmLFa cdLFa ctLFa ocLMo kVLMo dcLMo pmLMo cdLMo ctLMo ocLLo kVLLo dcLLo pmLLo cdLLo ctLLo ocLOf kVLOf dcLOf pmLOf cdLOf ctLOf ocLSh kVLSh dcLSh pmLSh cdLSh ctLSh ocPop kVPop dcPop pmPop cdPop ctPop ocNN kVNN dcNN pmNN cdNN ctNN ocTu kVTu dcTu pmTu cdTu ctTu ocNR kVNR dcNR pmNR cdNR ctNR ocHp kVHp dcHp pmHp cdHp ctHp ocPa kVPa dcPa pmPa cdPa ctPa ocHo kVHo dcHo pmHo cdHo ctHo ocNu kVNu dcNu pmNu cdNu ctNu ocNL kVNL dcNL pmNL cdNL ctNL ocLa kVLa dcLa pmLa cdLa ctLa ocWo kVWo dcWo pmWo cdWo ctWo ocNW kVNW dcNW pmNW cdNW ctNW ocRw kVRw dcRw pmRw cdRw ctRw ocHd kVHd dcHd pmHd cdHd ctHd ocRd kVRd dcRd pmRd cdRd ctRd ocSg kVSg dcSg pmSg cdSg ctSg ocGs kVGs dcGs pmGs cdGs ctGs ocGr kVGr dcGr pmGr cdGr ctGr ocCh kVCh dcCh pmCh cdCh ctCh ocLs kVLs dcLs pmLs cdLs ctLs ocLb kVLb dcLb pmLb cdLb ctLb ocNF kVNF dcNF pmNF cdNF ctNF ocFa kVFa dcFa pmFa cdFa ctFa ocAs kVAs dcAs pmAs cdAs ctAs ocCBH kVCBH dcCBH pmCBH cdCBH ctCBH ocAH kVAH dcAH pmAH cdAH ctAH ocFC kVFC dcFC pmFC cdFC ctFC ocGA kVGA dcGA pmGA cdGA ctGA ocPTb kVPTb dcPTb pmPTb cdPTb ctPTb ocSat kVSat dcSat pmSat cdSat ctSat ocTbO kVTbO dcTbO pmTbO cdTbO ctTbO ocAE kVAE dcAE pmAE cdAE ctAE ocRch kVRch dcRch pmRch cdRch ctRch ocLy kVLy dcLy pmLy cdLy ctLy ocNxL kVNxL dcNxL pmNxL cdNxL ctNxL ocSgO kVSgO dcSgO pmSgO cdSgO ctSgO ocEO kVEO dcEO pmEO cdEO ctEO ocPSt kVPSt dcPSt pmPSt cdPSt ctPSt ocWO kVWO dcWO pmWO cdWO ctWO : Value} {t_MOST_HOUSE t_MOST_LETTERS t_MOST_WORD t_MOST_CHOICES t_MOST_GROUPS t_MOST_ROADS t_MOST_LABELS : Tok}
    (aM : PySem.W.nsIn K mainGlobals "_law_mixed" = some (some (.ref fM)))
    (lM : K.lookup fM = some ⟨ocM, odM, .func (PySem.W.fnOf "_law_mixed" "_law_mixed" (defArgs sMix) (defBody sMix) (defScope sMix) .none kVM dcM pmM anM cdM ctM), slM⟩)
    (dM : PySem.W.codeIn K cdM "_law_mixed" = true)
    (kM : PySem.W.keepIn K (.ref fM) = true)
    (aF : PySem.W.nsIn K mainGlobals "_law_folded" = some (some (.ref fF)))
    (lF : K.lookup fF = some ⟨ocF, odF, .func (PySem.W.fnOf "_law_folded" "_law_folded" (defArgs sFol) (defBody sFol) (defScope sFol) .none kVF dcF pmF anF cdF ctF), slF⟩)
    (dF : PySem.W.codeIn K cdF "_law_folded" = true)
    (kF : PySem.W.keepIn K (.ref fF) = true)
    (aDr : PySem.W.nsIn K mainGlobals "_law_draw" = some (some (.ref fDr)))
    (lDr : K.lookup fDr = some ⟨ocDr, odDr, .func (PySem.W.fnOf "_law_draw" "_law_draw" (defArgs sDra) (defBody sDra) (defScope sDra) .none kVDr dcDr pmDr anDr cdDr ctDr), slDr⟩)
    (dDr : PySem.W.codeIn K cdDr "_law_draw" = true)
    (kDr : PySem.W.keepIn K (.ref fDr) = true)
    (aBeg : PySem.W.nsIn K mainGlobals "_law_begun" = some (some (.ref fBeg)))
    (lBeg : K.lookup fBeg = some ⟨ocBeg, odBeg, .func (PySem.W.fnOf "_law_begun" "_law_begun" (defArgs sBeg) (defBody sBeg) (defScope sBeg) .none kVBeg dcBeg pmBeg anBeg cdBeg ctBeg), slBeg⟩)
    (dBeg : PySem.W.codeIn K cdBeg "_law_begun" = true)
    (kBeg : PySem.W.keepIn K (.ref fBeg) = true)
    (aLaw : PySem.W.nsIn K mainGlobals "law" = some (some (.ref fLaw)))
    (lLaw : K.lookup fLaw = some ⟨ocLaw, odLaw, .func (PySem.W.fnOf "law" "law" (defArgs sLaw) (defBody sLaw) (defScope sLaw) .none kVLaw dcLaw pmLaw anLaw cdLaw ctLaw), slLaw⟩)
    (dLaw : PySem.W.codeIn K cdLaw "law" = true)
    (kLaw : PySem.W.keepIn K (.ref fLaw) = true)
    (aLN : PySem.W.nsIn K mainGlobals "_law_net" = some (some (.ref fLN)))
    (lLN : K.lookup fLN = some ⟨ocLN, odLN, .func (PySem.W.fnOf "_law_net" "_law_net" (defArgs sLN) (defBody sLN) (defScope sLN) .none kVLN dcLN pmLN anLN cdLN ctLN), slLN⟩)
    (dLN : PySem.W.codeIn K cdLN "_law_net" = true)
    (kLN : PySem.W.keepIn K (.ref fLN) = true)
    (aLGp : PySem.W.nsIn K mainGlobals "_law_group" = some (some (.ref fLGp)))
    (lLGp : K.lookup fLGp = some ⟨ocLGp, odLGp, .func (PySem.W.fnOf "_law_group" "_law_group" (defArgs sLGp) (defBody sLGp) (defScope sLGp) .none kVLGp dcLGp pmLGp anLGp cdLGp ctLGp), slLGp⟩)
    (dLGp : PySem.W.codeIn K cdLGp "_law_group" = true)
    (kLGp : PySem.W.keepIn K (.ref fLGp) = true)
    (aLFa : PySem.W.nsIn K mainGlobals "_law_failed" = some (some (.ref fLFa)))
    (lLFa : K.lookup fLFa = some ⟨ocLFa, odLFa, .func (PySem.W.fnOf "_law_failed" "_law_failed" (defArgs sLFa) (defBody sLFa) (defScope sLFa) .none kVLFa dcLFa pmLFa anLFa cdLFa ctLFa), slLFa⟩)
    (dLFa : PySem.W.codeIn K cdLFa "_law_failed" = true)
    (kLFa : PySem.W.keepIn K (.ref fLFa) = true)
    (aLMo : PySem.W.nsIn K mainGlobals "_law_moves" = some (some (.ref fLMo)))
    (lLMo : K.lookup fLMo = some ⟨ocLMo, odLMo, .func (PySem.W.fnOf "_law_moves" "_law_moves" (defArgs sLMo) (defBody sLMo) (defScope sLMo) .none kVLMo dcLMo pmLMo anLMo cdLMo ctLMo), slLMo⟩)
    (dLMo : PySem.W.codeIn K cdLMo "_law_moves" = true)
    (kLMo : PySem.W.keepIn K (.ref fLMo) = true)
    (aLLo : PySem.W.nsIn K mainGlobals "_law_lots" = some (some (.ref fLLo)))
    (lLLo : K.lookup fLLo = some ⟨ocLLo, odLLo, .func (PySem.W.fnOf "_law_lots" "_law_lots" (defArgs sLLo) (defBody sLLo) (defScope sLLo) .none kVLLo dcLLo pmLLo anLLo cdLLo ctLLo), slLLo⟩)
    (dLLo : PySem.W.codeIn K cdLLo "_law_lots" = true)
    (kLLo : PySem.W.keepIn K (.ref fLLo) = true)
    (aLOf : PySem.W.nsIn K mainGlobals "_law_off" = some (some (.ref fLOf)))
    (lLOf : K.lookup fLOf = some ⟨ocLOf, odLOf, .func (PySem.W.fnOf "_law_off" "_law_off" (defArgs sLOf) (defBody sLOf) (defScope sLOf) .none kVLOf dcLOf pmLOf anLOf cdLOf ctLOf), slLOf⟩)
    (dLOf : PySem.W.codeIn K cdLOf "_law_off" = true)
    (kLOf : PySem.W.keepIn K (.ref fLOf) = true)
    (aLSh : PySem.W.nsIn K mainGlobals "_law_shown" = some (some (.ref fLSh)))
    (lLSh : K.lookup fLSh = some ⟨ocLSh, odLSh, .func (PySem.W.fnOf "_law_shown" "_law_shown" (defArgs sLSh) (defBody sLSh) (defScope sLSh) .none kVLSh dcLSh pmLSh anLSh cdLSh ctLSh), slLSh⟩)
    (dLSh : PySem.W.codeIn K cdLSh "_law_shown" = true)
    (kLSh : PySem.W.keepIn K (.ref fLSh) = true)
    (aPop : PySem.W.nsIn K mainGlobals "pops" = some (some (.ref fPop)))
    (lPop : K.lookup fPop = some ⟨ocPop, odPop, .func (PySem.W.fnOf "pops" "pops" (defArgs sPop) (defBody sPop) (defScope sPop) .none kVPop dcPop pmPop anPop cdPop ctPop), slPop⟩)
    (dPop : PySem.W.codeIn K cdPop "pops" = true)
    (kPop : PySem.W.keepIn K (.ref fPop) = true)
    (aNN : PySem.W.nsIn K mainGlobals "need_net" = some (some (.ref fNN)))
    (lNN : K.lookup fNN = some ⟨ocNN, odNN, .func (PySem.W.fnOf "need_net" "need_net" (defArgs sNN) (defBody sNN) (defScope sNN) .none kVNN dcNN pmNN anNN cdNN ctNN), slNN⟩)
    (dNN : PySem.W.codeIn K cdNN "need_net" = true)
    (kNN : PySem.W.keepIn K (.ref fNN) = true)
    (aTu : PySem.W.nsIn K mainGlobals "is_tuple" = some (some (.ref fTu)))
    (lTu : K.lookup fTu = some ⟨ocTu, odTu, .func (PySem.W.fnOf "is_tuple" "is_tuple" (defArgs sTu) (defBody sTu) (defScope sTu) .none kVTu dcTu pmTu anTu cdTu ctTu), slTu⟩)
    (dTu : PySem.W.codeIn K cdTu "is_tuple" = true)
    (kTu : PySem.W.keepIn K (.ref fTu) = true)
    (aNR : PySem.W.nsIn K mainGlobals "need_roads" = some (some (.ref fNR)))
    (lNR : K.lookup fNR = some ⟨ocNR, odNR, .func (PySem.W.fnOf "need_roads" "need_roads" (defArgs sNR) (defBody sNR) (defScope sNR) .none kVNR dcNR pmNR anNR cdNR ctNR), slNR⟩)
    (dNR : PySem.W.codeIn K cdNR "need_roads" = true)
    (kNR : PySem.W.keepIn K (.ref fNR) = true)
    (aHp : PySem.W.nsIn K mainGlobals "is_house_pair" = some (some (.ref fHp)))
    (lHp : K.lookup fHp = some ⟨ocHp, odHp, .func (PySem.W.fnOf "is_house_pair" "is_house_pair" (defArgs sHp) (defBody sHp) (defScope sHp) .none kVHp dcHp pmHp anHp cdHp ctHp), slHp⟩)
    (dHp : PySem.W.codeIn K cdHp "is_house_pair" = true)
    (kHp : PySem.W.keepIn K (.ref fHp) = true)
    (aPa : PySem.W.nsIn K mainGlobals "is_pair" = some (some (.ref fPa)))
    (lPa : K.lookup fPa = some ⟨ocPa, odPa, .func (PySem.W.fnOf "is_pair" "is_pair" (defArgs sPa) (defBody sPa) (defScope sPa) .none kVPa dcPa pmPa anPa cdPa ctPa), slPa⟩)
    (dPa : PySem.W.codeIn K cdPa "is_pair" = true)
    (kPa : PySem.W.keepIn K (.ref fPa) = true)
    (aHo : PySem.W.nsIn K mainGlobals "is_house" = some (some (.ref fHo)))
    (lHo : K.lookup fHo = some ⟨ocHo, odHo, .func (PySem.W.fnOf "is_house" "is_house" (defArgs sHo) (defBody sHo) (defScope sHo) .none kVHo dcHo pmHo anHo cdHo ctHo), slHo⟩)
    (dHo : PySem.W.codeIn K cdHo "is_house" = true)
    (kHo : PySem.W.keepIn K (.ref fHo) = true)
    (aNu : PySem.W.nsIn K mainGlobals "is_number" = some (some (.ref fNu)))
    (lNu : K.lookup fNu = some ⟨ocNu, odNu, .func (PySem.W.fnOf "is_number" "is_number" (defArgs sNu) (defBody sNu) (defScope sNu) .none kVNu dcNu pmNu anNu cdNu ctNu), slNu⟩)
    (dNu : PySem.W.codeIn K cdNu "is_number" = true)
    (kNu : PySem.W.keepIn K (.ref fNu) = true)
    (aNL : PySem.W.nsIn K mainGlobals "need_labels" = some (some (.ref fNL)))
    (lNL : K.lookup fNL = some ⟨ocNL, odNL, .func (PySem.W.fnOf "need_labels" "need_labels" (defArgs sNL) (defBody sNL) (defScope sNL) .none kVNL dcNL pmNL anNL cdNL ctNL), slNL⟩)
    (dNL : PySem.W.codeIn K cdNL "need_labels" = true)
    (kNL : PySem.W.keepIn K (.ref fNL) = true)
    (aLa : PySem.W.nsIn K mainGlobals "can_be_label" = some (some (.ref fLa)))
    (lLa : K.lookup fLa = some ⟨ocLa, odLa, .func (PySem.W.fnOf "can_be_label" "can_be_label" (defArgs sLa) (defBody sLa) (defScope sLa) .none kVLa dcLa pmLa anLa cdLa ctLa), slLa⟩)
    (dLa : PySem.W.codeIn K cdLa "can_be_label" = true)
    (kLa : PySem.W.keepIn K (.ref fLa) = true)
    (aWo : PySem.W.nsIn K mainGlobals "is_word" = some (some (.ref fWo)))
    (lWo : K.lookup fWo = some ⟨ocWo, odWo, .func (PySem.W.fnOf "is_word" "is_word" (defArgs sWo) (defBody sWo) (defScope sWo) .none kVWo dcWo pmWo anWo cdWo ctWo), slWo⟩)
    (dWo : PySem.W.codeIn K cdWo "is_word" = true)
    (kWo : PySem.W.keepIn K (.ref fWo) = true)
    (aNW : PySem.W.nsIn K mainGlobals "need_rows" = some (some (.ref fNW)))
    (lNW : K.lookup fNW = some ⟨ocNW, odNW, .func (PySem.W.fnOf "need_rows" "need_rows" (defArgs sNW) (defBody sNW) (defScope sNW) .none kVNW dcNW pmNW anNW cdNW ctNW), slNW⟩)
    (dNW : PySem.W.codeIn K cdNW "need_rows" = true)
    (kNW : PySem.W.keepIn K (.ref fNW) = true)
    (aRw : PySem.W.nsIn K mainGlobals "is_row" = some (some (.ref fRw)))
    (lRw : K.lookup fRw = some ⟨ocRw, odRw, .func (PySem.W.fnOf "is_row" "is_row" (defArgs sRw) (defBody sRw) (defScope sRw) .none kVRw dcRw pmRw anRw cdRw ctRw), slRw⟩)
    (dRw : PySem.W.codeIn K cdRw "is_row" = true)
    (kRw : PySem.W.keepIn K (.ref fRw) = true)
    (aHd : PySem.W.nsIn K mainGlobals "is_head" = some (some (.ref fHd)))
    (lHd : K.lookup fHd = some ⟨ocHd, odHd, .func (PySem.W.fnOf "is_head" "is_head" (defArgs sHd) (defBody sHd) (defScope sHd) .none kVHd dcHd pmHd anHd cdHd ctHd), slHd⟩)
    (dHd : PySem.W.codeIn K cdHd "is_head" = true)
    (kHd : PySem.W.keepIn K (.ref fHd) = true)
    (aRd : PySem.W.nsIn K mainGlobals "is_road" = some (some (.ref fRd)))
    (lRd : K.lookup fRd = some ⟨ocRd, odRd, .func (PySem.W.fnOf "is_road" "is_road" (defArgs sRd) (defBody sRd) (defScope sRd) .none kVRd dcRd pmRd anRd cdRd ctRd), slRd⟩)
    (dRd : PySem.W.codeIn K cdRd "is_road" = true)
    (kRd : PySem.W.keepIn K (.ref fRd) = true)
    (aSg : PySem.W.nsIn K mainGlobals "is_sign" = some (some (.ref fSg)))
    (lSg : K.lookup fSg = some ⟨ocSg, odSg, .func (PySem.W.fnOf "is_sign" "is_sign" (defArgs sSg) (defBody sSg) (defScope sSg) .none kVSg dcSg pmSg anSg cdSg ctSg), slSg⟩)
    (dSg : PySem.W.codeIn K cdSg "is_sign" = true)
    (kSg : PySem.W.keepIn K (.ref fSg) = true)
    (aGs : PySem.W.nsIn K mainGlobals "is_groups" = some (some (.ref fGs)))
    (lGs : K.lookup fGs = some ⟨ocGs, odGs, .func (PySem.W.fnOf "is_groups" "is_groups" (defArgs sGs) (defBody sGs) (defScope sGs) .none kVGs dcGs pmGs anGs cdGs ctGs), slGs⟩)
    (dGs : PySem.W.codeIn K cdGs "is_groups" = true)
    (kGs : PySem.W.keepIn K (.ref fGs) = true)
    (aGr : PySem.W.nsIn K mainGlobals "is_group" = some (some (.ref fGr)))
    (lGr : K.lookup fGr = some ⟨ocGr, odGr, .func (PySem.W.fnOf "is_group" "is_group" (defArgs sGr) (defBody sGr) (defScope sGr) .none kVGr dcGr pmGr anGr cdGr ctGr), slGr⟩)
    (dGr : PySem.W.codeIn K cdGr "is_group" = true)
    (kGr : PySem.W.keepIn K (.ref fGr) = true)
    (aCh : PySem.W.nsIn K mainGlobals "is_choice" = some (some (.ref fCh)))
    (lCh : K.lookup fCh = some ⟨ocCh, odCh, .func (PySem.W.fnOf "is_choice" "is_choice" (defArgs sCh) (defBody sCh) (defScope sCh) .none kVCh dcCh pmCh anCh cdCh ctCh), slCh⟩)
    (dCh : PySem.W.codeIn K cdCh "is_choice" = true)
    (kCh : PySem.W.keepIn K (.ref fCh) = true)
    (aLs : PySem.W.nsIn K mainGlobals "is_labels" = some (some (.ref fLs)))
    (lLs : K.lookup fLs = some ⟨ocLs, odLs, .func (PySem.W.fnOf "is_labels" "is_labels" (defArgs sLs) (defBody sLs) (defScope sLs) .none kVLs dcLs pmLs anLs cdLs ctLs), slLs⟩)
    (dLs : PySem.W.codeIn K cdLs "is_labels" = true)
    (kLs : PySem.W.keepIn K (.ref fLs) = true)
    (aLb : PySem.W.nsIn K mainGlobals "is_label" = some (some (.ref fLb)))
    (lLb : K.lookup fLb = some ⟨ocLb, odLb, .func (PySem.W.fnOf "is_label" "is_label" (defArgs sLb) (defBody sLb) (defScope sLb) .none kVLb dcLb pmLb anLb cdLb ctLb), slLb⟩)
    (dLb : PySem.W.codeIn K cdLb "is_label" = true)
    (kLb : PySem.W.keepIn K (.ref fLb) = true)
    (aNF : PySem.W.nsIn K mainGlobals "need_failed" = some (some (.ref fNF)))
    (lNF : K.lookup fNF = some ⟨ocNF, odNF, .func (PySem.W.fnOf "need_failed" "need_failed" (defArgs sNF) (defBody sNF) (defScope sNF) .none kVNF dcNF pmNF anNF cdNF ctNF), slNF⟩)
    (dNF : PySem.W.codeIn K cdNF "need_failed" = true)
    (kNF : PySem.W.keepIn K (.ref fNF) = true)
    (aFa : PySem.W.nsIn K mainGlobals "is_failed" = some (some (.ref fFa)))
    (lFa : K.lookup fFa = some ⟨ocFa, odFa, .func (PySem.W.fnOf "is_failed" "is_failed" (defArgs sFa) (defBody sFa) (defScope sFa) .none kVFa dcFa pmFa anFa cdFa ctFa), slFa⟩)
    (dFa : PySem.W.codeIn K cdFa "is_failed" = true)
    (kFa : PySem.W.keepIn K (.ref fFa) = true)
    (aAs : PySem.W.nsIn K mainGlobals "is_ascending" = some (some (.ref fAs)))
    (lAs : K.lookup fAs = some ⟨ocAs, odAs, .func (PySem.W.fnOf "is_ascending" "is_ascending" (defArgs sAs) (defBody sAs) (defScope sAs) .none kVAs dcAs pmAs anAs cdAs ctAs), slAs⟩)
    (dAs : PySem.W.codeIn K cdAs "is_ascending" = true)
    (kAs : PySem.W.keepIn K (.ref fAs) = true)
    (aCBH : PySem.W.nsIn K mainGlobals "choices_by_head" = some (some (.ref fCBH)))
    (lCBH : K.lookup fCBH = some ⟨ocCBH, odCBH, .func (PySem.W.fnOf "choices_by_head" "choices_by_head" (defArgs sCBH) (defBody sCBH) (defScope sCBH) .none kVCBH dcCBH pmCBH anCBH cdCBH ctCBH), slCBH⟩)
    (dCBH : PySem.W.codeIn K cdCBH "choices_by_head" = true)
    (kCBH : PySem.W.keepIn K (.ref fCBH) = true)
    (aAH : PySem.W.nsIn K mainGlobals "all_heads" = some (some (.ref fAH)))
    (lAH : K.lookup fAH = some ⟨ocAH, odAH, .func (PySem.W.fnOf "all_heads" "all_heads" (defArgs sAH) (defBody sAH) (defScope sAH) .none kVAH dcAH pmAH anAH cdAH ctAH), slAH⟩)
    (dAH : PySem.W.codeIn K cdAH "all_heads" = true)
    (kAH : PySem.W.keepIn K (.ref fAH) = true)
    (aFC : PySem.W.nsIn K mainGlobals "free_choices" = some (some (.ref fFC)))
    (lFC : K.lookup fFC = some ⟨ocFC, odFC, .func (PySem.W.fnOf "free_choices" "free_choices" (defArgs sFC) (defBody sFC) (defScope sFC) .none kVFC dcFC pmFC anFC cdFC ctFC), slFC⟩)
    (dFC : PySem.W.codeIn K cdFC "free_choices" = true)
    (kFC : PySem.W.keepIn K (.ref fFC) = true)
    (aGA : PySem.W.nsIn K mainGlobals "groups_at" = some (some (.ref fGA)))
    (lGA : K.lookup fGA = some ⟨ocGA, odGA, .func (PySem.W.fnOf "groups_at" "groups_at" (defArgs sGA) (defBody sGA) (defScope sGA) .none kVGA dcGA pmGA anGA cdGA ctGA), slGA⟩)
    (dGA : PySem.W.codeIn K cdGA "groups_at" = true)
    (kGA : PySem.W.keepIn K (.ref fGA) = true)
    (aPTb : PySem.W.nsIn K mainGlobals "pop_table" = some (some (.ref fPTb)))
    (lPTb : K.lookup fPTb = some ⟨ocPTb, odPTb, .func (PySem.W.fnOf "pop_table" "pop_table" (defArgs sPTb) (defBody sPTb) (defScope sPTb) .none kVPTb dcPTb pmPTb anPTb cdPTb ctPTb), slPTb⟩)
    (dPTb : PySem.W.codeIn K cdPTb "pop_table" = true)
    (kPTb : PySem.W.keepIn K (.ref fPTb) = true)
    (aSat : PySem.W.nsIn K mainGlobals "saturated" = some (some (.ref fSat)))
    (lSat : K.lookup fSat = some ⟨ocSat, odSat, .func (PySem.W.fnOf "saturated" "saturated" (defArgs sSat) (defBody sSat) (defScope sSat) .none kVSat dcSat pmSat anSat cdSat ctSat), slSat⟩)
    (dSat : PySem.W.codeIn K cdSat "saturated" = true)
    (kSat : PySem.W.keepIn K (.ref fSat) = true)
    (aTbO : PySem.W.nsIn K mainGlobals "table_of" = some (some (.ref fTbO)))
    (lTbO : K.lookup fTbO = some ⟨ocTbO, odTbO, .func (PySem.W.fnOf "table_of" "table_of" (defArgs sTbO) (defBody sTbO) (defScope sTbO) .none kVTbO dcTbO pmTbO anTbO cdTbO ctTbO), slTbO⟩)
    (dTbO : PySem.W.codeIn K cdTbO "table_of" = true)
    (kTbO : PySem.W.keepIn K (.ref fTbO) = true)
    (aAE : PySem.W.nsIn K mainGlobals "add_edges" = some (some (.ref fAE)))
    (lAE : K.lookup fAE = some ⟨ocAE, odAE, .func (PySem.W.fnOf "add_edges" "add_edges" (defArgs sAE) (defBody sAE) (defScope sAE) .none kVAE dcAE pmAE anAE cdAE ctAE), slAE⟩)
    (dAE : PySem.W.codeIn K cdAE "add_edges" = true)
    (kAE : PySem.W.keepIn K (.ref fAE) = true)
    (aRch : PySem.W.nsIn K mainGlobals "reached" = some (some (.ref fRch)))
    (lRch : K.lookup fRch = some ⟨ocRch, odRch, .func (PySem.W.fnOf "reached" "reached" (defArgs sRch) (defBody sRch) (defScope sRch) .none kVRch dcRch pmRch anRch cdRch ctRch), slRch⟩)
    (dRch : PySem.W.codeIn K cdRch "reached" = true)
    (kRch : PySem.W.keepIn K (.ref fRch) = true)
    (aLy : PySem.W.nsIn K mainGlobals "layers" = some (some (.ref fLy)))
    (lLy : K.lookup fLy = some ⟨ocLy, odLy, .func (PySem.W.fnOf "layers" "layers" (defArgs sLy) (defBody sLy) (defScope sLy) .none kVLy dcLy pmLy anLy cdLy ctLy), slLy⟩)
    (dLy : PySem.W.codeIn K cdLy "layers" = true)
    (kLy : PySem.W.keepIn K (.ref fLy) = true)
    (aNxL : PySem.W.nsIn K mainGlobals "next_layer" = some (some (.ref fNxL)))
    (lNxL : K.lookup fNxL = some ⟨ocNxL, odNxL, .func (PySem.W.fnOf "next_layer" "next_layer" (defArgs sNxL) (defBody sNxL) (defScope sNxL) .none kVNxL dcNxL pmNxL anNxL cdNxL ctNxL), slNxL⟩)
    (dNxL : PySem.W.codeIn K cdNxL "next_layer" = true)
    (kNxL : PySem.W.keepIn K (.ref fNxL) = true)
    (aSgO : PySem.W.nsIn K mainGlobals "signs_of" = some (some (.ref fSgO)))
    (lSgO : K.lookup fSgO = some ⟨ocSgO, odSgO, .func (PySem.W.fnOf "signs_of" "signs_of" (defArgs sSgO) (defBody sSgO) (defScope sSgO) .none kVSgO dcSgO pmSgO anSgO cdSgO ctSgO), slSgO⟩)
    (dSgO : PySem.W.codeIn K cdSgO "signs_of" = true)
    (kSgO : PySem.W.keepIn K (.ref fSgO) = true)
    (aEO : PySem.W.nsIn K mainGlobals "edges_of" = some (some (.ref fEO)))
    (lEO : K.lookup fEO = some ⟨ocEO, odEO, .func (PySem.W.fnOf "edges_of" "edges_of" (defArgs sEO) (defBody sEO) (defScope sEO) .none kVEO dcEO pmEO anEO cdEO ctEO), slEO⟩)
    (dEO : PySem.W.codeIn K cdEO "edges_of" = true)
    (kEO : PySem.W.keepIn K (.ref fEO) = true)
    (aPSt : PySem.W.nsIn K mainGlobals "pop_steps" = some (some (.ref fPSt)))
    (lPSt : K.lookup fPSt = some ⟨ocPSt, odPSt, .func (PySem.W.fnOf "pop_steps" "pop_steps" (defArgs sPSt) (defBody sPSt) (defScope sPSt) .none kVPSt dcPSt pmPSt anPSt cdPSt ctPSt), slPSt⟩)
    (dPSt : PySem.W.codeIn K cdPSt "pop_steps" = true)
    (kPSt : PySem.W.keepIn K (.ref fPSt) = true)
    (aWO : PySem.W.nsIn K mainGlobals "weight_of" = some (some (.ref fWO)))
    (lWO : K.lookup fWO = some ⟨ocWO, odWO, .func (PySem.W.fnOf "weight_of" "weight_of" (defArgs sWO) (defBody sWO) (defScope sWO) .none kVWO dcWO pmWO anWO cdWO ctWO), slWO⟩)
    (dWO : PySem.W.codeIn K cdWO "weight_of" = true)
    (kWO : PySem.W.keepIn K (.ref fWO) = true)
    (z_isinstance : PySem.W.nsIn K mainGlobals "isinstance" = some none)
    (z_len : PySem.W.nsIn K mainGlobals "len" = some none)
    (z_set : PySem.W.nsIn K mainGlobals "set" = some none)
    (z_all : PySem.W.nsIn K mainGlobals "all" = some none)
    (z_any : PySem.W.nsIn K mainGlobals "any" = some none)
    (z_int : PySem.W.nsIn K mainGlobals "int" = some none)
    (z_bool : PySem.W.nsIn K mainGlobals "bool" = some none)
    (z_str : PySem.W.nsIn K mainGlobals "str" = some none)
    (z_tuple : PySem.W.nsIn K mainGlobals "tuple" = some none)
    (z_list : PySem.W.nsIn K mainGlobals "list" = some none)
    (z_enumerate : PySem.W.nsIn K mainGlobals "enumerate" = some none)
    (z_range : PySem.W.nsIn K mainGlobals "range" = some none)
    (z_sorted : PySem.W.nsIn K mainGlobals "sorted" = some none)
    (z_zip : PySem.W.nsIn K mainGlobals "zip" = some none)
    (z_repr : PySem.W.nsIn K mainGlobals "repr" = some none)
    (z_min : PySem.W.nsIn K mainGlobals "min" = some none)
    (z_max : PySem.W.nsIn K mainGlobals "max" = some none)
    (z_dict : PySem.W.nsIn K mainGlobals "dict" = some none)
    (m_MOST_HOUSE : PySem.W.nsIn K mainGlobals "MOST_HOUSE" = some (some (.int 7 t_MOST_HOUSE)))
    (m_MOST_LETTERS : PySem.W.nsIn K mainGlobals "MOST_LETTERS" = some (some (.int 8 t_MOST_LETTERS)))
    (m_MOST_WORD : PySem.W.nsIn K mainGlobals "MOST_WORD" = some (some (.int 3 t_MOST_WORD)))
    (m_MOST_CHOICES : PySem.W.nsIn K mainGlobals "MOST_CHOICES" = some (some (.int 3 t_MOST_CHOICES)))
    (m_MOST_GROUPS : PySem.W.nsIn K mainGlobals "MOST_GROUPS" = some (some (.int 3 t_MOST_GROUPS)))
    (m_MOST_ROADS : PySem.W.nsIn K mainGlobals "MOST_ROADS" = some (some (.int 10 t_MOST_ROADS)))
    (m_MOST_LABELS : PySem.W.nsIn K mainGlobals "MOST_LABELS" = some (some (.int 4 t_MOST_LABELS))) :
    ∃ fd : FuncData, (∀ (s : Shared) (u : Value), BindsTo s fd ⟨[u], []⟩ [("script", u)]) ∧ ∀ base : Heap, K.In base → base.Ns mainGlobals mg → FnG l.prog w K mg base CX0 12 fa fd ["script"] (spLaw K) := by
  have e := hfa.symm.trans (PySem.W.mg_of X G aLaw)
  cases e
  have FM := fun_mk (st := sMix) lM dM kM
  have bM := FM.binds (ps := ["cell", "n"]) fun _ _ _ _ _ _ us hl => match us, hl with | [_, _], _ => rfl
  have CM : Cal K mg "_law_mixed" fM _ ["cell", "n"] := ⟨PySem.W.mg_of X G aM, kM, bM⟩
  have FF := fun_mk (st := sFol) lF dF kF
  have bF := FF.binds (ps := ["script"]) fun _ _ _ _ _ _ us hl => match us, hl with | [_], _ => rfl
  have CF : Cal K mg "_law_folded" fF _ ["script"] := ⟨PySem.W.mg_of X G aF, kF, bF⟩
  have FDr := fun_mk (st := sDra) lDr dDr kDr
  have bDr := FDr.binds (ps := ["m", "limit"]) fun _ _ _ _ _ _ us hl => match us, hl with | [_, _], _ => rfl
  have CDr : Cal K mg "_law_draw" fDr _ ["m", "limit"] := ⟨PySem.W.mg_of X G aDr, kDr, bDr⟩
  have FBeg := fun_mk (st := sBeg) lBeg dBeg kBeg
  have bBeg := FBeg.binds (ps := ["script"]) fun _ _ _ _ _ _ us hl => match us, hl with | [_], _ => rfl
  have CBeg : Cal K mg "_law_begun" fBeg _ ["script"] := ⟨PySem.W.mg_of X G aBeg, kBeg, bBeg⟩
  have FLaw := fun_mk (st := sLaw) lLaw dLaw kLaw
  have FLN := fun_mk (st := sLN) lLN dLN kLN
  have bLN := FLN.binds (ps := ["m", "most", "wide"]) fun _ _ _ _ _ _ us hl => match us, hl with | [_, _, _], _ => rfl
  have CLN : Cal K mg "_law_net" fLN _ ["m", "most", "wide"] := ⟨PySem.W.mg_of X G aLN, kLN, bLN⟩
  have FLGp := fun_mk (st := sLGp) lLGp dLGp kLGp
  have bLGp := FLGp.binds (ps := ["m", "roads", "labels", "road", "wide"]) fun _ _ _ _ _ _ us hl => match us, hl with | [_, _, _, _, _], _ => rfl
  have CLGp : Cal K mg "_law_group" fLGp _ ["m", "roads", "labels", "road", "wide"] := ⟨PySem.W.mg_of X G aLGp, kLGp, bLGp⟩
  have FLFa := fun_mk (st := sLFa) lLFa dLFa kLFa
  have bLFa := FLFa.binds (ps := ["m", "net", "most"]) fun _ _ _ _ _ _ us hl => match us, hl with | [_, _, _], _ => rfl
  have CLFa : Cal K mg "_law_failed" fLFa _ ["m", "net", "most"] := ⟨PySem.W.mg_of X G aLFa, kLFa, bLFa⟩
  have FLMo := fun_mk (st := sLMo) lLMo dLMo kLMo
  have bLMo := FLMo.binds (ps := ["net", "failed"]) fun _ _ _ _ _ _ us hl => match us, hl with | [_, _], _ => rfl
  have CLMo : Cal K mg "_law_moves" fLMo _ ["net", "failed"] := ⟨PySem.W.mg_of X G aLMo, kLMo, bLMo⟩
  have FLLo := fun_mk (st := sLLo) lLLo dLLo kLLo
  have bLLo := FLLo.binds (ps := ["goes"]) fun _ _ _ _ _ _ us hl => match us, hl with | [_], _ => rfl
  have CLLo : Cal K mg "_law_lots" fLLo _ ["goes"] := ⟨PySem.W.mg_of X G aLLo, kLLo, bLLo⟩
  have FLOf := fun_mk (st := sLOf) lLOf dLOf kLOf
  have bLOf := FLOf.binds (ps := ["lots", "road", "word"]) fun _ _ _ _ _ _ us hl => match us, hl with | [_, _, _], _ => rfl
  have CLOf : Cal K mg "_law_off" fLOf _ ["lots", "road", "word"] := ⟨PySem.W.mg_of X G aLOf, kLOf, bLOf⟩
  have FLSh := fun_mk (st := sLSh) lLSh dLSh kLSh
  have bLSh := FLSh.binds (ps := ["goes", "road", "label"]) fun _ _ _ _ _ _ us hl => match us, hl with | [_, _, _], _ => rfl
  have CLSh : Cal K mg "_law_shown" fLSh _ ["goes", "road", "label"] := ⟨PySem.W.mg_of X G aLSh, kLSh, bLSh⟩
  have FPop := fun_mk (st := sPop) lPop dPop kPop
  have bPop := FPop.binds (ps := ["net", "failed"]) fun _ _ _ _ _ _ us hl => match us, hl with | [_, _], _ => rfl
  have CPop : Cal K mg "pops" fPop _ ["net", "failed"] := ⟨PySem.W.mg_of X G aPop, kPop, bPop⟩
  have FNN := fun_mk (st := sNN) lNN dNN kNN
  have bNN := FNN.binds (ps := ["net"]) fun _ _ _ _ _ _ us hl => match us, hl with | [_], _ => rfl
  have CNN : Cal K mg "need_net" fNN _ ["net"] := ⟨PySem.W.mg_of X G aNN, kNN, bNN⟩
  have FTu := fun_mk (st := sTu) lTu dTu kTu
  have bTu := FTu.binds (ps := ["value", "least", "greatest"]) fun _ _ _ _ _ _ us hl => match us, hl with | [_, _, _], _ => rfl
  have CTu : Cal K mg "is_tuple" fTu _ ["value", "least", "greatest"] := ⟨PySem.W.mg_of X G aTu, kTu, bTu⟩
  have FNR := fun_mk (st := sNR) lNR dNR kNR
  have bNR := FNR.binds (ps := ["roads"]) fun _ _ _ _ _ _ us hl => match us, hl with | [_], _ => rfl
  have CNR : Cal K mg "need_roads" fNR _ ["roads"] := ⟨PySem.W.mg_of X G aNR, kNR, bNR⟩
  have FHp := fun_mk (st := sHp) lHp dHp kHp
  have bHp := FHp.binds (ps := ["value"]) fun _ _ _ _ _ _ us hl => match us, hl with | [_], _ => rfl
  have CHp : Cal K mg "is_house_pair" fHp _ ["value"] := ⟨PySem.W.mg_of X G aHp, kHp, bHp⟩
  have FPa := fun_mk (st := sPa) lPa dPa kPa
  have bPa := FPa.binds (ps := ["value"]) fun _ _ _ _ _ _ us hl => match us, hl with | [_], _ => rfl
  have CPa : Cal K mg "is_pair" fPa _ ["value"] := ⟨PySem.W.mg_of X G aPa, kPa, bPa⟩
  have FHo := fun_mk (st := sHo) lHo dHo kHo
  have bHo := FHo.binds (ps := ["value"]) fun _ _ _ _ _ _ us hl => match us, hl with | [_], _ => rfl
  have CHo : Cal K mg "is_house" fHo _ ["value"] := ⟨PySem.W.mg_of X G aHo, kHo, bHo⟩
  have FNu := fun_mk (st := sNu) lNu dNu kNu
  have bNu := FNu.binds (ps := ["value", "least", "greatest"]) fun _ _ _ _ _ _ us hl => match us, hl with | [_, _, _], _ => rfl
  have CNu : Cal K mg "is_number" fNu _ ["value", "least", "greatest"] := ⟨PySem.W.mg_of X G aNu, kNu, bNu⟩
  have FNL := fun_mk (st := sNL) lNL dNL kNL
  have bNL := FNL.binds (ps := ["labels"]) fun _ _ _ _ _ _ us hl => match us, hl with | [_], _ => rfl
  have CNL : Cal K mg "need_labels" fNL _ ["labels"] := ⟨PySem.W.mg_of X G aNL, kNL, bNL⟩
  have FLa := fun_mk (st := sLa) lLa dLa kLa
  have bLa := FLa.binds (ps := ["value"]) fun _ _ _ _ _ _ us hl => match us, hl with | [_], _ => rfl
  have CLa : Cal K mg "can_be_label" fLa _ ["value"] := ⟨PySem.W.mg_of X G aLa, kLa, bLa⟩
  have FWo := fun_mk (st := sWo) lWo dWo kWo
  have bWo := FWo.binds (ps := ["value"]) fun _ _ _ _ _ _ us hl => match us, hl with | [_], _ => rfl
  have CWo : Cal K mg "is_word" fWo _ ["value"] := ⟨PySem.W.mg_of X G aWo, kWo, bWo⟩
  have FNW := fun_mk (st := sNW) lNW dNW kNW
  have bNW := FNW.binds (ps := ["roads", "labels", "rows"]) fun _ _ _ _ _ _ us hl => match us, hl with | [_, _, _], _ => rfl
  have CNW : Cal K mg "need_rows" fNW _ ["roads", "labels", "rows"] := ⟨PySem.W.mg_of X G aNW, kNW, bNW⟩
  have FRw := fun_mk (st := sRw) lRw dRw kRw
  have bRw := FRw.binds (ps := ["roads", "labels", "value"]) fun _ _ _ _ _ _ us hl => match us, hl with | [_, _, _], _ => rfl
  have CRw : Cal K mg "is_row" fRw _ ["roads", "labels", "value"] := ⟨PySem.W.mg_of X G aRw, kRw, bRw⟩
  have FHd := fun_mk (st := sHd) lHd dHd kHd
  have bHd := FHd.binds (ps := ["roads", "labels", "value"]) fun _ _ _ _ _ _ us hl => match us, hl with | [_, _, _], _ => rfl
  have CHd : Cal K mg "is_head" fHd _ ["roads", "labels", "value"] := ⟨PySem.W.mg_of X G aHd, kHd, bHd⟩
  have FRd := fun_mk (st := sRd) lRd dRd kRd
  have bRd := FRd.binds (ps := ["roads", "value"]) fun _ _ _ _ _ _ us hl => match us, hl with | [_, _], _ => rfl
  have CRd : Cal K mg "is_road" fRd _ ["roads", "value"] := ⟨PySem.W.mg_of X G aRd, kRd, bRd⟩
  have FSg := fun_mk (st := sSg) lSg dSg kSg
  have bSg := FSg.binds (ps := ["labels", "value"]) fun _ _ _ _ _ _ us hl => match us, hl with | [_, _], _ => rfl
  have CSg : Cal K mg "is_sign" fSg _ ["labels", "value"] := ⟨PySem.W.mg_of X G aSg, kSg, bSg⟩
  have FGs := fun_mk (st := sGs) lGs dGs kGs
  have bGs := FGs.binds (ps := ["roads", "labels", "road", "value"]) fun _ _ _ _ _ _ us hl => match us, hl with | [_, _, _, _], _ => rfl
  have CGs : Cal K mg "is_groups" fGs _ ["roads", "labels", "road", "value"] := ⟨PySem.W.mg_of X G aGs, kGs, bGs⟩
  have FGr := fun_mk (st := sGr) lGr dGr kGr
  have bGr := FGr.binds (ps := ["roads", "labels", "road", "value"]) fun _ _ _ _ _ _ us hl => match us, hl with | [_, _, _, _], _ => rfl
  have CGr : Cal K mg "is_group" fGr _ ["roads", "labels", "road", "value"] := ⟨PySem.W.mg_of X G aGr, kGr, bGr⟩
  have FCh := fun_mk (st := sCh) lCh dCh kCh
  have bCh := FCh.binds (ps := ["roads", "labels", "road", "value"]) fun _ _ _ _ _ _ us hl => match us, hl with | [_, _, _, _], _ => rfl
  have CCh : Cal K mg "is_choice" fCh _ ["roads", "labels", "road", "value"] := ⟨PySem.W.mg_of X G aCh, kCh, bCh⟩
  have FLs := fun_mk (st := sLs) lLs dLs kLs
  have bLs := FLs.binds (ps := ["labels", "value", "most"]) fun _ _ _ _ _ _ us hl => match us, hl with | [_, _, _], _ => rfl
  have CLs : Cal K mg "is_labels" fLs _ ["labels", "value", "most"] := ⟨PySem.W.mg_of X G aLs, kLs, bLs⟩
  have FLb := fun_mk (st := sLb) lLb dLb kLb
  have bLb := FLb.binds (ps := ["labels", "value"]) fun _ _ _ _ _ _ us hl => match us, hl with | [_, _], _ => rfl
  have CLb : Cal K mg "is_label" fLb _ ["labels", "value"] := ⟨PySem.W.mg_of X G aLb, kLb, bLb⟩
  have FNF := fun_mk (st := sNF) lNF dNF kNF
  have bNF := FNF.binds (ps := ["net", "failed"]) fun _ _ _ _ _ _ us hl => match us, hl with | [_, _], _ => rfl
  have CNF : Cal K mg "need_failed" fNF _ ["net", "failed"] := ⟨PySem.W.mg_of X G aNF, kNF, bNF⟩
  have FFa := fun_mk (st := sFa) lFa dFa kFa
  have bFa := FFa.binds (ps := ["roads", "value"]) fun _ _ _ _ _ _ us hl => match us, hl with | [_, _], _ => rfl
  have CFa : Cal K mg "is_failed" fFa _ ["roads", "value"] := ⟨PySem.W.mg_of X G aFa, kFa, bFa⟩
  have FAs := fun_mk (st := sAs) lAs dAs kAs
  have bAs := FAs.binds (ps := ["values"]) fun _ _ _ _ _ _ us hl => match us, hl with | [_], _ => rfl
  have CAs : Cal K mg "is_ascending" fAs _ ["values"] := ⟨PySem.W.mg_of X G aAs, kAs, bAs⟩
  have FCBH := fun_mk (st := sCBH) lCBH dCBH kCBH
  have bCBH := FCBH.binds (ps := ["net", "failed"]) fun _ _ _ _ _ _ us hl => match us, hl with | [_, _], _ => rfl
  have CCBH : Cal K mg "choices_by_head" fCBH _ ["net", "failed"] := ⟨PySem.W.mg_of X G aCBH, kCBH, bCBH⟩
  have FAH := fun_mk (st := sAH) lAH dAH kAH
  have bAH := FAH.binds (ps := ["net"]) fun _ _ _ _ _ _ us hl => match us, hl with | [_], _ => rfl
  have CAH : Cal K mg "all_heads" fAH _ ["net"] := ⟨PySem.W.mg_of X G aAH, kAH, bAH⟩
  have FFC := fun_mk (st := sFC) lFC dFC kFC
  have bFC := FFC.binds (ps := ["net", "failed", "head"]) fun _ _ _ _ _ _ us hl => match us, hl with | [_, _, _], _ => rfl
  have CFC : Cal K mg "free_choices" fFC _ ["net", "failed", "head"] := ⟨PySem.W.mg_of X G aFC, kFC, bFC⟩
  have FGA := fun_mk (st := sGA) lGA dGA kGA
  have bGA := FGA.binds (ps := ["net", "head"]) fun _ _ _ _ _ _ us hl => match us, hl with | [_, _], _ => rfl
  have CGA : Cal K mg "groups_at" fGA _ ["net", "head"] := ⟨PySem.W.mg_of X G aGA, kGA, bGA⟩
  have FPTb := fun_mk (st := sPTb) lPTb dPTb kPTb
  have bPTb := FPTb.binds (ps := ["free"]) fun _ _ _ _ _ _ us hl => match us, hl with | [_], _ => rfl
  have CPTb : Cal K mg "pop_table" fPTb _ ["free"] := ⟨PySem.W.mg_of X G aPTb, kPTb, bPTb⟩
  have FSat := fun_mk (st := sSat) lSat dSat kSat
  have bSat := FSat.binds (ps := ["edges", "free"]) fun _ _ _ _ _ _ us hl => match us, hl with | [_, _], _ => rfl
  have CSat : Cal K mg "saturated" fSat _ ["edges", "free"] := ⟨PySem.W.mg_of X G aSat, kSat, bSat⟩
  have FTbO := fun_mk (st := sTbO) lTbO dTbO kTbO
  have bTbO := FTbO.binds (ps := ["edges"]) fun _ _ _ _ _ _ us hl => match us, hl with | [_], _ => rfl
  have CTbO : Cal K mg "table_of" fTbO _ ["edges"] := ⟨PySem.W.mg_of X G aTbO, kTbO, bTbO⟩
  have FAE := fun_mk (st := sAE) lAE dAE kAE
  have bAE := FAE.binds (ps := ["table", "head", "choice"]) fun _ _ _ _ _ _ us hl => match us, hl with | [_, _, _], _ => rfl
  have CAE : Cal K mg "add_edges" fAE _ ["table", "head", "choice"] := ⟨PySem.W.mg_of X G aAE, kAE, bAE⟩
  have FRch := fun_mk (st := sRch) lRch dRch kRch
  have bRch := FRch.binds (ps := ["table", "state", "signs"]) fun _ _ _ _ _ _ us hl => match us, hl with | [_, _, _], _ => rfl
  have CRch : Cal K mg "reached" fRch _ ["table", "state", "signs"] := ⟨PySem.W.mg_of X G aRch, kRch, bRch⟩
  have FLy := fun_mk (st := sLy) lLy dLy kLy
  have bLy := FLy.binds (ps := ["table", "state", "signs"]) fun _ _ _ _ _ _ us hl => match us, hl with | [_, _, _], _ => rfl
  have CLy : Cal K mg "layers" fLy _ ["table", "state", "signs"] := ⟨PySem.W.mg_of X G aLy, kLy, bLy⟩
  have FNxL := fun_mk (st := sNxL) lNxL dNxL kNxL
  have bNxL := FNxL.binds (ps := ["table", "layer", "sign"]) fun _ _ _ _ _ _ us hl => match us, hl with | [_, _, _], _ => rfl
  have CNxL : Cal K mg "next_layer" fNxL _ ["table", "layer", "sign"] := ⟨PySem.W.mg_of X G aNxL, kNxL, bNxL⟩
  have FSgO := fun_mk (st := sSgO) lSgO dSgO kSgO
  have bSgO := FSgO.binds (ps := ["head", "word"]) fun _ _ _ _ _ _ us hl => match us, hl with | [_, _], _ => rfl
  have CSgO : Cal K mg "signs_of" fSgO _ ["head", "word"] := ⟨PySem.W.mg_of X G aSgO, kSgO, bSgO⟩
  have FEO := fun_mk (st := sEO) lEO dEO kEO
  have bEO := FEO.binds (ps := ["table"]) fun _ _ _ _ _ _ us hl => match us, hl with | [_], _ => rfl
  have CEO : Cal K mg "edges_of" fEO _ ["table"] := ⟨PySem.W.mg_of X G aEO, kEO, bEO⟩
  have FPSt := fun_mk (st := sPSt) lPSt dPSt kPSt
  have bPSt := FPSt.binds (ps := ["net", "failed"]) fun _ _ _ _ _ _ us hl => match us, hl with | [_, _], _ => rfl
  have CPSt : Cal K mg "pop_steps" fPSt _ ["net", "failed"] := ⟨PySem.W.mg_of X G aPSt, kPSt, bPSt⟩
  have FWO := fun_mk (st := sWO) lWO dWO kWO
  have bWO := FWO.binds (ps := ["table", "edge"]) fun _ _ _ _ _ _ us hl => match us, hl with | [_, _], _ => rfl
  have CWO : Cal K mg "weight_of" fWO _ ["table", "edge"] := ⟨PySem.W.mg_of X G aWO, kWO, bWO⟩
  have T : Tx mg := ⟨PySem.W.mg_none_of X G z_int, PySem.W.mg_none_of X G z_range, PySem.W.mg_none_of X G z_enumerate, PySem.W.mg_none_of X G z_len⟩
  have TD : TxD K mg fM := { toTx := T, gM := PySem.W.mg_of X G aM, kM := kM }
  have TBt : Bt mg := { isi := PySem.W.mg_none_of X G z_isinstance, len := PySem.W.mg_none_of X G z_len, set := PySem.W.mg_none_of X G z_set, all := PySem.W.mg_none_of X G z_all, any := PySem.W.mg_none_of X G z_any, int := PySem.W.mg_none_of X G z_int, bool := PySem.W.mg_none_of X G z_bool, str := PySem.W.mg_none_of X G z_str, tuple := PySem.W.mg_none_of X G z_tuple, list := PySem.W.mg_none_of X G z_list, enum := PySem.W.mg_none_of X G z_enumerate, range := PySem.W.mg_none_of X G z_range, sorted := PySem.W.mg_none_of X G z_sorted, zip := PySem.W.mg_none_of X G z_zip, h7 := ⟨_, PySem.W.mg_of X G m_MOST_HOUSE⟩, l8 := ⟨_, PySem.W.mg_of X G m_MOST_LETTERS⟩, w3 := ⟨_, PySem.W.mg_of X G m_MOST_WORD⟩, c3 := ⟨_, PySem.W.mg_of X G m_MOST_CHOICES⟩, g3 := ⟨_, PySem.W.mg_of X G m_MOST_GROUPS⟩, r10 := ⟨_, PySem.W.mg_of X G m_MOST_ROADS⟩, l4 := ⟨_, PySem.W.mg_of X G m_MOST_LABELS⟩ }
  refine ⟨PySem.W.fnOf "law" "law" (defArgs sLaw) (defBody sLaw) (defScope sLaw) .none kVLaw dcLaw pmLaw anLaw cdLaw ctLaw, fun s v => .of_eq rfl, fun base _ _ => ?_⟩
  have GBeg : FnOk l.prog w K mg base CX0 2 fBeg _ ["script"] (spBeg K) := ok_beg FBeg T (PySem.W.mg_of X G aF) kF FF bF
  have GDr : FnOk l.prog w K mg base CX0 2 fDr _ ["m", "limit"] spDra := ok_dra FDr TD FM bM
  have GLGp := ok_LGp (P := l.prog) (w := w) (base := base) FLGp TBt CDr GDr
  have GLN := ok_LN (P := l.prog) (w := w) (base := base) FLN TBt CDr GDr CLGp GLGp
  have GLFa := ok_LFa (P := l.prog) (w := w) (base := base) FLFa TBt CDr GDr
  have GLMo := ok_LMo (P := l.prog) (w := w) (base := base) FLMo TBt (PySem.W.mg_none_of X G z_dict)
  have GLOf := ok_LOf (P := l.prog) (w := w) (base := base) FLOf TBt
  have GLLo := ok_LLo (P := l.prog) (w := w) (base := base) FLLo TBt (PySem.W.mg_none_of X G z_dict) CLOf GLOf
  have GLSh := ok_LSh (P := l.prog) (w := w) (base := base) FLSh TBt (PySem.W.mg_none_of X G z_min)
  have GTu := ok_Tu (P := l.prog) (w := w) (base := base) FTu TBt
  have GPa := ok_Pa (P := l.prog) (w := w) (base := base) FPa TBt CTu GTu
  have GNu := ok_Nu (P := l.prog) (w := w) (base := base) FNu TBt
  have GHo := ok_Ho (P := l.prog) (w := w) (base := base) FHo TBt CNu GNu
  have GHp := ok_Hp (P := l.prog) (w := w) (base := base) FHp TBt CPa GPa CHo GHo
  have GNR := ok_NR (P := l.prog) (w := w) (base := base) FNR TBt CTu GTu CHp GHp
  have GWo := ok_Wo (P := l.prog) (w := w) (base := base) FWo TBt
  have GLa := ok_La (P := l.prog) (w := w) (base := base) FLa TBt CWo GWo
  have GNL := ok_NL (P := l.prog) (w := w) (base := base) FNL TBt CTu GTu CLa GLa
  have GRd := ok_Rd (P := l.prog) (w := w) (base := base) FRd TBt CNu GNu
  have GSg := ok_Sg (P := l.prog) (w := w) (base := base) FSg TBt
  have GHd := ok_Hd (P := l.prog) (w := w) (base := base) FHd TBt CPa GPa CRd GRd CSg GSg
  have GLb := ok_Lb (P := l.prog) (w := w) (base := base) FLb TBt
  have GLs := ok_Ls (P := l.prog) (w := w) (base := base) FLs TBt CTu GTu CLb GLb
  have GCh := ok_Ch (P := l.prog) (w := w) (base := base) FCh TBt CPa GPa CRd GRd CLs GLs
  have GGr := ok_Gr (P := l.prog) (w := w) (base := base) FGr TBt CTu GTu CCh GCh
  have GGs := ok_Gs (P := l.prog) (w := w) (base := base) FGs TBt CTu GTu CGr GGr
  have GRw := ok_Rw (P := l.prog) (w := w) (base := base) FRw TBt CPa GPa CHd GHd CGs GGs
  have GNW := ok_NW (P := l.prog) (w := w) (base := base) FNW TBt CTu GTu CRw GRw
  have GNN := ok_NN (P := l.prog) (w := w) (base := base) FNN TBt CTu GTu CNR GNR CNL GNL CNW GNW
  have GAs := ok_As (P := l.prog) (w := w) (base := base) FAs TBt
  have GFa := ok_Fa (P := l.prog) (w := w) (base := base) FFa TBt CTu GTu CRd GRd CAs GAs
  have GNF := ok_NF (P := l.prog) (w := w) (base := base) FNF TBt CFa GFa
  have GAH := ok_AH (P := l.prog) (w := w) (base := base) FAH TBt
  have GGA := ok_GA (P := l.prog) (w := w) (base := base) FGA TBt
  have GFC := ok_FC (P := l.prog) (w := w) (base := base) FFC TBt CGA GGA
  have GCBH := ok_CBH (P := l.prog) (w := w) (base := base) FCBH TBt CAH GAH CFC GFC
  have GTbO := ok_TbO (P := l.prog) (w := w) (base := base) FTbO TBt
  have GNxL := ok_NxL (P := l.prog) (w := w) (base := base) FNxL TBt
  have GLy := ok_Ly (P := l.prog) (w := w) (base := base) FLy TBt CNxL GNxL
  have GRch := ok_Rch (P := l.prog) (w := w) (base := base) FRch TBt CLy GLy
  have GSgO := ok_SgO (P := l.prog) (w := w) (base := base) FSgO TBt
  have GAE := ok_AE (P := l.prog) (w := w) (base := base) FAE TBt CRch GRch CSgO GSgO
  have GSat := ok_Sat (P := l.prog) (w := w) (base := base) FSat TBt CTbO GTbO CAE GAE
  have GPTb := ok_PTb (P := l.prog) (w := w) (base := base) FPTb TBt CSat GSat
  have GEO := ok_EO (P := l.prog) (w := w) (base := base) FEO TBt
  have GPop := ok_Pop (P := l.prog) (w := w) (base := base) FPop TBt CNN GNN CNF GNF CCBH GCBH CPTb GPTb CEO GEO
  have GWO := ok_WO (P := l.prog) (w := w) (base := base) FWO TBt
  have GPSt := ok_PSt (P := l.prog) (w := w) (base := base) FPSt TBt CNN GNN CNF GNF CCBH GCBH CPTb GPTb CEO GEO CWO GWO
  exact ok_law (P := l.prog) (w := w) (base := base) FLaw TBt (PySem.W.mg_none_of X G z_repr) (PySem.W.mg_none_of X G z_max) CBeg GBeg CLN GLN CLFa GLFa CLMo GLMo CLLo GLLo CLSh GLSh CPop GPop CPSt GPSt
end Lr
open PySem PySem.W PyProof.Rows
set_option maxRecDepth 100000 in
set_option maxHeartbeats 0 in
theorem PySem.Challenge.cw_labelroads_k40_whole_pops_holds : PySem.Challenge.rw_labelroads_k40_whole_pops.Holds :=
  Lr.hd (by
    k_fill
    refine L2.walk_ofG (l := PySem.Challenge.rw_labelroads_k40_whole_pops) (n := 63) (k := 12) (x := "script") (sp := Lr.spLaw) rfl (by decide) rfl ⟨rfl, by decide, by decide⟩ (fun w h Y => PySem.W.kIn_of Y) ?F (fun _ _ a ns hl _ hS => ⟨a, ns, rfl, hS, hl, fun _ => rfl⟩)
    case F =>
      intro w mg fa h KX G hmg
      refine' Lr.all_mk KX G hmg ?aM ?lM ?dM ?kM ?aF ?lF ?dF ?kF ?aDr ?lDr ?dDr ?kDr ?aBeg ?lBeg ?dBeg ?kBeg ?aLaw ?lLaw ?dLaw ?kLaw ?aLN ?lLN ?dLN ?kLN ?aLGp ?lLGp ?dLGp ?kLGp ?aLFa ?lLFa ?dLFa ?kLFa ?aLMo ?lLMo ?dLMo ?kLMo ?aLLo ?lLLo ?dLLo ?kLLo ?aLOf ?lLOf ?dLOf ?kLOf ?aLSh ?lLSh ?dLSh ?kLSh ?aPop ?lPop ?dPop ?kPop ?aNN ?lNN ?dNN ?kNN ?aTu ?lTu ?dTu ?kTu ?aNR ?lNR ?dNR ?kNR ?aHp ?lHp ?dHp ?kHp ?aPa ?lPa ?dPa ?kPa ?aHo ?lHo ?dHo ?kHo ?aNu ?lNu ?dNu ?kNu ?aNL ?lNL ?dNL ?kNL ?aLa ?lLa ?dLa ?kLa ?aWo ?lWo ?dWo ?kWo ?aNW ?lNW ?dNW ?kNW ?aRw ?lRw ?dRw ?kRw ?aHd ?lHd ?dHd ?kHd ?aRd ?lRd ?dRd ?kRd ?aSg ?lSg ?dSg ?kSg ?aGs ?lGs ?dGs ?kGs ?aGr ?lGr ?dGr ?kGr ?aCh ?lCh ?dCh ?kCh ?aLs ?lLs ?dLs ?kLs ?aLb ?lLb ?dLb ?kLb ?aNF ?lNF ?dNF ?kNF ?aFa ?lFa ?dFa ?kFa ?aAs ?lAs ?dAs ?kAs ?aCBH ?lCBH ?dCBH ?kCBH ?aAH ?lAH ?dAH ?kAH ?aFC ?lFC ?dFC ?kFC ?aGA ?lGA ?dGA ?kGA ?aPTb ?lPTb ?dPTb ?kPTb ?aSat ?lSat ?dSat ?kSat ?aTbO ?lTbO ?dTbO ?kTbO ?aAE ?lAE ?dAE ?kAE ?aRch ?lRch ?dRch ?kRch ?aLy ?lLy ?dLy ?kLy ?aNxL ?lNxL ?dNxL ?kNxL ?aSgO ?lSgO ?dSgO ?kSgO ?aEO ?lEO ?dEO ?kEO ?aPSt ?lPSt ?dPSt ?kPSt ?aWO ?lWO ?dWO ?kWO ?z_isinstance ?z_len ?z_set ?z_all ?z_any ?z_int ?z_bool ?z_str ?z_tuple ?z_list ?z_enumerate ?z_range ?z_sorted ?z_zip ?z_repr ?z_min ?z_max ?z_dict ?m_MOST_HOUSE ?m_MOST_LETTERS ?m_MOST_WORD ?m_MOST_CHOICES ?m_MOST_GROUPS ?m_MOST_ROADS ?m_MOST_LABELS
      (case aM => k_is)
      (case lM => k_is)
      (case dM => k_is)
      (case kM => k_is)
      (case aF => k_is)
      (case lF => k_is)
      (case dF => k_is)
      (case kF => k_is)
      (case aDr => k_is)
      (case lDr => k_is)
      (case dDr => k_is)
      (case kDr => k_is)
      (case aBeg => k_is)
      (case lBeg => k_is)
      (case dBeg => k_is)
      (case kBeg => k_is)
      (case aLaw => k_is)
      (case lLaw => k_is)
      (case dLaw => k_is)
      (case kLaw => k_is)
      (case aLN => k_is)
      (case lLN => k_is)
      (case dLN => k_is)
      (case kLN => k_is)
      (case aLGp => k_is)
      (case lLGp => k_is)
      (case dLGp => k_is)
      (case kLGp => k_is)
      (case aLFa => k_is)
      (case lLFa => k_is)
      (case dLFa => k_is)
      (case kLFa => k_is)
      (case aLMo => k_is)
      (case lLMo => k_is)
      (case dLMo => k_is)
      (case kLMo => k_is)
      (case aLLo => k_is)
      (case lLLo => k_is)
      (case dLLo => k_is)
      (case kLLo => k_is)
      (case aLOf => k_is)
      (case lLOf => k_is)
      (case dLOf => k_is)
      (case kLOf => k_is)
      (case aLSh => k_is)
      (case lLSh => k_is)
      (case dLSh => k_is)
      (case kLSh => k_is)
      (case aPop => k_is)
      (case lPop => k_is)
      (case dPop => k_is)
      (case kPop => k_is)
      (case aNN => k_is)
      (case lNN => k_is)
      (case dNN => k_is)
      (case kNN => k_is)
      (case aTu => k_is)
      (case lTu => k_is)
      (case dTu => k_is)
      (case kTu => k_is)
      (case aNR => k_is)
      (case lNR => k_is)
      (case dNR => k_is)
      (case kNR => k_is)
      (case aHp => k_is)
      (case lHp => k_is)
      (case dHp => k_is)
      (case kHp => k_is)
      (case aPa => k_is)
      (case lPa => k_is)
      (case dPa => k_is)
      (case kPa => k_is)
      (case aHo => k_is)
      (case lHo => k_is)
      (case dHo => k_is)
      (case kHo => k_is)
      (case aNu => k_is)
      (case lNu => k_is)
      (case dNu => k_is)
      (case kNu => k_is)
      (case aNL => k_is)
      (case lNL => k_is)
      (case dNL => k_is)
      (case kNL => k_is)
      (case aLa => k_is)
      (case lLa => k_is)
      (case dLa => k_is)
      (case kLa => k_is)
      (case aWo => k_is)
      (case lWo => k_is)
      (case dWo => k_is)
      (case kWo => k_is)
      (case aNW => k_is)
      (case lNW => k_is)
      (case dNW => k_is)
      (case kNW => k_is)
      (case aRw => k_is)
      (case lRw => k_is)
      (case dRw => k_is)
      (case kRw => k_is)
      (case aHd => k_is)
      (case lHd => k_is)
      (case dHd => k_is)
      (case kHd => k_is)
      (case aRd => k_is)
      (case lRd => k_is)
      (case dRd => k_is)
      (case kRd => k_is)
      (case aSg => k_is)
      (case lSg => k_is)
      (case dSg => k_is)
      (case kSg => k_is)
      (case aGs => k_is)
      (case lGs => k_is)
      (case dGs => k_is)
      (case kGs => k_is)
      (case aGr => k_is)
      (case lGr => k_is)
      (case dGr => k_is)
      (case kGr => k_is)
      (case aCh => k_is)
      (case lCh => k_is)
      (case dCh => k_is)
      (case kCh => k_is)
      (case aLs => k_is)
      (case lLs => k_is)
      (case dLs => k_is)
      (case kLs => k_is)
      (case aLb => k_is)
      (case lLb => k_is)
      (case dLb => k_is)
      (case kLb => k_is)
      (case aNF => k_is)
      (case lNF => k_is)
      (case dNF => k_is)
      (case kNF => k_is)
      (case aFa => k_is)
      (case lFa => k_is)
      (case dFa => k_is)
      (case kFa => k_is)
      (case aAs => k_is)
      (case lAs => k_is)
      (case dAs => k_is)
      (case kAs => k_is)
      (case aCBH => k_is)
      (case lCBH => k_is)
      (case dCBH => k_is)
      (case kCBH => k_is)
      (case aAH => k_is)
      (case lAH => k_is)
      (case dAH => k_is)
      (case kAH => k_is)
      (case aFC => k_is)
      (case lFC => k_is)
      (case dFC => k_is)
      (case kFC => k_is)
      (case aGA => k_is)
      (case lGA => k_is)
      (case dGA => k_is)
      (case kGA => k_is)
      (case aPTb => k_is)
      (case lPTb => k_is)
      (case dPTb => k_is)
      (case kPTb => k_is)
      (case aSat => k_is)
      (case lSat => k_is)
      (case dSat => k_is)
      (case kSat => k_is)
      (case aTbO => k_is)
      (case lTbO => k_is)
      (case dTbO => k_is)
      (case kTbO => k_is)
      (case aAE => k_is)
      (case lAE => k_is)
      (case dAE => k_is)
      (case kAE => k_is)
      (case aRch => k_is)
      (case lRch => k_is)
      (case dRch => k_is)
      (case kRch => k_is)
      (case aLy => k_is)
      (case lLy => k_is)
      (case dLy => k_is)
      (case kLy => k_is)
      (case aNxL => k_is)
      (case lNxL => k_is)
      (case dNxL => k_is)
      (case kNxL => k_is)
      (case aSgO => k_is)
      (case lSgO => k_is)
      (case dSgO => k_is)
      (case kSgO => k_is)
      (case aEO => k_is)
      (case lEO => k_is)
      (case dEO => k_is)
      (case kEO => k_is)
      (case aPSt => k_is)
      (case lPSt => k_is)
      (case dPSt => k_is)
      (case kPSt => k_is)
      (case aWO => k_is)
      (case lWO => k_is)
      (case dWO => k_is)
      (case kWO => k_is)
      (case z_isinstance => k_is)
      (case z_len => k_is)
      (case z_set => k_is)
      (case z_all => k_is)
      (case z_any => k_is)
      (case z_int => k_is)
      (case z_bool => k_is)
      (case z_str => k_is)
      (case z_tuple => k_is)
      (case z_list => k_is)
      (case z_enumerate => k_is)
      (case z_range => k_is)
      (case z_sorted => k_is)
      (case z_zip => k_is)
      (case z_repr => k_is)
      (case z_min => k_is)
      (case z_max => k_is)
      (case z_dict => k_is)
      (case m_MOST_HOUSE => k_is)
      (case m_MOST_LETTERS => k_is)
      (case m_MOST_WORD => k_is)
      (case m_MOST_CHOICES => k_is)
      (case m_MOST_GROUPS => k_is)
      (case m_MOST_ROADS => k_is)
      (case m_MOST_LABELS => k_is))
#print axioms PySem.Challenge.cw_labelroads_k40_whole_pops_holds
