import PyProof.Rows.All
import Wide.All
import OpenK.AllK
import Wide.FinOn
import HandS.ForMost
import HandS.ForExc
import HandS.ExcInit
import HandS.IsInst
import HandS.ExcIs
import HandS.ExcValue
import HandS.Walk
import HandS.Text
import KE.KExcInit
import KE.KExcIs
import KE.GoesMore
import KE.GoesEnum
import PyProof.ReprReads
import PyProof.ExcBaseAll.OverflowError
import PySem.Challenge.RW_labelroads_k30_exceptions_of_the_first_p
set_option Elab.async false
set_option linter.all false
set_option maxRecDepth 100000
set_option maxHeartbeats 8000000
namespace L2
open PySem PySem.Spec PyProof.Rows

/-! data as repr reads it: None, bools, ints, texts, lists, tuples, empty dicts. b says whether a dict may stand in it: then no list is where the interpreter's own table of modules stands -/
mutual
inductive Da (K : PySem.W.Frag) (H : Hp) (b : Bool) : V → PyData → Prop
  | non : Da K H b .non .none
  | bl (z : Bool) : Da K H b (.bl z) (.bool z)
  | int (i : Int) : Da K H b (.int i) (.int i)
  | str (x : Str) : Da K H b (.str x) (.str x)
  | lst {a : Addr} {xs : List V} {ds : List PyData} (h : SqL K H a xs) (all : DaAll K H b xs ds) (ok : b = true → a ≠ sysModules) : Da K H b (.ref a) (.list ds)
  | tup {a : Addr} {xs : List V} {ds : List PyData} (h : SqT K H a xs) (all : DaAll K H b xs ds) : Da K H b (.ref a) (.tuple ds)
  | dic {a : Addr} (h : H a = some (.dK [])) (ok : b = true) : Da K H b (.ref a) (.dict [])
inductive DaAll (K : PySem.W.Frag) (H : Hp) (b : Bool) : List V → List PyData → Prop
  | nil : DaAll K H b [] []
  | cons {v : V} {vs : List V} {d : PyData} {ds : List PyData} (h : Da K H b v d) (t : DaAll K H b vs ds) : DaAll K H b (v :: vs) (d :: ds)
end

section
variable {X : Cx} {pins : List (Addr × Obj)} {σ : L2.St} {H : Hp} {s : Shared} {b : Bool}
mutual
theorem Da.reads (I : Inv X pins σ H s) : ∀ (d : PyData) (v : V) (u : Value), Da X.K H b v d → RelV v u → ∃ as, Reads s.heap u d as ∧ (b = true → sysModules ∉ as) ∧ (b = false → d.hasDict = false)
  | .none, _, _, h, r => by
    cases h
    cases r
    exact ⟨[], .none, fun _ => by simp, fun _ => by simp [PyData.hasDict]⟩
  | .bool z, _, _, h, r => by
    cases h
    cases r
    exact ⟨[], .bool z, fun _ => by simp, fun _ => by simp [PyData.hasDict]⟩
  | .int i, _, _, h, r => by
    cases h
    obtain ⟨t, rfl⟩ := r
    exact ⟨[], .int i t, fun _ => by simp, fun _ => by simp [PyData.hasDict]⟩
  | .str x, _, _, h, r => by
    cases h
    obtain ⟨t, rfl⟩ := r
    exact ⟨[], .str x t, fun _ => by simp, fun _ => by simp [PyData.hasDict]⟩
  | .list ds, _, _, h, r => by
    cases h with
    | @lst a xs _ hs ha ok =>
      cases r
      obtain ⟨its, rv, ⟨o, n, ho, hc, _, hd⟩, _⟩ := I.list hs
      obtain ⟨as, hr, no, nd⟩ := Da.readsAll I ds _ its ha rv
      refine ⟨_, Reads.list ho hc hd hr, fun hb mem => ?_, fun hb => by simp only [PyData.hasDict]; exact nd hb⟩
      rcases List.mem_cons.mp mem with e | mem
      · exact ok hb e.symm
      · exact no hb mem
  | .tuple ds, _, _, h, r => by
    cases h with
    | tup hs ha =>
      cases r
      obtain ⟨its, rv, ⟨o, ho, hc, n, hd⟩, _⟩ := I.tuple hs
      obtain ⟨as, hr, no, nd⟩ := Da.readsAll I ds _ its ha rv
      exact ⟨_, Reads.tuple ho hc hd hr, no, fun hb => by simp only [PyData.hasDict]; exact nd hb⟩
  | .dict kvs, _, _, h, r => by
    cases h with
    | @dic a ea ok =>
      cases r
      obtain ⟨_, hsys, vs, kv, o, es, ep, h1, h2, h3, h4⟩ : ([] : List (Key × V)).length ≤ sizeLine ∧ (a == sysModules) = false ∧ ∃ vs, KV ([] : List (Key × V)) vs ∧ s.heap.DictOf (mixKind X.prog X.w) a vs := I.hok a _ ea
      cases kv
      obtain ⟨_, pr, _⟩ := h4
      have e0 : es.toList = [] := by
        cases z : es.toList with
        | nil => rfl
        | cons x l =>
          rw [z] at pr
          cases pr
      refine ⟨_, Reads.dict (kvs := []) (as := []) (bs := []) h1 h2.1 h3 ?_ ?_, fun _ mem => ?_, fun hb => ?_⟩
      · rw [e0]
        exact .nil
      · rw [e0]
        exact .nil
      · have z : sysModules = a := by simpa using mem
        rw [z] at hsys
        simp at hsys
      · rw [ok] at hb
        cases hb
theorem Da.readsAll (I : Inv X pins σ H s) : ∀ (ds : List PyData) (vs : List V) (us : List Value), DaAll X.K H b vs ds → Vals vs us → ∃ as, ReadsAll s.heap us ds as ∧ (b = true → sysModules ∉ as) ∧ (b = false → PyData.hasDictAll ds = false)
  | [], _, _, h, r => by
    cases h
    cases r
    exact ⟨[], .nil, fun _ => by simp, fun _ => by simp [PyData.hasDictAll]⟩
  | d :: ds, _, _, h, r => by
    cases h with
    | cons h1 h2 =>
      cases r with
      | cons r1 r2 =>
        obtain ⟨as, q1, n1, m1⟩ := Da.reads I d _ _ h1 r1
        obtain ⟨bs, q2, n2, m2⟩ := Da.readsAll I ds _ _ h2 r2
        exact ⟨_, .cons q1 q2, fun hb z => (List.mem_append.mp z).elim (n1 hb) (n2 hb), fun hb => by simp only [PyData.hasDictAll]; rw [m1 hb, m2 hb]; rfl⟩
end
end

/-- repr(x), x data; it tells the text of the data -/
def rRepr (K : PySem.W.Frag) : List V → Hp → VK → Prop := fun xs H Q => ∃ (x : V) (d : PyData) (b : Bool), xs = [x] ∧ Da K H b x d ∧ d.showable = true ∧ d.shown.length ≤ sizeLine ∧ d.depth ≤ 60 ∧ Q (.str d.shown) H
theorem call_repr {X : Cx} (hg : X.A.guards = some []) (hu : X.A.units + 100 < cLine) : CallR X (.builtin "repr") (rRepr X.K) := by
  intro pins s σ H xs us Q I r h
  obtain ⟨x, d, b, rfl, hd, sh, sz, dep, q⟩ := h
  obtain ⟨u, rfl, rx⟩ := vals1 r
  obtain ⟨as, rd, no, nd⟩ := Da.reads I d x u hd rx
  have hsm : d.hasDict = true → sysModules ∉ as := fun z => by
    cases b with
    | true => exact no rfl
    | false =>
      rw [nd rfl] at z
      cases z
  cases rd with
  | none => exact PySem.P.repr_of_none ⟨.str _, H, I.tok _, ⟨_, rfl⟩, q⟩
  | bool b => exact PySem.P.repr_of_bool ⟨.str _, H, I.tok _, ⟨_, rfl⟩, q⟩
  | int i t => exact PySem.P.repr_of_int (by simpa [PyData.showable] using sh) ⟨.str _, H, I.tok _, ⟨_, rfl⟩, q⟩
  | str z t => exact PySem.P.repr_of_str ⟨.str _, H, I.tok _, ⟨_, rfl⟩, q⟩ (by simpa [PyData.shown] using sz)
  | list h1 h2 h3 h4 => exact repr_of_reads' (.list h1 h2 h3 h4) sh hsm hg (by omega) (fun _ _ z => z) (fun h' u tk k => ⟨.str _, H, I.kept (t' := tk) k, ⟨_, rfl⟩, q⟩) sz
  | tuple h1 h2 h3 h4 => exact repr_of_reads' (.tuple h1 h2 h3 h4) sh hsm hg (by omega) (fun _ _ z => z) (fun h' u tk k => ⟨.str _, H, I.kept (t' := tk) k, ⟨_, rfl⟩, q⟩) sz
  | dict h1 h2 h3 h4 h5 => exact repr_of_reads' (.dict h1 h2 h3 h4 h5) sh hsm hg (by omega) (fun _ _ z => z) (fun h' u tk k => ⟨.str _, H, I.kept (t' := tk) k, ⟨_, rfl⟩, q⟩) sz
/-- [e, ..]: a new list, not where the table of modules stands -/
def tLstN (t : TA) : TE := fun σ H Q => t σ H fun xs H1 => xs.length ≤ sizeLine ∧ ∀ p, H1 p = none → p ≠ sysModules → Q (.ref p) (upd H1 p (.lst xs))
theorem pe_lstN {X : Cx} {es : List Expr} {t : TA} {pos : Pos} (h : PA X es t) : PE X (.List es pos) (tLstN t) := by
  refine ⟨fun pins s σ H Q I want => wpAny_List_spliced (thn (h.run pos pins s σ H _ I want) fun us s1 hu => ?_)⟩
  obtain ⟨xs, H1, I1, r, few, q⟩ := hu
  refine ⟨by rw [← r.length]; exact few, ?_⟩
  have free : H1 s1.heap.objs.size = none := I1.hok.fresh (Nat.le_refl _)
  have big : s1.heap.objs.size ≠ sysModules := Nat.ne_of_gt I1.big
  refine ⟨.ref s1.heap.objs.size, upd H1 s1.heap.objs.size (.lst xs), I1.laid (t' := s1.toks) (fun b u z => Heap.get?_push_of_some _ z) (Nat.le_refl _) ?_, rfl, q _ free big⟩
  exact ⟨few, us, 0, r, Heap.get?_push_size _ rfl⟩
mutual
theorem Da.mono {K : PySem.W.Frag} {H H' : Hp} {b : Bool} (sm : Same H H') : ∀ (d : PyData) (v : V), Da K H b v d → Da K H' b v d
  | .none, _, h => by
    cases h
    exact .non
  | .bool b, _, h => by
    cases h
    exact .bl b
  | .int i, _, h => by
    cases h
    exact .int i
  | .str x, _, h => by
    cases h
    exact .str x
  | .list ds, _, h => by
    cases h with
    | lst hs ha ok => exact .lst (sm.seq hs) (DaAll.mono sm ds _ ha) ok
  | .tuple ds, _, h => by
    cases h with
    | tup hs ha =>
      refine .tup ?_ (DaAll.mono sm ds _ ha)
      rcases hs with (e | ⟨o, e⟩) | z
      · exact .inl (.inl (sm _ _ e))
      · exact .inl (.inr ⟨o, sm _ _ e⟩)
      · exact .inr z
  | .dict ds, _, h => by
    cases h with
    | dic e ok => exact .dic (sm _ _ e) ok
theorem DaAll.mono {K : PySem.W.Frag} {H H' : Hp} {b : Bool} (sm : Same H H') : ∀ (ds : List PyData) (vs : List V), DaAll K H b vs ds → DaAll K H' b vs ds
  | [], _, h => by
    cases h
    exact .nil
  | d :: ds, _, h => by
    cases h with
    | cons h1 h2 => exact .cons (Da.mono sm d _ h1) (DaAll.mono sm ds _ h2)
end

/-! ### promises of defs that are called while no repr runs -/
structure FnG (P : Program) (w : World) (K : PySem.W.Frag) (mg : Str → Option Value) (base : Heap) (CX : CXT) (k : Nat) (f : Addr) (fd : FuncData) (ps : List Str) (sp : Sp) : Prop where
  len : ∀ vs H Q E, sp vs H Q E → vs.length = ps.length
  go : ∀ (A : Around) (outer : List Env) (s : Shared) (H : Hp) (args : Args) (us : List Value) (vs : List V) (Q : VK) (E : XK), A.guards = some [] → Room k A →
    Env0 P w K mg base A outer s H → BindsTo s fd args (ps.zip us) → Vals vs us → sp vs H Q E → codeAny (model P w) A (.call (.ref f) args) (CR CX outer P w H s Q E) s

theorem fnG_of {CX : CXT} {P : Program} {w : World} {K : PySem.W.Frag} {mg : Str → Option Value} {base : Heap} {k : Nat} {f : Addr} {name qual : Str} {params : Arguments} {body : List Stmt} {scope : Scope} {dV kV doc pm cdv ct oc : Value} {an od : Option Addr}
    {osl : Array (Option Value)} {N ps : List Str} {sp : Sp} (at_f : K.lookup f = some ⟨oc, od, .func (PySem.W.fnOf name qual params body scope dV kV doc pm an cdv ct), osl⟩) (code : PySem.W.codeIn K cdv qual = true) (S : FnScope N ps scope)
    (len : ∀ vs H Q E, sp vs H Q E → vs.length = ps.length)
    (walk : ∀ (A : Around) (outer : List Env) (s : Shared) (H : Hp) (vs : List V) (Q : VK) (E : XK), A.guards = some [] → Room k (A.deeper (envOfC qual scope s.heap.objs.size f cdv)) → sp vs H Q E →
      ∃ t, PSs (cxOf CX P w K mg base N qual scope f cdv A outer s H E) body t ∧ t { nx := fun _ H' => Q .non H', rt := Q } (start N vs) H) :
    FnG P w K mg base CX (k + 1) f (PySem.W.fnOf name qual params body scope dV kV doc pm an cdv ct) ps sp := by
  refine ⟨len, fun A outer s H args us vs Q E gd hr env0 bind r want => ?_⟩
  have n_args := len _ _ _ _ want
  have kin : K.In s.heap := env0.mod.kin.keeps fun b o z => (env0.bs b o z).1
  have nolim : s.heap.NoLimit := env0.mod.nolimit.keeps fun b o z => (env0.bs b o z).1
  have kinds : ∀ y ∈ ps.zip us, scope.names.lookup y.1 = some .local ∨ (scope.names.lookup y.1 = some .cell ∧ ((cellsFrom (s.heap.objs.size + 1) scope.names []).lookup y.1).isSome = true) := by
    rintro ⟨n, v⟩ hy
    rcases S.par n (List.of_mem_zip hy).1 with z | z
    · exact .inl z
    · exact .inr ⟨z, PySem.W.cellsFrom_some _ _ _ (.inl z)⟩
  refine codeAny_call_function hr.depth (kin _ _ at_f) rfl S.co S.gen rfl (PySem.W.codeRec_of kin code) (bind _ _ _ _ ?_)
  refine wpAny_newFunctionEnv_cells S.kind kinds fun env env_is s1 made => ?_
  subst env_is
  refine ⟨nolim.keeps made.toInCall.keep, codeAny_func ?_⟩
  obtain ⟨t, ht, hq⟩ := walk A outer s H vs Q E gd (hr.deeper _) want
  have I : Inv (cxOf CX P w K mg base N qual scope f cdv A outer s H E) [] (start N vs) H s1 := inv_start S hr.hd env0 n_args r made
  refine wpAny_mono (ht.run [] s1 (start N vs) H _ I hq) (fun fl s' last => ?_) fun e s' z => z
  have out : ∀ {σ' : L2.St} {H' : Hp} {v : V} {u : Value}, Inv (cxOf CX P w K mg base N qual scope f cdv A outer s H E) [] σ' H' s' → RelV v u → Q v H' → CE outer P w H s Q u s' :=
    fun {σ' H' v u} J rv q => ⟨v, H', J.os, J.bare, J.base, J.hok, rv, q⟩
  match fl, last with
  | .ret u, ⟨v, σ', H', J, rv, q⟩ => exact out J rv q
  | .next, ⟨σ', H', J, q⟩ => exact out (v := V.non) (u := Value.none) J rfl q
  | .brk, ⟨_, _, _, q⟩ => exact False.elim q
  | .cont, ⟨_, _, _, q⟩ => exact False.elim q

section
variable {P : Program} {w : World} {K : PySem.W.Frag} {mg : Str → Option Value} {base : Heap}
/-- a def whose body says that nothing leaves it -/
theorem Fun.okG {x qual : Str} {st : Stmt} {f : Addr} {fd : FuncData} {N ps : List Str} {k : Nat} {sp : Sp} (F : Fun K x qual st f fd) (S : FnScope N ps (defScope st)) (len : ∀ vs H Q E, sp vs H Q E → vs.length = ps.length)
    (walk : ∀ (cdv : Value) (A : Around) (outer : List Env) (s : Shared) (H : Hp) (vs : List V) (Q : VK) (E : XK), A.guards = some [] → Room k (A.deeper (envOfC qual (defScope st) s.heap.objs.size f cdv)) → sp vs H Q E →
      ∃ t, PSs (cxOf CX0 P w K mg base N qual (defScope st) f cdv A outer s H E).nox (defBody st) t ∧ t { nx := fun _ H' => Q .non H', rt := Q } (start N vs) H) : FnG P w K mg base CX0 (k + 1) f fd ps sp := by
  obtain ⟨oc, od, kV, doc, pm, an, cdv, ct, osl, rfl, at_f, code⟩ := F.ex
  refine fnG_of at_f code S len fun A outer s H vs Q E gd hr want => ?_
  obtain ⟨t, h, q⟩ := walk cdv A outer s H vs Q E gd hr want
  exact ⟨t, h.nox, q⟩
end
section
variable {X : Cx} {CX : CXT} {k : Nat} {f : Addr} {fd : FuncData} {ps : List Str} {sp : Sp} {E : XK} {x : Str} {p pos : Pos} {e : Expr} {es : List Expr} {t : TA}
theorem pe_callG (G : FnG X.prog X.w X.K X.mg X.base CX k f fd ps sp) (gd : X.A.guards = some []) (hr : Room k X.A) (hg : Gl X x) (hm : X.mg x = some (.ref f)) (hk : PySem.W.keepIn X.K (.ref f) = true) (hb : Binds X.K fd ps []) (hx : Passes CX X E)
    (ha : PA X (e :: es) t) (hdb : (x == ("__debug__" : Str)) = false := by decide) (he : starEach (e :: es) X.env = (false, eval e X.env) :: starEach es X.env := by rfl) (hpl : (backTo pos (starEach es X.env)).any (·.1) = false := by rfl) :
    PE X (.Call (.Name x p) (e :: es) [] pos) (tCall sp [] E t) := by
  refine ⟨fun pins s σ H Q I h => wpAny_Call_Name_kw (ld_glob I hg hm ?_ hdb)⟩
  refine PySem.W.callWith_K (h₀ := X.base) I.ok.mod.kin hk (thn (ha.run pos pins s σ H _ I h) fun us s1 hu => ?_) he hpl
  obtain ⟨vs, H1, I1, r, want⟩ := hu
  refine ⟨I1.kIn, ?_⟩
  show wpAny _ _ (call (.ref f) us) _ _ _
  have want' : sp vs H1 Q E := by
    have z := want
    simp only [List.append_nil] at z
    exact z
  have n_args : us.length = ps.length := by
    rw [← r.length]
    exact G.len _ _ _ _ want'
  have bind : BindsTo s1 fd ⟨us, []⟩ (ps.zip us) := by
    have z := hb s1 us I1.kIn (by simpa using n_args)
    simpa using z
  refine wpAny_call (codeAny_mono (G.go X.A X.stack s1 H1 ⟨us, []⟩ us vs Q E gd hr I1.env0 bind r want') fun r s' back => ?_)
  match r, back with
  | .error er, back => exact hx pins σ H1 s1 er s' I1 back
  | .ok (.ret u), back => exact I1.after back
  | .ok .next, back => exact False.elim back
  | .ok .brk, back => exact False.elim back
  | .ok .cont, back => exact False.elim back
end
end L2

namespace L2
open PySem PySem.Spec PyProof.Rows

/-- the law's call at the heap behind the top: no repr runs there -/
theorem law_callG {P : Program} {w : World} {K : PySem.W.Frag} {mg mb : Str → Option Value} {CX : CXT} {k : Nat} {fa a : Addr} {fd : FuncData} {x : Str} {sp : Sp} {s : Shared} {vs : List Value} {ns : List Int}
    (kin : K.In s.heap) (glob : s.heap.Ns mainGlobals mg) (blt : s.heap.Ns builtinsNs mb) (boot : ∀ x : Str, x ≠ "__name__" → mb x = bootBuiltins x) (nolim : s.heap.NoLimit) (nogen : s.gens = #[])
    (at_a : s.heap.get? a = some { cls := .type "list", data := .seq vs.toArray }) (inums : IntsAre vs ns) (few : ns.length ≤ sizeLine) (hr : Room k callerA)
    (G : ∀ base : Heap, K.In base → base.Ns mainGlobals mg → FnG P w K mg base CX k fa fd [x] sp) (bind : ∀ (s : Shared) (u : Value), BindsTo s fd ⟨[u], []⟩ [(x, u)])
    (want : ∀ H : Hp, Only H → SqL K H a (ns.map V.int) → sp [.ref a] H (fun v _ => v = .bl true) fun _ _ _ => False) (calm : ∀ H e s', CX [] H s (fun _ _ _ => False) e s' → False) :
    codeAny (model P w) callerA (.call (.ref fa) ⟨[.ref a], []⟩) (fun r s' => r = .ok (.ret (.bool true)) ∧ OldK s.heap s'.heap ∧ s'.os = s.os ∧ AllBare s'.gens) s := by
  have rel := vals_ints inums
  have same_len := inums.length
  -- H tells of the script alone, if of anything
  have main : ∀ H : Hp, Only H → SqL K H a (ns.map V.int) → HOk P w H s.heap → (∀ b, H b ≠ none → b = a) → (H a ≠ none → K.lookup a = none) →
      codeAny (model P w) callerA (.call (.ref fa) ⟨[.ref a], []⟩) (fun r s' => r = .ok (.ret (.bool true)) ∧ OldK s.heap s'.heap ∧ s'.os = s.os ∧ AllBare s'.gens) s := by
    intro H only seq hok just_a not_K
    have hid : ∀ {b : Addr} {o : Obj}, s.heap.get? b = some o → H b = none → (hidT s.heap H).get? b = some o := fun z n => hidT_get z n
    have is_a : ∀ {b : Addr} {u : HO}, H b = some u → b = a := fun {b u} z => just_a b (by
      rw [z]
      simp)
    have dict_free : ∀ {b : Addr} {o : Obj} {es : Array DictEntry} {ep : Nat}, s.heap.get? b = some o → o.data = .dict es ep → H b = none := fun {b o es ep} z dz => by
      cases q : H b with
      | none => rfl
      | some u =>
        have e := is_a q
        subst e
        rw [at_a] at z
        cases z
        exact absurd (show Data.seq vs.toArray _ = Data.dict es ep from dz) (fun e => by cases e)
    have ns_hid : ∀ {b : Addr} {m : Str → Option Value}, s.heap.Ns b m → (hidT s.heap H).Ns b m := fun {b m} n => by
      obtain ⟨o, es, ep, z, dz, r⟩ := n
      exact ⟨o, es, ep, hid z (dict_free z dz), dz, r⟩
    have kin_hid : K.In (hidT s.heap H) := fun b o z => hid (kin b o z) (by
      cases q : H b with
      | none => rfl
      | some u =>
        have e := is_a q
        subst e
        rw [not_K (by rw [q]; simp)] at z
        cases z)
    have mod : Mod K mg (hidT s.heap H) := by
      obtain ⟨mc, l1, l2⟩ := nolim
      exact ⟨kin_hid, ns_hid glob, ⟨mb, ns_hid blt, boot⟩, ⟨mc, ns_hid l1, l2⟩⟩
    have env0 : Env0 P w K mg (hidT s.heap H) callerA [] s H := ⟨rfl, mod, fun b o z => of_hidT z, Nat.le_of_eq (hidT_size _ _), trivial, (fun b hb => absurd hb (by simp [frs])), hok, .of_eq nogen⟩
    have run := (G _ kin_hid (ns_hid glob)).go callerA [] s H ⟨[.ref a], []⟩ [.ref a] [.ref a] _ _ rfl hr env0 (bind s (.ref a)) (.cons rfl .nil) (want H only seq)
    refine codeAny_mono run fun r s' back => ?_
    match r, back with
    | .error er, back => exact (calm H er s' back).elim
    | .ok .next, back => exact False.elim back
    | .ok .brk, back => exact False.elim back
    | .ok .cont, back => exact False.elim back
    | .ok (.ret u), ⟨v, H', os, bare, un, hok', ru, q⟩ =>
      have vt : v = .bl true := q
      subst vt
      obtain rfl : u = Value.bool true := ru
      refine ⟨rfl, OldK.of_keep fun b o z => ?_, os, bare⟩
      cases q : H b with
      | none => exact un.keep b o z q (fun z => nomatch z) (by simp)
      | some u =>
        rcases only b with n | ⟨ob, xs, e⟩
        · rw [q] at n
          cases n
        · have e' := un.frzs b ob _ e
          obtain ⟨z1, _⟩ := hok b _ e
          obtain ⟨z2, _⟩ := hok' b _ e'
          rw [z] at z1
          cases z1
          exact z2
  have its_len : (ns.map V.int).length ≤ sizeLine := by
    rw [List.length_map]
    exact few
  cases in_K : K.lookup a with
  | some o =>
    have z := kin a o in_K
    rw [at_a] at z
    cases z
    refine main (fun _ => none) (fun _ => .inl rfl) (.inr ⟨_, vs.toArray, _, in_K, rfl, rfl, rfl, ?_, by simpa using rel⟩) (fun b u z => nomatch (show (none : Option HO) = some u from z)) (fun b z => absurd rfl z) fun z => absurd rfl z
    rw [List.size_toArray, same_len]
    exact few
  | none =>
    refine main (fun b => if b = a then some (.frz { cls := .type "list", data := .seq vs.toArray } (.lst (ns.map V.int))) else none) (fun b => ?_) (.inl (.inr ⟨_, if_pos rfl⟩)) (fun b u z => ?_) (fun b z => ?_) fun _ => in_K
    · by_cases e : b = a
      · exact .inr ⟨_, _, if_pos e⟩
      · exact .inl (if_neg e)
    · by_cases e : b = a
      · have z2 := (if_pos e).symm.trans z
        cases z2
        subst e
        exact ⟨at_a, its_len, vs, _, rel, at_a⟩
      · exact nomatch (if_neg e).symm.trans z
    · by_cases e : b = a
      · exact e
      · exact absurd (if_neg e) z

/-- what the head leaves (case hc), from such a promise of the law -/
theorem walk_ofG {l : PySem.W.OpenLaw} {n k : Nat} {q : Program} {loose : List Str} {XP : (Str → Option Value) → Heap → Prop} {YP : World → Heap → Prop} {d : DefRec} {K : Params → PySem.W.Frag} {sp : PySem.W.Frag → Sp} {x : Str}
    (most : l.most = some n) (low : n ≤ sizeLine) (plain : d.params.defaults = []) (hr : Room k callerA) (hY : ∀ (w : World) (h : Heap), YP w h → (K w.params).In h)
    (F : ∀ (w : World) (mg : Str → Option Value) (fa : Addr) (h : Heap), (K w.params).In h → h.Ns mainGlobals mg → mg d.name = some (.ref fa) →
      ∃ fd : FuncData, (∀ (s : Shared) (u : Value), BindsTo s fd ⟨[u], []⟩ [(x, u)]) ∧ ∀ base : Heap, (K w.params).In base → base.Ns mainGlobals mg → FnG l.prog w (K w.params) mg base CX0 k fa fd [x] (sp (K w.params)))
    (want : ∀ (K : PySem.W.Frag) (H : Hp) (a : Addr) (ns : List Int), ns.length ≤ n → Only H → SqL K H a (ns.map V.int) → sp K [.ref a] H (fun v _ => v = .bl true) fun _ _ _ => False) :
    PySem.W.WalkO q loose XP YP l.row.toRowW d [] (fun f vs => PySem.call f vs) := by
  refine Att.attach_call most plain fun w s₀ s₁ mg mb fa o pm cd doc a vs ns G Y ho hd hcd hmg at_a inums few nogen => ?_
  have kin := hY w _ Y
  obtain ⟨fd, bind, hF⟩ := F w mg fa _ kin G.T.g hmg
  exact law_callG kin G.T.g G.T.b G.T.builtins G.T.nolimit nogen at_a inums (Nat.le_trans few low) hr hF bind (fun H only seq => want _ H a ns few only seq) fun H e s' z => z
end L2

namespace PySem
namespace Ev
open PySem.W PySem.Calls PyProof.Rows PySem.HandSPX
section
open Builtin Builtin.ObjectAttr
variable {prog : Program} {w : World} {A : Around} {R : Result → Shared → Prop}
variable {hp : Heap} {g : Array GenState} {d : Drawn} {t : Nat} {os : OsState}
variable {K : W.Frag} {name : Str} {tk : Tok} {v : Value} {x C : Addr} {fv : Array Value} {cd : ClassData}

/-- what the store into an own exception asks of its class's chain -/
structure Chain (l : List Value) : Prop where
  ne : l.isEmpty = false
  ob : l.contains (.type "object") = true
  pass : ∀ self : Value, refuseLoop self "__setattr__" l = pure ()

theorem first_store (X : K.In hp) (at_x : hp.get? x = some { cls := .ref C, data := .fields fv })
    (of_C : W.clsIn K C = some cd) (ch : Chain cd.mro) (dict_so : cd.hasDict = true)
    (free : W.findIn K (.ref C) name = some none)
    (then_ : ∀ h' tk' dx, (∀ b o, b ≠ x → hp.get? b = some o → h'.get? b = some o) → hp.objs.size ≤ dx → dx ≠ x →
      h'.get? x = some { cls := .ref C, dict := some dx, data := .fields fv } →
      h'.Ns1 dx (fun y => if y = name then some v else none) →
      R (.ok (.ret .none)) ⟨h', g, d, tk', os⟩) :
    codeAny (model prog w) A (.call (.builtin "object.__setattr__") ⟨[.ref x, .str name tk, v], []⟩) R ⟨hp, g, d, t, os⟩ := by
  have inst : W.InstAt hp x { cls := .ref C, data := .fields fv } C none := ⟨at_x, rfl, rfl, trivial⟩
  have S := F.store_object
  have apart : x ≠ hp.objs.size := Nat.ne_of_lt (Heap.lt_size at_x)
  have under : W.Looks (model prog w) hp (isInstance (.ref x) (.type "object")) true :=
    inst.type.andThen (W.looks_mroIn X (by
      unfold W.mroIn
      rw [of_C, Option.bind_some, if_neg (by rw [ch.ne]; decide), ch.ob]))
  refine codeAny_call_builtin S.slot.plain S.entry ?_
  refine @W.check_slot (model prog w) _ _ ⟨hp, g, d, t, os⟩ "object.__setattr__" "object" "__setattr__" (.ref x)
    [.str name tk, v] [] _ S.kind S.split under (S.args (.ref x) (.str name tk) v) ?_
  have look_mro : W.Looks (model prog w) hp (mroOf (.ref C)) cd.mro := (W.looks_clsIn X of_C).andThen .now
  have no_taker : W.Looks (model prog w) hp (storeTaker? none) none := .now
  have look_cls : W.Looks (model prog w) hp (classData C) cd := W.looks_clsIn X of_C
  rw [W.osa_eq, refuse_eq]
  refine wpAny_bind (wpAny_bind (inst.type.at (wpAny_bind (look_mro.at ?_))))
  rw [ch.pass]
  refine wpAny_pure (wpAny_bind (inst.type.at (wpAny_bind ((W.looks_findIn X free).at ?_))))
  refine wpAny_bind (no_taker.at ?_)
  show wpAny _ _ (storeInOwnDict (.ref x) (.ref C) (.str name tk) name v false) _ _ _
  obtain ⟨c1, c2, c3, c4, c5, c6, c7, c8, c9, c10, c11⟩ := cd
  dsimp only at dict_so
  subst dict_so
  unfold storeInOwnDict ownDictForStores
  repeat (first
    | with_reducible refine store_in_new ?_ ?_
    | with_reducible refine wpAny_loadPart_at at_x ?_
    | with_reducible refine look_cls.at ?_
    | wp_step)
  · exact ⟨_, #[], _, (Heap.get?_update_ne _ _ _ _ apart.symm).trans (Heap.get?_push_at rfl rfl), rfl,
      fun e he => absurd he (by simp), fun _ => rfl⟩
  · intro h' tk' ns' same
    have still : (hp.push { cls := .type "dict", data := .dict #[] }).get? x = some { cls := .ref C, data := .fields fv } :=
      Heap.get?_push_of_some _ at_x
    refine then_ h' tk' hp.objs.size (fun b o hb ho => ?_) (Nat.le_refl _) apart.symm ?_ ns'
    · refine (same.2 b (Nat.ne_of_lt (Heap.lt_size ho))).trans ?_
      exact (Heap.get?_update_ne _ _ _ _ hb).trans (Heap.get?_push_of_some _ ho)
    · exact (same.2 x apart).trans (Heap.get?_update_self _ still rfl)

theorem next_store {dx : Addr} {m0 : Str → Option Value} {nl : List Str} (X : K.In hp)
    (at_x : hp.get? x = some { cls := .ref C, dict := some dx, data := .fields fv })
    (ns : hp.Ns1 dx m0) (wi : Within m0 nl) (few : nl.length ≤ 1000)
    (of_C : W.clsIn K C = some cd) (ch : Chain cd.mro) (dict_so : cd.hasDict = true)
    (free : W.findIn K (.ref C) name = some none)
    (then_ : ∀ h' tk', (∀ b o, b ≠ dx → hp.get? b = some o → h'.get? b = some o) →
      h'.Ns1 dx (fun y => if y = name then some v else m0 y) → R (.ok (.ret .none)) ⟨h', g, d, tk', os⟩) :
    codeAny (model prog w) A (.call (.builtin "object.__setattr__") ⟨[.ref x, .str name tk, v], []⟩) R ⟨hp, g, d, t, os⟩ := by
  obtain ⟨oD, esD, epD, hoD, hdD, _⟩ := ns.count wi
  have inst : W.InstAt hp x { cls := .ref C, dict := some dx, data := .fields fv } C (some oD) := ⟨at_x, rfl, rfl, hoD⟩
  have S := F.store_object
  have under : W.Looks (model prog w) hp (isInstance (.ref x) (.type "object")) true :=
    inst.type.andThen (W.looks_mroIn X (by
      unfold W.mroIn
      rw [of_C, Option.bind_some, if_neg (by rw [ch.ne]; decide), ch.ob]))
  refine codeAny_call_builtin S.slot.plain S.entry ?_
  refine @W.check_slot (model prog w) _ _ ⟨hp, g, d, t, os⟩ "object.__setattr__" "object" "__setattr__" (.ref x)
    [.str name tk, v] [] _ S.kind S.split under (S.args (.ref x) (.str name tk) v) ?_
  have look_mro : W.Looks (model prog w) hp (mroOf (.ref C)) cd.mro := (W.looks_clsIn X of_C).andThen .now
  have no_taker : W.Looks (model prog w) hp (storeTaker? none) none := .now
  have look_cls : W.Looks (model prog w) hp (classData C) cd := W.looks_clsIn X of_C
  rw [W.osa_eq, refuse_eq]
  refine wpAny_bind (wpAny_bind (inst.type.at (wpAny_bind (look_mro.at ?_))))
  rw [ch.pass]
  refine wpAny_pure (wpAny_bind (inst.type.at (wpAny_bind ((W.looks_findIn X free).at ?_))))
  refine wpAny_bind (no_taker.at ?_)
  show wpAny _ _ (storeInOwnDict (.ref x) (.ref C) (.str name tk) name v false) _ _ _
  obtain ⟨c1, c2, c3, c4, c5, c6, c7, c8, c9, c10, c11⟩ := cd
  dsimp only at dict_so
  subst dict_so
  unfold storeInOwnDict ownDictForStores
  repeat (first
    | with_reducible refine OEX.store_in_old ns wi few ?_
    | with_reducible refine wpAny_loadPart_at at_x ?_
    | with_reducible refine look_cls.at ?_
    | wp_step)
  intro h' tk' ns' same
  exact then_ h' tk' (fun b o hb ho => (same.2 b hb).trans ho) ns'
end

section
variable {prog : Program} {w : World} {A : Around} {E : Value → Shared → Prop} {R : Result → Shared → Prop} {h : Heap} {g : Array GenState}
variable {d : Drawn} {t : Nat} {os : OsState} {M : Model}
variable {nm q : Str} {C N : Addr} {bs bm bmB : List Value} {sn : List Str} {sub : List Value} {ab : Bool} {col : Option Bool} {dd : Option Addr}
variable {k0 k1 k2 k3 k5 : Option Value} {B newId initId : String} {rest : List Value} {kw : List (Str × Value)}

theorem check_new_kw (F : ExcBaseFacts B newId initId bmB) (hT : ∀ X : String, bm.contains (.type X) = bmB.contains (.type X)) {Q : Unit → Shared → Prop}
    (at_C : h.get? C = some (excClassObj nm q C N bs bm true sn sub ab col dd k0 k1 k2 k3 k5 newId)) (done : Q () ⟨h, g, d, t, os⟩) :
    wpAny M A (checkBuiltinCall newId ⟨.ref C :: rest, kw⟩) Q E ⟨h, g, d, t, os⟩ := by
  have has : (Value.ref C :: bm).contains (.type B) = true := by rw [List.contains_cons, hT, F.hasB, Bool.or_true]
  have st := F.noStar
  simp only [checkBuiltinCall, F.newKind, F.newSplit, F.newRow]
  repeat (first
    | refine wpAny_loadPart_at at_C ?_
    | (refine wpAny_isSubtype_exc at_C ?_; rw [has])
    | refine wpAny_staticBase_exc at_C ?_
    | refine wpAny_madeBy_exc at_C ?_
    | simp only [bne_self_eq_false, Bool.false_eq_true, if_false]
    | wp_step)
  exact done
end
end Ev
end PySem

namespace PySem
namespace Ev
open PySem.W PySem.Calls PyProof.Rows PySem.HandSPX
section
variable {prog : Program} {w : World} {A : Around} {E : Value → Shared → Prop} {R : Result → Shared → Prop} {h : Heap} {g : Array GenState}
variable {d : Drawn} {t : Nat} {os : OsState}
variable {nm q : Str} {C N : Addr} {bs bm bmB : List Value} {sn : List Str} {sub : List Value} {ab : Bool} {col : Option Bool} {dd : Option Addr}
variable {k0 k1 k2 k3 k5 : Option Value} {B newId initId : String} {rest : List Value} {kw : List (Str × Value)}

theorem new_kw (F : ExcBaseFacts B newId initId bmB) (hT : ∀ X : String, bm.contains (.type X) = bmB.contains (.type X))
    (at_C : h.get? C = some (excClassObj nm q C N bs bm true sn sub ab col dd k0 k1 k2 k3 k5 newId))
    (done : R (.ok (.ret (.ref (h.objs.size + 1)))) ⟨(h.push (W.kdv_tup rest)).push (excO C h.objs.size), g, d, t, os⟩)
    (few : rest.length ≤ sizeLine) :
    codeAny (model prog w) A (.builtin newId ⟨.ref C :: rest, kw⟩) R ⟨h, g, d, t, os⟩ := by
  have ends := F.ends
  have inB : (Value.ref C :: bm).contains (.type B) = true := by rw [List.contains_cons, hT, F.hasB, Bool.or_true]
  have notA : (Value.ref C :: bm).contains (.type "AttributeError") = false := by
    rw [List.contains_cons, hT, F.noAttr]
    rfl
  have notN : (Value.ref C :: bm).contains (.type "NameError") = false := by
    rw [List.contains_cons, hT, F.noName]
    rfl
  refine codeAny_builtinAt F.entry ?_
  unfold Builtin.«BaseException.__new__»
  refine wpAt_bind ?_
  show wpAt _ _ _ (stack >>= _) _ _ _
  refine wpAt_bind (wpAt_stack fun p below => wpAt_of_wpAny ?_)
  wp_walk
  refine wpAt_of_wpAny ?_
  rw [F.owner]
  repeat (first
    | with_reducible refine wpAny_madeHere_exc F.canon at_C ?_
    | with_reducible refine wpAny_loadPart_at at_C ?_
    | (with_reducible refine wpAny_isSubtype_exc at_C ?_; first | rw [inB] | rw [notA] | rw [notN])
    | wp_step)
  show R _ _
  rw [Heap.size_push]
  exact done

theorem type_call_kw (F : ExcBaseFacts B newId initId bmB) (hT : ∀ X : String, bm.contains (.type X) = bmB.contains (.type X)) {fI : Addr} {Q : Fin → Shared → Prop}
    (at_C : h.get? C = some (excClassObj nm q C N bs bm true sn sub ab col dd k0 k1 k2 k3 k5 newId))
    (hi : W.Looks (model prog w) h (typeLookup (.ref C) "__init__") (some (.ref fI)))
    (hb : ∀ self, W.Looks (model prog w) h (bindSpecial (.ref fI) self) (.ref fI, [self])) (few : rest.length ≤ sizeLine)
    (go : codeAny (model prog w) A (.call (.ref fI) ⟨.ref (h.objs.size + 1) :: rest, kw⟩)
      (fun r s' => match r with
        | .ok (.ret v) => v = .none ∧ Q (.done (.ret (.ref (h.objs.size + 1)))) s'
        | .ok _ => False
        | .error e => E e s')
      ⟨(h.push (W.kdv_tup rest)).push (excO C h.objs.size), g, d, t, os⟩) :
    wpAny (model prog w) A (Builtin.«type.__call__» ⟨.ref C :: rest, kw⟩) Q E ⟨h, g, d, t, os⟩ := by
  repeat (first
    | with_reducible refine wpAny_loadPart_at at_C ?_
    | with_reducible refine wpAny_madeBy_exc at_C ?_
    | wp_step)
  refine codeAny_call_builtin_code (Code.quiet_builtin _ F.quiet) (check_new_kw F hT at_C ?_)
  refine new_kw F hT at_C ?_ few
  show wpAny _ _ _ _ _ _
  have old : ∀ b o, h.get? b = some o → ((h.push (W.kdv_tup rest)).push (excO C h.objs.size)).get? b = some o :=
    fun b o e => Heap.get?_push_of_some _ (Heap.get?_push_of_some _ e)
  have at_C2 := old _ _ at_C
  have at_e : ((h.push (W.kdv_tup rest)).push (excO C h.objs.size)).get? (h.objs.size + 1) = some (excO C h.objs.size) := by heap_get
  have selfC : (Value.ref C :: bm).contains (.ref C) = true := by simp
  have i1 := hi.keeps old
  have b1 := (hb (.ref (h.objs.size + 1))).keeps old
  unfold isInstance
  repeat (first
    | with_reducible refine wpAny_loadPart_at at_e ?_
    | (with_reducible refine wpAny_isSubtype_exc at_C2 ?_; rw [selfC])
    | wp_step)
  show wpAny _ _ (typeLookup (.ref C) _) _ _ _
  refine i1.at ?_
  refine wpAny_holding (wpAny_bind (b1.at ?_))
  refine wpAny_bind (wpAny_call (codeAny_mono go fun r s' z => ?_))
  rcases r with e | (v | _ | _ | _) <;> first | exact z | exact z.elim | skip
  obtain ⟨rfl, z⟩ := z
  first
    | exact wpAny_pure (wpAny_pure z)
    | (wp_walk; exact z)

theorem check_call_kw {Q : Unit → Shared → Prop} (at_C : h.get? C = some (excClassObj nm q C N bs bm true sn sub ab col dd k0 k1 k2 k3 k5 newId))
    (done : Q () ⟨h, g, d, t, os⟩) : wpAny (model prog w) A (checkBuiltinCall "type.__call__" ⟨.ref C :: rest, kw⟩) Q E ⟨h, g, d, t, os⟩ := by
  have f3 := tc_sub
  have ty : (⟨h, g, d, t, os⟩ : Shared).TypeIs (.ref C) "type" := ⟨_, at_C, rfl⟩
  simp only [checkBuiltinCall, tc_kind, tc_split]
  repeat (any_goals (first
    | assumption
    | with_reducible refine wpAny_loadPart_at at_C ?_
    | with_reducible refine wpAny_onRaise ?_
    | with_reducible refine wpAny_map ?_
    | wp_step))

theorem call_kw (F : ExcBaseFacts B newId initId bmB) (hT : ∀ X : String, bm.contains (.type X) = bmB.contains (.type X)) {fI : Addr}
    (at_C : h.get? C = some (excClassObj nm q C N bs bm true sn sub ab col dd k0 k1 k2 k3 k5 newId))
    (hi : W.Looks (model prog w) h (typeLookup (.ref C) "__init__") (some (.ref fI)))
    (hb : ∀ self, W.Looks (model prog w) h (bindSpecial (.ref fI) self) (.ref fI, [self])) (few : rest.length ≤ sizeLine)
    (go : codeAny (model prog w) (A.under (.builtin "type.__call__" ⟨.ref C :: rest, kw⟩)) (.call (.ref fI) ⟨.ref (h.objs.size + 1) :: rest, kw⟩)
      (W.InitBack (h.objs.size + 1) R) ⟨(h.push (W.kdv_tup rest)).push (excO C h.objs.size), g, d, t, os⟩) :
    codeAny (model prog w) A (.call (.ref C) ⟨rest, kw⟩) R ⟨h, g, d, t, os⟩ := by
  have f1 := tc_lookup
  have f2 := tc_bind (.ref C)
  have ty : (⟨h, g, d, t, os⟩ : Shared).TypeIs (.ref C) "type" := ⟨_, at_C, rfl⟩
  refine codeAny_of_tree ?_
  show wpAny _ _ (callAny (.ref C) _) _ _ _
  repeat (any_goals (first
    | assumption
    | with_reducible refine wpAny_loadPart_at at_C ?_
    | wp_step))
  refine ⟨rfl, ?_⟩
  refine codeAny_call_builtin_at (Code.quiet_builtin _ (by decide +kernel)) entry_typeCall ?_
  refine check_call_kw at_C (type_call_kw F hT at_C hi hb few ?_)
  refine codeAny_mono go fun r s' z => ?_
  rcases r with e | (v | _ | _ | _) <;> exact z
end
end Ev
end PySem

namespace L2
open PySem PySem.Spec PyProof.Rows

/-- what the written part says of an own exception class at C: its chain is own classes, then tail (that of the built-in B) -/
structure XT (K : PySem.W.Frag) (B newId initId : String) (tail : List Value) (C : Addr) : Prop where
  F : ExcBaseFacts B newId initId tail
  SF : StoreFacts B tail "object.__setattr__" "object"
  te : tail.isEmpty = false
  cls : ∃ nm q N bs, ∃ cs : List Addr, ∃ sn sub ab col dd k0 k1 k2 k3 k5,
    K.lookup C = some (excClassObj nm q C N bs (cs.map Value.ref ++ tail) true sn sub ab col dd k0 k1 k2 k3 k5 newId)
  sa : PySem.W.findIn K (.ref C) "__setattr__" = some (some (.builtin "object.__setattr__"))
  ga : PySem.W.findIn K (.ref C) "__getattribute__" = some (some (.builtin "BaseException.__getattribute__"))
  gg : PySem.W.findIn K (.ref C) "__getattr__" = some none
  ex : PySem.W.subIn K (.ref C) (.type "BaseException") = some true
  kp : PySem.W.keepIn K (.ref C) = true
  hd : PySem.W.hasDictIn K C = true
  ha : PySem.W.findIn K (.ref C) "__class__" = some (some (.builtin "object.__class__"))
  hn : PySem.W.specialIn K (.builtin "object.__class__") "__get__" = some (some (.builtin "getset_descriptor.__get__"))
  ht : PySem.W.takesIn K (.builtin "object.__class__") = some true
  hm : PySem.W.mroIn K C (.type "object") = some true

theorem own_contains (X : String) (tail : List Value) : ∀ cs : List Addr, (cs.map Value.ref ++ tail).contains (.type X) = tail.contains (.type X)
  | [] => rfl
  | c :: cs => by
    show (Value.ref c :: (cs.map Value.ref ++ tail)).contains (.type X) = _
    rw [List.contains_cons, own_contains X tail cs]
    rfl
theorem own_pass {B sa ow : String} {tail : List Value} (S : StoreFacts B tail sa ow) (self : Value) : ∀ cs : List Addr, refuseLoop self "__setattr__" (cs.map Value.ref ++ tail) = pure ()
  | [] => S.passes self
  | c :: cs => by
    show refuseLoop self "__setattr__" (Value.ref c :: (cs.map Value.ref ++ tail)) = _
    rw [refuseLoop_ref]
    exact own_pass S self cs

section
variable {X : Cx} {pins : List (Addr × Obj)} {σ : L2.St} {H : Hp} {s : Shared} {a C dx : Addr} {f : Str} {y : V} {u : Value} {fs : List (Str × V)} {Q : Unit → Shared → Prop} {E : Value → Shared → Prop} {A : Around}
variable {B newId initId : String} {tail : List Value}

theorem XT.chain {K : PySem.W.Frag} (T : XT K B newId initId tail C) (cs : List Addr) : Ev.Chain (.ref C :: (cs.map Value.ref ++ tail)) where
  ne := rfl
  ob := by
    rw [List.contains_cons, own_contains, T.SF.hasOwner]
    rfl
  pass := fun self => by
    rw [refuseLoop_ref]
    exact own_pass T.SF self cs

/-- self.f = y, the first field -/
theorem fx_first (T : XT X.K B newId initId tail C) (I : Inv X pins σ H s) (e : H a = some (exo a C none)) (free : PySem.W.findIn X.K (.ref C) f = some none) (ry : RelV y u)
    (h : ∀ dx s', H dx = none → dx ≠ a → Inv X pins σ (upd (upd H dx (exd dx [(f, y)])) a (exo a C (some dx))) s' → Q () s') :
    wpAny (model X.prog X.w) A (setAttr (.ref a) f u) Q E s := by
  obtain ⟨nm, q, N, bs, cs, sn, sub, ab, col, dd, k0, k1, k2, k3, k5, atC⟩ := T.cls
  have look : PySem.W.clsIn X.K C = some { name := nm, bases := bs, mro := .ref C :: (cs.map Value.ref ++ tail), ns := N, qualname := q, hasDict := true, slotNames := sn, subclasses := sub, abstract := ab, collection := col, hasDel := false } := by
    unfold PySem.W.clsIn
    rw [atC] <;> rfl
  obtain ⟨t1, ho⟩ := exo_at I.hok e
  obtain ⟨hp, g, d, t, os⟩ := s
  refine PySem.W.set_plain I.kIn (ox := { cls := .ref C, dict := none, data := .fields #[.ref t1, .none, .none, .none, .bool false, .none] }) (od := none) ⟨ho, rfl, rfl, trivial⟩ T.sa ?_
  refine Ev.first_store I.kIn ho look (T.chain cs) rfl free fun h' tk' dx k dn dne hx hn => ?_
  have none_d : H dx = none := I.hok.fresh dn
  have notD : ∀ {b : Addr} {o : Obj}, hp.get? b = some o → b ≠ dx := fun {b o} z => Nat.ne_of_lt (Nat.lt_of_lt_of_le (Heap.lt_size z) dn)
  have notA : ∀ {b : Addr}, H b = none → b ≠ a := fun {b} n z => by
    rw [z, e] at n
    cases n
  have un : Un X.fs [] H (upd (upd H dx (exd dx [(f, y)])) a (exo a C (some dx))) hp h' :=
    { keep := fun b o z n _ _ => k b o (notA n) z
      slot := fun b o z n _ _ => ⟨o.slots, k b o (notA n) z⟩
      free := fun b o z n _ => by
        rw [upd_ne (notA n), upd_ne (notD z)]
        exact n
      there := fun b o z _ => by
        by_cases hb : b = a
        · subst hb
          exact ⟨_, hx⟩
        · exact ⟨o, k b o hb z⟩
      tups := fun b xs z => by
        rw [upd_ne (at_ne e z exo_tup), upd_ne (ne_of_none z none_d)]
        exact z
      frzs := fun b o v z => by
        rw [upd_ne (at_ne e z exo_frz), upd_ne (ne_of_none z none_d)]
        exact z
      tbls := fun b ps z => ⟨#[], by
        rw [upd_ne (at_ne e z exo_tbl), upd_ne (ne_of_none z none_d), z]
        simp⟩ }
  refine h dx _ none_d dne (I.un (t' := tk') un fun b o z => ?_)
  by_cases hb : b = a
  · subst hb
    rw [upd_same] at z
    cases z
    exact exo_ok hx
  rw [upd_ne hb] at z
  by_cases hd : b = dx
  · subst hd
    rw [upd_same] at z
    cases z
    exact exd_ok hn (relO_put (fs := []) ry fun g => True.intro)
  rw [upd_ne hd] at z
  have own_ne : ∀ {c : Addr}, H c = some (.own b) → c ≠ a := fun hc => at_ne e hc exo_own
  refine (I.hok b o z).stay (fun c v hc y => k c v ?_ y) (fun c hc => ?_) fun c xs hc => ?_
  · rcases hc with hc | hc
    · exact hc ▸ hb
    · exact own_ne hc
  · rw [upd_ne (own_ne hc), upd_ne (ne_of_none hc none_d)]
    exact hc
  · rw [upd_ne (at_ne e hc exo_tup), upd_ne (ne_of_none hc none_d)]
    exact hc

/-- self.f = y, a field more -/
theorem fx_next (T : XT X.K B newId initId tail C) (I : Inv X pins σ H s) (e : H a = some (exo a C (some dx))) (ed : H dx = some (exd dx fs)) (few : fs.length ≤ 900)
    (free : PySem.W.findIn X.K (.ref C) f = some none) (ry : RelV y u) (h : ∀ s', Inv X pins σ (upd H dx (exd dx ((f, y) :: fs))) s' → Q () s') :
    wpAny (model X.prog X.w) A (setAttr (.ref a) f u) Q E s := by
  obtain ⟨nm, q, N, bs, cs, sn, sub, ab, col, dd, k0, k1, k2, k3, k5, atC⟩ := T.cls
  have look : PySem.W.clsIn X.K C = some { name := nm, bases := bs, mro := .ref C :: (cs.map Value.ref ++ tail), ns := N, qualname := q, hasDict := true, slotNames := sn, subclasses := sub, abstract := ab, collection := col, hasDel := false } := by
    unfold PySem.W.clsIn
    rw [atC] <;> rfl
  obtain ⟨t1, ho⟩ := exo_at I.hok e
  obtain ⟨mA, hns, rel⟩ := exd_at I.hok ed
  have wi := within_of rel
  obtain ⟨hp, g, d, t, os⟩ := s
  obtain ⟨oD, _, _, hoD, _, _⟩ := hns.count wi
  refine PySem.W.set_plain I.kIn (ox := { cls := .ref C, dict := some dx, data := .fields #[.ref t1, .none, .none, .none, .bool false, .none] }) (od := some oD) ⟨ho, rfl, rfl, hoD⟩ T.sa ?_
  refine Ev.next_store I.kIn ho hns wi ?_ look (T.chain cs) rfl free fun h' tk' k hn => ?_
  · rw [List.length_map]
    omega
  have there : ∃ o, h'.get? dx = some o := by
    obtain ⟨o, _, _, z, _⟩ := hn
    exact ⟨o, z⟩
  refine h _ (I.write (t' := tk') (x := dx) (e := dx) (o := exd dx ((f, y) :: fs)) ?_ (.inl rfl) k there (exd_ok hn (relO_put ry rel)))
  rw [ed]
  exact True.intro
end

/-- self.f = e in an __init__ -/
def tFx (K : PySem.W.Frag) (f : Str) (to te : TE) : TS := fun D σ H => te σ H fun y H1 => to σ H1 fun x H2 => ∃ (B newId initId : String) (tail : List Value) (a C : Addr), x = .ref a ∧ XT K B newId initId tail C ∧ PySem.W.findIn K (.ref C) f = some none ∧
  ((H2 a = some (exo a C none) ∧ ∀ dx, H2 dx = none → dx ≠ a → D.nx σ (upd (upd H2 dx (exd dx [(f, y)])) a (exo a C (some dx)))) ∨
    ∃ (dx : Addr) (fs : List (Str × V)), H2 a = some (exo a C (some dx)) ∧ H2 dx = some (exd dx fs) ∧ fs.length ≤ 900 ∧ D.nx σ (upd H2 dx (exd dx ((f, y) :: fs))))
theorem ps_fx {X : Cx} {o e : Expr} {to te : TE} {f : Str} {p' pos : Pos} (ho : PE X o to) (he : PE X e te) (hs : swapsWith e (some (.Attribute o f p')) pos.line X.env = pure false := by rfl) :
    PS X (.Assign [.Attribute o f p'] e pos) (tFx X.K f to te) := by
  refine ⟨fun pins s σ H D I h => ?_⟩
  refine plainObj_wpAny_Assign_Attribute (thn (he.run pins s σ H _ I h) fun v s1 hv => ?_) hs
  obtain ⟨y, H1, I1, r1, q1⟩ := hv
  refine thn (ho.run pins s1 σ H1 _ I1 q1) fun u s2 hu => ?_
  obtain ⟨x, H2, I2, r2, B, newId, initId, tail, a, C, ex, T, free, q⟩ := hu
  subst ex
  obtain rfl : u = Value.ref a := r2
  rcases q with ⟨ea, q⟩ | ⟨dx, fs, ea, ed, few, q⟩
  · exact fx_first T I2 ea free r1 fun dx s' n ne J => ⟨σ, _, J, q dx n ne⟩
  · exact fx_next T I2 ea ed few free r1 fun s' J => ⟨σ, _, J, q⟩
end L2

namespace L2
open PySem PySem.Spec PyProof.Rows
section
variable {X : Cx} {pins : List (Addr × Obj)} {σ : L2.St} {H : Hp} {s : Shared} {C fI : Addr} {Q : VK} {E : XK} {CX : CXT} {k : Nat} {fd : FuncData} {ps ks : List Str} {sp : Sp}
variable {B newId initId : String} {tail : List Value} {x : Str} {p pos : Pos} {e : Expr} {es : List Expr} {kws : List Keyword} {t tk te : TA}

/-- a call of the class, whatever way its arguments come -/
theorem run_mkx {us zs : List Value} {kw : List (Str × Value)} {vs : List V} (T : XT X.K B newId initId tail C) (iC : PySem.W.findIn X.K (.ref C) "__init__" = some (some (.ref fI))) (tI : PySem.W.typeIn X.K (.ref fI) = some (.type "function"))
    (G : FnOk X.prog X.w X.K X.mg X.base CX k fI fd ps sp) (hr : Room (k + 1) X.A) (hx : Passes CX X E)
    (bind : ∀ (s : Shared) (a : Value), X.K.In s.heap → (a :: zs).length = ps.length → BindsTo s fd ⟨a :: us, kw⟩ (ps.zip (a :: zs))) (I : Inv X pins σ H s) (r : Vals vs zs) (few : us.length ≤ sizeLine)
    (h : ∀ a, H a = none → sp (.ref a :: vs) (upd H a (exo a C none)) (fun v H2 => v = .non ∧ Q (.ref a) H2) E) :
    wpAny (model X.prog X.w) X.A (call (.ref C) us kw) (EP X pins σ Q) X.xe s := by
  obtain ⟨nm, q, N, bs, cs, sn, sub, ab, col, dd, k0, k1, k2, k3, k5, atC⟩ := T.cls
  obtain ⟨hp, g, dr, tk, os⟩ := s
  have le : hp.objs.size ≤ hp.objs.size + 1 := Nat.le_succ _
  have want := h (hp.objs.size + 1) (I.hok.fresh le)
  have old : ∀ b o, hp.get? b = some o → ((hp.push (PySem.W.kdv_tup us)).push (PySem.HandSPX.excO C hp.objs.size)).get? b = some o :=
    fun b o z => Heap.get?_push_of_some _ (Heap.get?_push_of_some _ z)
  have new : ((hp.push (PySem.W.kdv_tup us)).push (PySem.HandSPX.excO C hp.objs.size)).get? (hp.objs.size + 1) = some (PySem.HandSPX.excO C hp.objs.size) := by heap_get
  have I2 : Inv X pins σ (upd H (hp.objs.size + 1) (exo (hp.objs.size + 1) C none)) ⟨(hp.push (PySem.W.kdv_tup us)).push (PySem.HandSPX.excO C hp.objs.size), g, dr, tk, os⟩ :=
    I.laid (t' := tk) (a := hp.objs.size + 1) (o := exo (hp.objs.size + 1) C none) (h' := (hp.push (PySem.W.kdv_tup us)).push (PySem.HandSPX.excO C hp.objs.size)) old le (exo_ok new)
  have r2 : Vals (V.ref (hp.objs.size + 1) :: vs) (Value.ref (hp.objs.size + 1) :: zs) := .cons rfl r
  have len : (Value.ref (hp.objs.size + 1) :: zs).length = ps.length := by
    have z := r2.length
    rw [G.len _ _ _ _ want] at z
    exact z.symm
  refine wpAny_call (Ev.call_kw T.F (fun Y => own_contains Y tail cs) (I.kIn _ _ atC) (PySem.W.looks_findIn I.kIn iC) (fun self => PySem.W.bind_fn I.kIn self tI) few ?_)
  refine codeAny_mono (G.run _ X.stack _ _ ⟨Value.ref (hp.objs.size + 1) :: us, kw⟩ (Value.ref (hp.objs.size + 1) :: zs) _ _ E (hr.make C us kw) (I2.env0.make C us kw) (bind _ _ I2.kIn len) r2 want) fun r s' back => ?_
  cases r with
  | error er => exact hx pins σ _ _ er s' I2 back
  | ok fl =>
    cases fl with
    | ret u =>
      obtain ⟨v, H', I3, rv, ev, q3⟩ := I2.after back
      subst ev
      exact ⟨rv, ⟨V.ref (hp.objs.size + 1), H', I3, rfl, q3⟩⟩
    | next => exact False.elim back
    | brk => exact False.elim back
    | cont => exact False.elim back

/-- C(e, ..) as a value: a new exception object whose own __init__ keeps sp -/
def tMkx (C : Addr) (sp : Sp) (E : XK) (t : TA) : TE := fun σ H Q => t σ H fun vs H1 => vs.length ≤ 1000 ∧ ∀ a, H1 a = none → sp (.ref a :: vs) (upd H1 a (exo a C none)) (fun v H2 => v = .non ∧ Q (.ref a) H2) E
theorem pe_mkx (T : XT X.K B newId initId tail C) (iC : PySem.W.findIn X.K (.ref C) "__init__" = some (some (.ref fI))) (tI : PySem.W.typeIn X.K (.ref fI) = some (.type "function"))
    (G : FnOk X.prog X.w X.K X.mg X.base CX k fI fd ps sp) (hr : Room (k + 1) X.A) (hb : Binds X.K fd ps []) (hx : Passes CX X E) (hg : Gl X x) (hm : X.mg x = some (.ref C)) (ha : PA X (e :: es) t)
    (hdb : (x == ("__debug__" : Str)) = false := by decide) (he : starEach (e :: es) X.env = (false, eval e X.env) :: starEach es X.env := by rfl) (hpl : (backTo pos (starEach es X.env)).any (·.1) = false := by rfl) :
    PE X (.Call (.Name x p) (e :: es) [] pos) (tMkx C sp E t) := by
  refine ⟨fun pins s σ H Q I h => wpAny_Call_Name_kw (ld_glob I hg hm ?_ hdb)⟩
  refine PySem.W.callWith_K (h₀ := X.base) I.ok.mod.kin T.kp (thn (ha.run pos pins s σ H _ I h) fun us s1 hu => ?_) he hpl
  obtain ⟨vs, H1, I1, r1, few, q1⟩ := hu
  refine ⟨I1.kIn, run_mkx (kw := []) (zs := us) T iC tI G hr hx (fun s a kin hl => ?_) I1 r1 ?_ q1⟩
  · have z := hb s (a :: us) kin (by simpa using hl)
    simpa using z
  · show us.length ≤ sizeLine
    rw [← Paired.length r1, sizeLine_eq]
    omega
/-- C(f=e): one keyword, no other argument -/
theorem pe_mkxK {f : Str} (T : XT X.K B newId initId tail C) (iC : PySem.W.findIn X.K (.ref C) "__init__" = some (some (.ref fI))) (tI : PySem.W.typeIn X.K (.ref fI) = some (.type "function"))
    (G : FnOk X.prog X.w X.K X.mg X.base CX k fI fd ps sp) (hr : Room (k + 1) X.A) (hx : Passes CX X E) (hg : Gl X x) (hm : X.mg x = some (.ref C)) (order : List Value → List Value) (orderV : List V → List V)
    (hb : ∀ (s : Shared) (a : Value) (zs : List Value), X.K.In s.heap → (a :: order zs).length = ps.length → BindsTo s fd ⟨[a], ks.zip zs⟩ (ps.zip (a :: order zs))) (hv : ∀ {vs : List V} {zs : List Value}, Vals vs zs → Vals (orderV vs) (order zs))
    (hkw : PK X kws t) (hall : (backToKw pos (keywordEach kws X.env)).all (·.1.isSome) = true := by rfl) (hks : (backToKw pos (keywordEach kws X.env)).filterMap (·.1) = ks := by rfl) (hdb : (x == ("__debug__" : Str)) = false := by decide)
    (hpl : ((backTo pos (starEach [] X.env)).any (·.1) || (backToKw pos (keywordEach kws X.env)).any (·.1.isNone)) = false := by rfl) :
    PE X (.Call (.Name x p) [] kws pos) (fun σ H Q => t σ H fun vs H1 => ∀ a, H1 a = none → sp (.ref a :: orderV vs) (upd H1 a (exo a C none)) (fun v H2 => v = .non ∧ Q (.ref a) H2) E) := by
  refine ⟨fun pins s σ H Q I h => wpAny_Call_Name_kw (ld_glob I hg hm ?_ hdb)⟩
  refine PySem.W.callWith_KW0 (h₀ := X.base) I.ok.mod.kin T.kp hall (thn (hkw.run pos pins s σ H _ I h) fun ws s1 hw => ?_) hpl
  obtain ⟨vs, H1, I1, r1, q1⟩ := hw
  refine ⟨I1.kIn, ?_⟩
  rw [hks]
  exact run_mkx (us := []) (zs := order ws) T iC tI G hr hx (fun s a kin hl => hb s a ws kin hl) I1 (hv r1) (by rw [sizeLine_eq]; exact Nat.zero_le _) q1
/-- C(), without an own __init__ and without arguments -/
theorem pe_mkx0 {tl : List Value} (F : ExcBaseFacts B newId initId tl) (q : PySem.W.excIn X.K C tl newId = true) (kp : PySem.W.keepIn X.K (.ref C) = true) (hg : Gl X x) (hm : X.mg x = some (.ref C)) (hdb : (x == ("__debug__" : Str)) = false := by decide) :
    PE X (.Call (.Name x p) [] [] pos) (fun σ H Q => ∀ a, H a = none → Q (.ref a) (upd H a (exo a C none))) := by
  refine ⟨fun pins s σ H Q I h => wpAny_Call_Name_kw (ld_glob I hg hm ?_ hdb)⟩
  refine PySem.W.callWith_K0 I.kIn kp ?_
  obtain ⟨bm, N, nm, qn, bs, hdct, sn, sub, ab, col, dd, k0, k1, k2, k3, k5, mN, hC, hN, hni, T⟩ := exc_obj I.kIn q
  show wpAny _ _ (call (.ref C) []) _ _ _
  refine wpAny_call_exc_subT F T hC hN hni (fun h' a made => ?_) (by show 0 ≤ sizeLine; exact Nat.zero_le _)
  have free : H a = none := I.hok.gone made.new
  obtain ⟨tt, ht, _, _⟩ := made.there
  exact ⟨.ref a, upd H a (exo a C none), I.laidN made.keeps made.new free (exo_ok ht), rfl, h a free⟩
end

/-- a made exception: its object, of the class at C, and its fields -/
def ExAt (H : Hp) (a C : Addr) (fs : List (Str × V)) : Prop := (H a = some (exo a C none) ∧ fs = []) ∨ ∃ d, H a = some (exo a C (some d)) ∧ H d = some (exd d fs)
theorem ExAt.inst {X : Cx} {pins : List (Addr × Obj)} {σ : L2.St} {H : Hp} {s : Shared} {a C : Addr} {fs : List (Str × V)} (I : Inv X pins σ H s) (h : ExAt H a C fs) :
    ∃ (oe : Obj) (od : Option Obj), PySem.W.InstAt s.heap a oe C od := by
  rcases h with ⟨e, _⟩ | ⟨d, e, ed⟩
  · obtain ⟨t1, ho⟩ := exo_at I.hok e
    exact ⟨_, none, ho, rfl, rfl, trivial⟩
  · obtain ⟨t1, ho⟩ := exo_at I.hok e
    obtain ⟨mA, hns, rel⟩ := exd_at I.hok ed
    obtain ⟨od, h1, h2⟩ := lookIn_ns hns
    exact ⟨_, some od, ho, rfl, rfl, h1⟩
theorem ExAt.same {H H' : Hp} {a C : Addr} {fs : List (Str × V)} (sm : ∀ b o, H b = some o → H' b = some o) (h : ExAt H a C fs) : ExAt H' a C fs := by
  rcases h with ⟨e, z⟩ | ⟨d, e, ed⟩
  · exact .inl ⟨sm _ _ e, z⟩
  · exact .inr ⟨d, sm _ _ e, sm _ _ ed⟩
/-- isinstance(x, c), x a made exception -/
def rIsX (K : PySem.W.Frag) : List V → Hp → VK → Prop := fun xs H Q => ∃ (B newId initId : String) (tail : List Value) (a D : Addr) (fs : List (Str × V)) (c : V) (cv : Value) (b : Bool), xs = [.ref a, c] ∧
  XT K B newId initId tail D ∧ ExAt H a D fs ∧ ClsV c cv ∧ PySem.W.kitOne K (.ref D) cv = some b ∧ Q (.bl b) H
theorem call_isX {X : Cx} : CallR X (.builtin "isinstance") (rIsX X.K) := by
  intro pins s σ H xs us Q I r h
  obtain ⟨B, newId, initId, tail, a, D, fs, c, cv, b, rfl, T, ea, hc, e, q⟩ := h
  obtain ⟨u1, u2, rfl, r1, r2⟩ := vals2 r
  cases (show u1 = Value.ref a from r1)
  have z := hc.eq r2
  subst z
  obtain ⟨oe, od, J⟩ := ea.inst I
  have some_cls : (PySem.W.clsIn X.K D).isSome = true := by
    obtain ⟨cd, z, _⟩ := PySem.W.any_some T.hd
    rw [z]
    rfl
  exact PySem.W.kia_one (PySem.W.kitx_exc some_cls T.ga T.gg T.ex T.ha T.hn T.ht T.hm) I.kIn J e (fun z => nomatch z) fun tk => ⟨.bl b, H, I.tok tk, rfl, q⟩
/-- x.f, x a made exception that has the field -/
def tXa (K : PySem.W.Frag) (f : Str) (te : TE) : TE := fun σ H Q => te σ H fun x H1 => ∃ (B newId initId : String) (tail : List Value) (a D d : Addr) (fs : List (Str × V)) (v : V), x = .ref a ∧ XT K B newId initId tail D ∧
  PySem.W.findIn K (.ref D) f = some none ∧ H1 a = some (exo a D (some d)) ∧ H1 d = some (exd d fs) ∧ fs.lookup f = some v ∧ Q v H1
theorem pe_xa {X : Cx} {e : Expr} {te : TE} {pos : Pos} {f : Str} (he : PE X e te) (hb : attributeBase e f X.env (eval e X.env) = eval e X.env := by rfl) : PE X (.Attribute e f pos) (tXa X.K f te) := by
  refine ⟨fun pins s σ H Q I h => attr_of hb (thn (he.run pins s σ H _ I h) fun u s1 hh => ?_)⟩
  obtain ⟨x, H1, I1, rx, B, newId, initId, tail, a, D, d, fs, v, ex, T, free, ea, ed, l, q⟩ := hh
  subst ex
  obtain rfl : u = Value.ref a := rx
  obtain ⟨t1, ho⟩ := exo_at I1.hok ea
  obtain ⟨mA, hns, rel⟩ := exd_at I1.hok ed
  obtain ⟨od, h1, h2⟩ := lookIn_ns hns
  obtain ⟨u, hu, ru⟩ := RelO.some_of (v := v) (o := mA f) (by rw [← l]; exact rel f)
  have J : PySem.W.InstAt s1.heap a _ D (some od) := ⟨ho, rfl, rfl, h1⟩
  exact HandSPX.exc_get I1.kIn J T.ga T.gg T.ex (PySem.W.findObj_own T.hd free rfl (by rw [h2, hu])) (handed_of ru) ⟨v, H1, I1.tok _, ru, q⟩
end L2

namespace Lr
open PySem PySem.Spec PyProof.Rows L2
/-- what isinstance says of one of class D to each class -/
def Kits (K : PySem.W.Frag) (D : Addr) (cs : List Addr) (bs : List Bool) : Prop := (cs.map fun c => PySem.W.kitOne K (.ref D) (.ref c)) = bs.map some
/-- a pair of a word and a bool at t -/
def Pw (H : Hp) (t : Addr) (w : Str × Bool) : Prop := H t = some (.tup [.str w.1, .bl w.2])
/-- at p: a list of new pairs of a word and a bool -/
def PairsAt (H : Hp) (p : Addr) (ws : List (Str × Bool)) : Prop := ∃ ts : List Addr, H p = some (.lst (ts.map V.ref)) ∧ Paired (Pw H) ts ws
theorem paired_mono {α β : Type} {R S : α → β → Prop} (h : ∀ a b, R a b → S a b) : ∀ {as : List α} {bs : List β}, Paired R as bs → Paired S as bs
  | _, _, .nil => .nil
  | _, _, .cons x t => .cons (h _ _ x) (paired_mono h t)
theorem paired_app {α β : Type} {R : α → β → Prop} : ∀ {as : List α} {bs : List β} {as' : List α} {bs' : List β}, Paired R as bs → Paired R as' bs' → Paired R (as ++ as') (bs ++ bs')
  | _, _, _, _, .nil, q => q
  | _, _, _, _, .cons x t, q => .cons x (paired_app t q)
theorem paired_len {α β : Type} {R : α → β → Prop} : ∀ {as : List α} {bs : List β}, Paired R as bs → as.length = bs.length
  | _, _, .nil => rfl
  | _, _, .cons x t => by rw [List.length_cons, List.length_cons, paired_len t]
theorem same_upd {H : Hp} {p : Addr} {o : HO} (n : H p = none) : Same H (upd H p o) := fun b u e => by
  rw [upd_ne (ne_of_none e n)]
  exact e
theorem pw_same {H H' : Hp} (sm : Same H H') : ∀ (t : Addr) (w : Str × Bool), Pw H t w → Pw H' t w := fun t w e => sm _ _ e
/-- the heap behind a list of two new pairs -/
abbrev two2 (H : Hp) (t1 t2 l : Addr) (x1 x2 : Str) (y1 y2 : Bool) : Hp := upd (upd (upd H t1 (.tup [.str x1, .bl y1])) t2 (.tup [.str x2, .bl y2])) l (.lst [.ref t1, .ref t2])
theorem new2 {H : Hp} {t1 t2 l : Addr} {x1 x2 : Str} {y1 y2 : Bool} (n1 : H t1 = none) (n2 : (upd H t1 (.tup [.str x1, .bl y1])) t2 = none) (nl : (upd (upd H t1 (.tup [.str x1, .bl y1])) t2 (.tup [.str x2, .bl y2])) l = none) :
    Same H (two2 H t1 t2 l x1 x2 y1 y2) ∧ Paired (Pw (two2 H t1 t2 l x1 x2 y1 y2)) [t1, t2] [(x1, y1), (x2, y2)] ∧ (two2 H t1 t2 l x1 x2 y1 y2) l = some (.lst ([t1, t2].map V.ref)) :=
  ⟨((same_upd n1).trans (same_upd n2)).trans (same_upd nl), .cons ((same_upd nl) _ _ ((same_upd n2) _ _ upd_same)) (.cons ((same_upd nl) _ _ upd_same) .nil), upd_same⟩
theorem pairs_two {H : Hp} {t1 t2 l : Addr} {x1 x2 : Str} {y1 y2 : Bool} (n1 : H t1 = none) (n2 : (upd H t1 (.tup [.str x1, .bl y1])) t2 = none) (nl : (upd (upd H t1 (.tup [.str x1, .bl y1])) t2 (.tup [.str x2, .bl y2])) l = none) :
    PairsAt (two2 H t1 t2 l x1 x2 y1 y2) l [(x1, y1), (x2, y2)] := ⟨_, (new2 n1 n2 nl).2.2, (new2 n1 n2 nl).2.1⟩
/-- some = some + [(..), (..)] -/
theorem pairs_cat {H : Hp} {p t1 t2 l p' : Addr} {x1 x2 : Str} {y1 y2 : Bool} {ts : List Addr} {ws : List (Str × Bool)} (all : Paired (Pw H) ts ws) (n1 : H t1 = none) (n2 : (upd H t1 (.tup [.str x1, .bl y1])) t2 = none)
    (nl : (upd (upd H t1 (.tup [.str x1, .bl y1])) t2 (.tup [.str x2, .bl y2])) l = none) (np : (two2 H t1 t2 l x1 x2 y1 y2) p' = none) :
    Same H (upd (two2 H t1 t2 l x1 x2 y1 y2) p' (.lst (ts.map V.ref ++ [t1, t2].map V.ref))) ∧ PairsAt (upd (two2 H t1 t2 l x1 x2 y1 y2) p' (.lst (ts.map V.ref ++ [t1, t2].map V.ref))) p' (ws ++ [(x1, y1), (x2, y2)]) := by
  obtain ⟨s2, q2, _⟩ := new2 n1 n2 nl
  have s3 : Same (two2 H t1 t2 l x1 x2 y1 y2) (upd (two2 H t1 t2 l x1 x2 y1 y2) p' (.lst (ts.map V.ref ++ [t1, t2].map V.ref))) := same_upd np
  refine ⟨s2.trans s3, ts ++ [t1, t2], ?_, paired_app (paired_mono (pw_same (s2.trans s3)) all) (paired_mono (pw_same s3) q2)⟩
  rw [upd_same, List.map_append]
/-- some.append((..)) -/
theorem pairs_push {H : Hp} {p t1 : Addr} {x1 : Str} {y1 : Bool} {ts : List Addr} {ws : List (Str × Bool)} (at_p : H p = some (.lst (ts.map V.ref))) (all : Paired (Pw H) ts ws) (n1 : H t1 = none) :
    (∀ b o, H b = some o → b ≠ p → (upd (upd H t1 (.tup [.str x1, .bl y1])) p (.lst (ts.map V.ref ++ [V.ref t1]))) b = some o) ∧ PairsAt (upd (upd H t1 (.tup [.str x1, .bl y1])) p (.lst (ts.map V.ref ++ [V.ref t1]))) p (ws ++ [(x1, y1)]) := by
  have keep : ∀ b o, H b = some o → b ≠ p → (upd (upd H t1 (.tup [.str x1, .bl y1])) p (.lst (ts.map V.ref ++ [V.ref t1]))) b = some o := fun b o e n => by
    rw [upd_ne n]
    exact same_upd n1 _ _ e
  have ntp : t1 ≠ p := fun e => by
    rw [e, at_p] at n1
    cases n1
  refine ⟨keep, ts ++ [t1], ?_, paired_app (paired_mono (fun t w e => keep t _ e (ne_of e at_p (by intro z; cases z))) all) (.cons ?_ .nil)⟩
  · rw [upd_same, List.map_append]
    rfl
  · show (upd (upd H t1 (.tup [.str x1, .bl y1])) p (.lst (ts.map V.ref ++ [V.ref t1]))) t1 = _
    rw [upd_ne ntp, upd_same]
theorem ifF {c : Bool} {A B : Prop} (hc : c = false) (h : B) : if c = true then A else B := by
  rw [hc, if_neg Bool.false_ne_true]
  exact h
theorem ifT {c : Bool} {A B : Prop} (hc : c = true) (h : A) : if c = true then A else B := by
  rw [if_pos hc]
  exact h
theorem paired_get {α β : Type} {R : α → β → Prop} : ∀ {as : List α} {bs : List β}, Paired R as bs → ∀ (i : Nat) (a : α), as[i]? = some a → ∃ b, bs[i]? = some b ∧ R a b
  | _, _, .nil, i, a, h => by
    simp at h
  | _, _, .cons x t, 0, a, h => by
    have e := Option.some.inj h
    subst e
    exact ⟨_, rfl, x⟩
  | _, _, .cons x t, i + 1, a, h => paired_get t i a h
theorem kept_more {ws : List (Str × Bool)} {i : Nat} {w : Str × Bool} (h : ws[i]? = some w) :
    ((ws.take (i + 1)).filter (·.2)).map (·.1) = ((ws.take i).filter (·.2)).map (·.1) ++ (if w.2 = true then [w.1] else []) := by
  rw [List.take_succ, h, List.filter_append, List.map_append]
  obtain ⟨x, b⟩ := w
  cases b <;> rfl
end Lr

namespace L2
open PySem PySem.Spec PyProof.Rows

/-- at a: an exception of the class cls whose own dict (if any) is at d, whatever its other parts are -/
def exq (a : Addr) (cls : Value) (d : Option Addr) : HO := .ext fun h => ∃ (oe : Obj) (vs : Array Value), h.get? a = some oe ∧ Zc cls d oe ∧ oe.data = .fields vs
theorem exq_ok {P : Program} {w : World} {H : Hp} {h : Heap} {a : Addr} {cls : Value} {d : Option Addr} {oe : Obj} {vs : Array Value} (e : h.get? a = some oe) (z : Zc cls d oe) (dt : oe.data = .fields vs) : ObjOk P w H h a (exq a cls d) :=
  ⟨⟨oe, vs, e, z, dt⟩, ⟨oe, e⟩, fun _ _ ⟨o, v, q, r⟩ k => ⟨o, v, k o q, r⟩⟩
theorem exq_at {P : Program} {w : World} {H : Hp} {h : Heap} {a : Addr} {cls : Value} {d : Option Addr} (hok : HOk P w H h) (e : H a = some (exq a cls d)) : ∃ (oe : Obj) (vs : Array Value), h.get? a = some oe ∧ Zc cls d oe ∧ oe.data = .fields vs := by
  have x : ObjOk P w H h a (.ext fun h => ∃ (oe : Obj) (vs : Array Value), h.get? a = some oe ∧ Zc cls d oe ∧ oe.data = .fields vs) := hok a _ e
  exact x.1

/-! an exception as a value, new or caught, and its fields -/
def IsEx (H : Hp) (a C : Addr) (dd : Option Addr) : Prop := H a = some (exo a C dd) ∨ H a = some (exq a (.ref C) dd)
def IsDx (H : Hp) (d : Addr) (fs : List (Str × V)) : Prop := H d = some (exd d fs) ∨ H d = some (.xd fs)
def ExIn (H : Hp) (a C : Addr) (fs : List (Str × V)) : Prop := (IsEx H a C none ∧ fs = []) ∨ ∃ d, IsEx H a C (some d) ∧ IsDx H d fs
theorem IsEx.same {H H' : Hp} {a C : Addr} {dd : Option Addr} (sm : ∀ b o, H b = some o → H' b = some o) (h : IsEx H a C dd) : IsEx H' a C dd := h.imp (sm _ _) (sm _ _)
theorem IsDx.same {H H' : Hp} {d : Addr} {fs : List (Str × V)} (sm : ∀ b o, H b = some o → H' b = some o) (h : IsDx H d fs) : IsDx H' d fs := h.imp (sm _ _) (sm _ _)
theorem ExIn.same {H H' : Hp} {a C : Addr} {fs : List (Str × V)} (sm : ∀ b o, H b = some o → H' b = some o) (h : ExIn H a C fs) : ExIn H' a C fs := by
  rcases h with ⟨e, z⟩ | ⟨d, e, ed⟩
  · exact .inl ⟨e.same sm, z⟩
  · exact .inr ⟨d, e.same sm, ed.same sm⟩
theorem ExAt.to {H : Hp} {a C : Addr} {fs : List (Str × V)} (h : ExAt H a C fs) : ExIn H a C fs := by
  rcases h with ⟨e, z⟩ | ⟨d, e, ed⟩
  · exact .inl ⟨.inl e, z⟩
  · exact .inr ⟨d, .inl e, .inl ed⟩
section
variable {X : Cx} {pins : List (Addr × Obj)} {σ : L2.St} {H : Hp} {s : Shared} {a C : Addr} {fs : List (Str × V)} {dd : Option Addr}
theorem IsEx.obj (I : Inv X pins σ H s) (h : IsEx H a C dd) : ∃ (oe : Obj) (vs : Array Value), s.heap.get? a = some oe ∧ Zc (.ref C) dd oe ∧ oe.data = .fields vs := by
  rcases h with e | e
  · obtain ⟨t1, ho⟩ := exo_at I.hok e
    exact ⟨_, _, ho, ⟨rfl, rfl⟩, rfl⟩
  · exact exq_at I.hok e
theorem IsDx.ns (I : Inv X pins σ H s) {d : Addr} (h : IsDx H d fs) : ∃ mA, s.heap.Ns1 d mA ∧ ∀ f, RelO (fs.lookup f) (mA f) := by
  rcases h with e | e
  · exact exd_at I.hok e
  · exact (show ObjOk X.prog X.w H s.heap d (.xd fs) from I.hok d _ e)
theorem inst_of {h : Heap} {oe : Obj} {vs : Array Value} {od : Option Obj} (e : h.get? a = some oe) (z : Zc (.ref C) dd oe) (dt : oe.data = .fields vs) (hd : match dd, od with | none, none => True | some d, some o => h.get? d = some o | _, _ => False) :
    PySem.W.InstAt h a oe C od := by
  obtain ⟨oc, odd, oda, osl⟩ := oe
  obtain ⟨h1, h2⟩ := z
  dsimp only at h1 h2 dt
  subst h1 h2 dt
  refine ⟨e, rfl, rfl, ?_⟩
  cases odd with
  | none =>
    cases od with
    | none => exact trivial
    | some o => exact hd.elim
  | some d =>
    cases od with
    | none => exact hd.elim
    | some o => exact hd
theorem ExIn.inst (I : Inv X pins σ H s) (h : ExIn H a C fs) : ∃ (oe : Obj) (od : Option Obj), PySem.W.InstAt s.heap a oe C od := by
  rcases h with ⟨e, _⟩ | ⟨d, e, ed⟩
  · obtain ⟨oe, vs, h1, h2, h3⟩ := e.obj I
    exact ⟨oe, none, inst_of h1 h2 h3 trivial⟩
  · obtain ⟨oe, vs, h1, h2, h3⟩ := e.obj I
    obtain ⟨mA, hns, rel⟩ := ed.ns I
    obtain ⟨od, g1, g2⟩ := lookIn_ns hns
    exact ⟨oe, some od, inst_of h1 h2 h3 g1⟩
end
/-- isinstance(x, c), x an exception as a value -/
def rIsY (K : PySem.W.Frag) : List V → Hp → VK → Prop := fun xs H Q => ∃ (B newId initId : String) (tail : List Value) (a D : Addr) (fs : List (Str × V)) (c : V) (cv : Value) (b : Bool), xs = [.ref a, c] ∧
  XT K B newId initId tail D ∧ ExIn H a D fs ∧ ClsV c cv ∧ PySem.W.kitOne K (.ref D) cv = some b ∧ Q (.bl b) H
theorem call_isY {X : Cx} : CallR X (.builtin "isinstance") (rIsY X.K) := by
  intro pins s σ H xs us Q I r h
  obtain ⟨B, newId, initId, tail, a, D, fs, c, cv, b, rfl, T, ea, hc, e, q⟩ := h
  obtain ⟨u1, u2, rfl, r1, r2⟩ := vals2 r
  cases (show u1 = Value.ref a from r1)
  have z := hc.eq r2
  subst z
  obtain ⟨oe, od, J⟩ := ea.inst I
  have some_cls : (PySem.W.clsIn X.K D).isSome = true := by
    obtain ⟨cd, z, _⟩ := PySem.W.any_some T.hd
    rw [z]
    rfl
  exact PySem.W.kia_one (PySem.W.kitx_exc some_cls T.ga T.gg T.ex T.ha T.hn T.ht T.hm) I.kIn J e (fun z => nomatch z) fun tk => ⟨.bl b, H, I.tok tk, rfl, q⟩
/-- x.f, x an exception as a value that has the field -/
def tYa (K : PySem.W.Frag) (f : Str) (te : TE) : TE := fun σ H Q => te σ H fun x H1 => ∃ (B newId initId : String) (tail : List Value) (a D : Addr) (fs : List (Str × V)) (v : V), x = .ref a ∧ XT K B newId initId tail D ∧
  PySem.W.findIn K (.ref D) f = some none ∧ ExIn H1 a D fs ∧ fs.lookup f = some v ∧ Q v H1
theorem pe_ya {X : Cx} {e : Expr} {te : TE} {pos : Pos} {f : Str} (he : PE X e te) (hb : attributeBase e f X.env (eval e X.env) = eval e X.env := by rfl) : PE X (.Attribute e f pos) (tYa X.K f te) := by
  refine ⟨fun pins s σ H Q I h => attr_of hb (thn (he.run pins s σ H _ I h) fun u s1 hh => ?_)⟩
  obtain ⟨x, H1, I1, rx, B, newId, initId, tail, a, D, fs, v, ex, T, free, ea, l, q⟩ := hh
  subst ex
  obtain rfl : u = Value.ref a := rx
  rcases ea with ⟨_, z⟩ | ⟨d, e1, e2⟩
  · rw [z] at l
    cases l
  · obtain ⟨oe, vs, h1, h2, h3⟩ := e1.obj I1
    obtain ⟨mA, hns, rel⟩ := e2.ns I1
    obtain ⟨od, g1, g2⟩ := lookIn_ns hns
    obtain ⟨u, hu, ru⟩ := RelO.some_of (v := v) (o := mA f) (by rw [← l]; exact rel f)
    exact HandSPX.exc_get I1.kIn (inst_of h1 h2 h3 g1) T.ga T.gg T.ex (PySem.W.findObj_own T.hd free rfl (by rw [g2, hu])) (handed_of ru) ⟨v, H1, I1.tok _, ru, q⟩

section
variable {X : Cx} {pins : List (Addr × Obj)} {σ : L2.St} {H : Hp} {s : Shared} {a : Addr} {o : HO}
/-- an object that came after the entry and was not told of is told of from now on -/
theorem Inv.track (I : Inv X pins σ H s) (n0 : X.s_0.heap.get? a = none) (na : H a = none) (nL : a ≠ X.env.locals) (nC : ∀ x c, X.env.cells.lookup x = some c → c ≠ a) (np : ∀ p ∈ X.pn ++ pins, p.1 ≠ a)
    (new : ObjOk X.prog X.w (upd H a o) s.heap a o) : Inv X pins σ (upd H a o) s := by
  have ne0 : ∀ {b : Addr} {u : Obj}, X.s_0.heap.get? b = some u → b ≠ a := fun {b u} e z => by
    rw [z, n0] at e
    cases e
  have neS : ∀ {b : Addr} {u : HO}, H b = some u → b ≠ a := fun {b u} e z => by
    rw [z, na] at e
    cases e
  refine ⟨I.ok, I.os, I.bare, ⟨I.base.keep, I.base.slot, fun b u e n hb => ?_, I.base.there, fun b xs e => ?_, fun b u v e => ?_, fun b ps e => ?_⟩, I.loc, I.cell, ?_, fun x c e => ?_, fun p hp => ?_, fun b u e => ?_, I.len⟩
  · rw [upd_ne (ne0 e)]
    exact I.base.free b u e n hb
  · have z := I.base.tups b xs e
    rw [upd_ne (neS z)]
    exact z
  · have z := I.base.frzs b u v e
    rw [upd_ne (neS z)]
    exact z
  · obtain ⟨m, z⟩ := I.base.tbls b ps e
    exact ⟨m, by rw [upd_ne (neS z)]; exact z⟩
  · rw [upd_ne (Ne.symm nL)]
    exact I.free
  · rw [upd_ne (nC x c e)]
    exact I.freeC x c e
  · obtain ⟨e, n, h1, h2, h3⟩ := I.pin p hp
    exact ⟨e, by rw [upd_ne (np p hp)]; exact n, h1, h2, h3⟩
  · by_cases hb : b = a
    · subst hb
      rw [upd_same] at e
      cases e
      exact new
    · rw [upd_ne hb] at e
      exact (I.hok b u e).stay (fun c v _ z => z) (fun c z => by rw [upd_ne (neS z)]; exact z) fun c xs z => by rw [upd_ne (neS z)]; exact z
/-- into a suite and out of it, the exception being told of -/
theorem Inv.suite' (I : Inv X pins σ H s) : Inv (X.suite a (X.pn ++ pins)) [] σ H s :=
  ⟨I.ok.suite _ _, I.os, I.bare, I.base, I.loc, I.cell, I.free, I.freeC, fun p hp => I.pin p (by rw [List.append_nil] at hp; exact hp), I.hok, I.len⟩
theorem Inv.unsuite' {pn' : List (Addr × Obj)} (I : Inv (X.suite a (X.pn ++ pins)) pn' σ H s) (ok : X.Ok) : Inv X pins σ H s :=
  ⟨ok, I.os, I.bare, I.base, I.loc, I.cell, I.free, I.freeC, fun p hp => I.pin p (List.mem_append_left _ hp), I.hok, I.len⟩
end
end L2

namespace L2
open PySem PySem.Spec PyProof.Rows
/-- what the clause 'except x as n' wishes, where the suite may keep the exception: it is told of within and behind -/
def wOwn (K : PySem.W.Frag) (c : Value) (i : Nat) (ts : TS) (Wout : WX) (D : Ends) : WX := fun cls d σ H =>
  ∃ b, PySem.W.exmOne K cls c = some b ∧
    (b = true → ∀ a, H a = none → ts { nx := fun σ' H' => D.nx (σ'.set i none) H', rt := D.rt, bk := fun σ' H' => D.bk (σ'.set i none) H', ct := fun σ' H' => D.ct (σ'.set i none) H' } (σ.set i (some (.ref a))) (upd H a (exq a cls d))) ∧
    (b = false → Wout cls d σ H)
section
variable {X : Cx} {x n : Str} {c : Value} {i : Nat} {body suite : List Stmt} {b₀ : Stmt} {np pos pos' : Pos} {tb : WX → TS} {ts : TS} {Wout : WX}
theorem ps_try_own (stk : X.stack = X.env :: X.outer) (frm : X.env.frame = some X.env.locals) (noex : X.ex = []) (nodup : X.N.Nodup) (at_i : X.N[i]? = some n) (loc : X.env.kindOf n = some .local) (nm : Names X x c) (tk : Takes X Wout)
    (hb : ∀ (W : WX) (pn : List (Addr × Obj)) (xe : Value → Shared → Prop), Takes (X.tr pn xe) W → PassesOwn (model X.prog X.w) X.A X.env xe → PSs (X.tr pn xe) body (tb W))
    (hsu : ∀ (a : Addr) (pn : List (Addr × Obj)), PSs (X.suite a pn) (b₀ :: suite) ts) :
    PS X (.Try body [.ExceptHandler (some (.Name x np)) (some n) (b₀ :: suite) pos'] [] [] pos) (fun D σ H => tb (wOwn X.K c i ts Wout D) D σ H) := by
  refine ⟨fun pins s σ H D I h => ?_⟩
  have ok := I.ok
  have frames : X.A.frames = some (X.env :: X.outer) := by rw [ok.frames, stk]
  have isLoc : Loc X.env.scope n := .inl loc
  refine wpAny_Try_except ?_
  refine wpAny_mono ((hb (wOwn X.K c i ts Wout D) (X.pn ++ pins) (fun e s₁ => wpAny (model X.prog X.w) X.A (noteFrame e X.env)
    (fun _ s₂ => wpAny (model X.prog X.w) X.A (setFlight e none)
      (fun _ s₃ => wpAny (model X.prog X.w) X.A (handleBy e X.env [.ExceptHandler (some (.Name x np)) (some n) (b₀ :: suite) pos']) (SP X pins D) X.xe s₃) X.xe s₂) X.xe s₁)
    (fun u s' xx => ?_) PassesOwn.looking).run [] s σ H D (I.toTry _) h) (fun f s1 done => ?_) (fun e s1 he => he)
  · -- it is caught
    obtain ⟨a, B, sI, pins', σ', H', cls, d, rfl, J', inB, up, sky, na, os, ag, b, meets, yes, no⟩ := xx
    have J : Inv X pins σ' H' sI := J'.ofTry ok
    have sky' : Sky B (X.env :: X.outer) a (Zc cls d) X.env.locals s'.heap := by rw [← stk]; exact sky
    show wpAny (model X.prog X.w) X.A (noteFrame (.ref a) X.env) _ _ _
    refine Sky.land Zc.steady frames frm sky' fun h3 fl3 up3 => ?_
    have J3 : Inv X pins σ' H' { s' with heap := h3 } := J.landed inB fl3.1 (up.trans up3) os ag
    obtain ⟨oe3, vs3, he3, hz3, hd3⟩ := fl3.there
    -- a is none of the frames, and came after the entry
    have nfr : a ∉ frs (X.env :: X.outer) := fun hm => by
      obtain ⟨_, o', e', hnf⟩ := fl3.2.2.1.mem hm
      rw [he3] at e'
      cases e'
      exact hnf _ hd3
    have gone : sI.heap.get? a = none := by
      cases e : sI.heap.get? a with
      | none => rfl
      | some o =>
        have z := inB a o e (by rw [stk]; exact nfr)
        rw [fl3.2.1] at z
        cases z
    have nL : a ≠ X.env.locals := fun z => nfr (List.mem_filterMap.mpr ⟨X.env, List.mem_cons_self, by rw [frm, z]⟩)
    have n0 : X.s_0.heap.get? a = none := by
      cases e : X.s_0.heap.get? a with
      | none => rfl
      | some o =>
        obtain ⟨o', z⟩ := J.base.there a o e (by rw [noex]; exact fun z => nomatch z)
        rw [gone] at z
        cases z
    have nC : ∀ x c, X.env.cells.lookup x = some c → c ≠ a := fun x c e z => by
      obtain ⟨v, o, z2, _⟩ := J.cell x c e
      rw [z, gone] at z2
      cases z2
    have nP : ∀ p ∈ X.pn ++ pins, p.1 ≠ a := fun p hp z => by
      have z2 := (J.pin p hp).1
      rw [z, gone] at z2
      cases z2
    have trk : ∀ {h : Heap}, Inv X pins σ' H' { s' with heap := h } → (∃ oe vs, h.get? a = some oe ∧ Zc cls d oe ∧ oe.data = .fields vs) → Inv X pins σ' (upd H' a (exq a cls d)) { s' with heap := h } := fun {h} J4 th => by
      obtain ⟨oe, vs, h1, h2, h3⟩ := th
      exact J4.track n0 na nL nC nP (exq_ok h1 h2 h3)
    have S3 := (trk J3 ⟨oe3, vs3, he3, hz3, hd3⟩).suite' (a := a)
    refine wpAny_handleBy_cons (codeAny_handlers_test ?_) (by intro q; cases q)
    have LT : PySem.W.Looks (model X.prog X.w) h3 (typeOf (.ref a)) cls := fun A Q E s k q => wpAny_typeOf_ref (k _ _ he3) (by rw [hz3.1]; exact q)
    have LM := PySem.W.exm_one (M := model X.prog X.w) (J3.kIn) LT meets
    have test : ∀ {Q : Value → Shared → Prop} {E : Value → Shared → Prop}, Q c { s' with heap := h3 } →
        wpAny (model X.prog X.w) (X.A.mark (some (.ref a))) (eval (.Name x np) X.env) Q E { s' with heap := h3 } := fun {Q E} q => by
      obtain ⟨hg, hdbg, hm | ⟨hm, hv, hnn⟩⟩ := nm
      · exact ld_glob (X := X.suite a (X.pn ++ pins)) S3 hg hm q hdbg
      · exact ld_blt (X := X.suite a (X.pn ++ pins)) S3 hg hm hv q hnn hdbg
    refine test (LM.here ?_)
    cases b with
    | true =>
      refine codeAny_handlers_suite_as ?_
      refine HandSPX.lands_againZ fl3 fun h4 fl4 up4 => ?_
      have J4 : Inv X pins σ' H' { s' with heap := h4 } := J.landed inB fl4.1 ((up.trans up3).trans up4) os ag
      have S4 := (trk J4 fl4.there).suite' (a := a)
      refine store_ok (X := X.suite a (X.pn ++ pins)) (v := .ref a) S4 nodup at_i isLoc rfl (fun s5 S5 => ?_) (.inr loc)
      refine wpAny_mono ((hsu a (X.pn ++ pins)).run [] s5 _ _ _ S5 (yes rfl a na)) (fun f s6 done => ?_) (fun _ _ z => False.elim z)
      have leave : ∀ {σ6 : L2.St} {H6 : Hp} {Q : Shared → Prop}, Inv (X.suite a (X.pn ++ pins)) [] σ6 H6 s6 → (∀ s7, Inv X pins (σ6.set i none) H6 s7 → Q s7) →
          wpAny (model X.prog X.w) X.A (do bindName X.env n .none; unbindBehindTheSuite X.env n pos') (fun _ s7 => Q s7) X.xe s6 := fun {σ6 H6 Q} S6 hq => gone_ok (S6.unsuite' ok) nodup at_i loc hq
      match f, done with
      | .next, ⟨σ6, H6, S6, q6⟩ => exact leave S6 fun s7 J7 => ⟨_, _, J7, q6⟩
      | .brk, ⟨σ6, H6, S6, q6⟩ => exact leave S6 fun s7 J7 => ⟨_, _, J7, q6⟩
      | .cont, ⟨σ6, H6, S6, q6⟩ => exact leave S6 fun s7 J7 => ⟨_, _, J7, q6⟩
      | .ret u, ⟨v6, σ6, H6, S6, r6, q6⟩ => exact leave S6 fun s7 J7 => ⟨_, _, _, J7, r6, q6⟩
    | false =>
      show wpAny _ X.A (handleBy (.ref a) X.env []) _ _ _
      refine wpAny_handleBy_nil ?_
      obtain ⟨k1, k2, k3, oe, vs, T, oT, ts', he, hz, hd, h1, hr⟩ := id fl3
      unfold PySem.passOn
      refine wpAny_bind (wpAny_field he hd h1 ?_)
      rw [if_neg (show ¬ ((Value.ref T == Value.none) = true) from by simp)]
      have fin : wpAny (model X.prog X.w) X.A (setFlight (.ref a) X.env.frame) (fun _ s4 => wpAny (model X.prog X.w) X.A (throw (.ref a) : Sem Flow) (SP X pins D) X.xe s4) X.xe { s' with heap := h3 } := by
        rw [frm]
        refine HandSPX.setFlight_upZ fl3 fun h4 hh4 up4 => wpAny_throw (tk _ _ ?_)
        exact ⟨a, B, sI, pins, σ', H', cls, d, rfl, J, inB, (up.trans up3).trans up4, .inr (.inr (by rw [stk]; exact hh4)), na, os, ag, no rfl⟩
      first
        | exact wpAny_bind (wpAny_pure (wpAny_bind fin))
        | exact wpAny_bind fin
  · match f, done with
    | .next, ⟨σ', H', J', q⟩ => exact wpAny_execs_nil ⟨σ', H', J'.ofTry ok, q⟩
    | .brk, ⟨σ', H', J', q⟩ => exact ⟨σ', H', J'.ofTry ok, q⟩
    | .cont, ⟨σ', H', J', q⟩ => exact ⟨σ', H', J'.ofTry ok, q⟩
    | .ret u, ⟨v, σ', H', J', r, q⟩ => exact ⟨v, σ', H', J'.ofTry ok, r, q⟩
end
/-- raise e, e a new exception of an own class with a field -/
def tRaiseX (W : WX) (K : PySem.W.Frag) (H0 : Hp) (te : TE) : TS := fun _ σ H => te σ H fun x H1 => ∃ a C d, x = .ref a ∧ H1 a = some (exo a C (some d)) ∧ Fr0 H0 a ∧
  PySem.W.subIn K (.ref C) (.type "BaseException") = some true ∧ PySem.W.typeIn K (.ref C) = some (.type "type") ∧ W (.ref C) (some d) σ (delH H1 a)
theorem pmk_xk {X : Cx} {e : Expr} {te : TE} (K : PySem.W.Frag) (H0 : Hp) (hK : X.K = K) (h0 : X.H_0 = H0) (hx : X.ex = []) (he : PE X e te) :
    PMk X e (fun σ H Q => te σ H fun x H1 => ∃ a C d, x = .ref a ∧ H1 a = some (exo a C (some d)) ∧ Fr0 H0 a ∧
      PySem.W.subIn K (.ref C) (.type "BaseException") = some true ∧ PySem.W.typeIn K (.ref C) = some (.type "type") ∧ Q (.ref C) (some d) (delH H1 a)) := by
  subst hK h0
  intro pins s σ H Q I h
  refine wpAny_mono (he.run pins s σ H _ I h) (fun u s1 hu => ?_) fun _ _ z => z
  obtain ⟨v, H1, I1, r1, a, C, d, rfl, ea, f0, b1, b2, q⟩ := hu
  cases r1
  obtain ⟨t1, ho⟩ := exo_at I1.hok ea
  obtain ⟨G, sub, gone, J⟩ := I1.untrack ea f0 hx
  exact ⟨a, _, _, { s1 with heap := G }, delH H1 a, .ref C, some d, rfl, J, sub, gone, ho, ⟨rfl, rfl⟩, rfl, rfl, delH_same, rfl, I1.bare, raises_own b1 b2, q⟩
theorem ps_raiseX {X : Cx} {W : WX} {e : Expr} {te : TE} {pos : Pos} (K : PySem.W.Frag) (H0 : Hp) (hK : X.K = K) (h0 : X.H_0 = H0) (hc : X.calm = true) (hx : X.ex = []) (tk : Takes X W) (he : PE X e te) :
    PS X (.Raise (some e) none pos) (tRaiseX W K H0 te) := ps_raise hc tk (pmk_xk K H0 hK h0 hx he)
end L2

namespace Lr
open PySem PySem.Spec PyProof.Rows L2
/-- an __init__(self, x) that stores its argument as a field -/
def spOne (C : Addr) (f : Str) : Sp := fun vs H Q _ => ∃ (a : Addr) (v : V), vs = [.ref a, v] ∧ H a = some (exo a C none) ∧
  ∀ d, H d = none → d ≠ a → Q .non (upd (upd H d (exd d [(f, v)])) a (exo a C (some d)))
/-- an __init__(self, x, y) that stores both -/
def spTwo (C : Addr) (f g : Str) : Sp := fun vs H Q _ => ∃ (a : Addr) (v u : V), vs = [.ref a, v, u] ∧ H a = some (exo a C none) ∧
  ∀ d, H d = none → d ≠ a → Q .non (upd (upd (upd H d (exd d [(f, v)])) a (exo a C (some d))) d (exd d [(g, u), (f, v)]))
/-- what is said of a class with its own __init__ -/
structure Own (K : PySem.W.Frag) (mg : Str → Option Value) (name : Str) (B nid iid : String) (tl : List Value) (C fI : Addr) (fd : FuncData) (ps : List Str) : Prop where
  x : XT K B nid iid tl C
  g : mg name = some (.ref C)
  i : PySem.W.findIn K (.ref C) "__init__" = some (some (.ref fI))
  t : PySem.W.typeIn K (.ref fI) = some (.type "function")
  b : Binds K fd ps []
theorem Fun.kwb {K : PySem.W.Frag} {x qual : Str} {st : Stmt} {f : Addr} {fd : FuncData} {ps ks : List Str} {ord : List Value → List Value} (F : Fun K x qual st f fd)
    (h : ∀ (kV doc pm : Value) (an : Option Addr) (cdv ct : Value) (a : Value) (zs : List Value), (a :: ord zs).length = ps.length → bindArgs (PySem.W.fnOf x qual (defArgs st) (defBody st) (defScope st) .none kV doc pm an cdv ct) ⟨[a], ks.zip zs⟩ = pure (ps.zip (a :: ord zs))) :
    ∀ (s : Shared) (a : Value) (zs : List Value), K.In s.heap → (a :: ord zs).length = ps.length → BindsTo s fd ⟨[a], ks.zip zs⟩ (ps.zip (a :: ord zs)) := by
  obtain ⟨o1, o2, kV, doc, pm, an, cdv, ct, sl, rfl, _, _⟩ := F.ex
  exact fun s a zs _ hl => .of_eq (h kV doc pm an cdv ct a zs hl)
theorem made_same {H : Hp} {a d : Addr} {e0 e1 x : HO} (na : H a = none) (nd : (upd H a e0) d = none) : Same H (upd (upd (upd H a e0) d x) a e1) := fun b o e => by
  rw [upd_ne (ne_of_none e na)]
  exact same_upd nd _ _ (same_upd na _ _ e)
theorem made_at {H : Hp} {a d C : Addr} {e0 : HO} {fs : List (Str × V)} (ne : d ≠ a) : ExIn (upd (upd (upd H a e0) d (exd d fs)) a (exo a C (some d))) a C fs := .inr ⟨d, .inl upd_same, .inl (by rw [upd_ne ne, upd_same])⟩
/-- data that repr can tell, small -/
def fine (d : PyData) : Bool := d.showable && decide (d.shown.length ≤ 1000) && decide (d.depth ≤ 30)
theorem fine_of {d : PyData} (h : fine d = true) : d.showable = true ∧ d.shown.length ≤ sizeLine ∧ d.depth ≤ 60 := by
  unfold fine at h
  rw [Bool.and_eq_true, Bool.and_eq_true, decide_eq_true_eq, decide_eq_true_eq] at h
  refine ⟨h.1.1, ?_, Nat.le_trans h.2 (by decide)⟩
  rw [sizeLine_eq]
  exact Nat.le_trans h.1.2 (by decide)
theorem fine_pair {d e : PyData} (h : fine d = true) (g : fine e = true) : (PyData.list [d, e]).showable = true ∧ (PyData.list [d, e]).shown.length ≤ sizeLine ∧ (PyData.list [d, e]).depth ≤ 60 := by
  unfold fine at h g
  rw [Bool.and_eq_true, Bool.and_eq_true, decide_eq_true_eq, decide_eq_true_eq] at h g
  refine ⟨?_, ?_, ?_⟩
  · simp only [PyData.showable, PyData.showableAll, h.1.1, g.1.1, Bool.and_self]
  · simp only [PyData.shown, PyData.shownAll]
    have q : (listText [d.shown, e.shown]).length ≤ d.shown.length + e.shown.length + 10 := by
      unfold listText
      have e1 : textFrom 0 "[" [d.shown, e.shown] = ("[" : Str) ++ ("" : Str) ++ d.shown ++ (", " : Str) ++ e.shown := rfl
      rw [e1]
      simp only [strLen_append]
      have q1 : ("[" : Str).length = 1 := by rfl
      have q2 : ("]" : Str).length = 1 := by rfl
      have q3 : (", " : Str).length = 2 := by rfl
      have q4 : ("" : Str).length = 0 := by rfl
      omega
    rw [sizeLine_eq]
    have z1 := h.1.2
    have z2 := g.1.2
    omega
  · have z1 := h.2
    have z2 := g.2
    simp only [PyData.depth, PyData.depthAll]
    omega
end Lr

namespace PySem
namespace Ev
open PySem.W PyProof.Rows
/-- enumerate(v) of anything that has a simple iterator -/
theorem enum_new_one {v : Value} {o : Obj} {S : Heap → Prop} (B : Begins v o S) :
    Meets (Builtin.«enumerate.__new__» ⟨[.type "enumerate", v], []⟩) (fun _ R s => S s.heap ∧
      R (.ok (.ret (.ref (s.heap.push o).objs.size)))
        { s with heap := (s.heap.push o).push { cls := .type "enumerate", data := .fields #[.none, .bool false, .ref s.heap.objs.size, rawInt 0, .none, .none] } }) := .of_wp fun prog w A R s h => by
  obtain ⟨hp, g, d, tk, os⟩ := s
  obtain ⟨stands, want⟩ := h
  have hsub := sub_enumerate
  have begin_ : ∀ {A' : Around} {E : Value → Shared → Prop} {Q : Value → Shared → Prop}, Q (.ref hp.objs.size) ⟨hp.push o, g, d, tk, os⟩ → wpAny (model prog w) A' (pyIter v) Q E ⟨hp, g, d, tk, os⟩ :=
    fun q => B.iter prog w _ _ ⟨hp, g, d, tk, os⟩ _ stands q
  wp_walk using begin_
  refine wpAny_stack_any fun st => wpAny_pure ?_
  split
  · rename_i c _ _ _ _ _
    cases (c == Value.type "enumerate")
    all_goals
      wp_walk using begin_
      exact ⟨_, rfl, want⟩
  · wp_walk using begin_
    exact ⟨_, rfl, want⟩
section
variable {prog : Program} {w : World} {A : Around} {E : Value → Shared → Prop} {s : Shared}
theorem enum_one {v : Value} {o : Obj} {S : Heap → Prop} {Q : Value → Shared → Prop} (B : Begins v o S) (stands : S s.heap)
    (h : ∀ h', IsEnum h' (s.heap.objs.size + 1) s.heap.objs.size 0 .none → h'.get? s.heap.objs.size = some o → h'.objs.size = s.heap.objs.size + 2 →
      (∀ b u, s.heap.get? b = some u → h'.get? b = some u) → Q (.ref (s.heap.objs.size + 1)) { s with heap := h' }) :
    wpAny (model prog w) A (call (.type "enumerate") [v]) Q E s := by
  refine callType_new F.called_enumerate (by decide) (F.typeCall_enumerate_1 _) (F.newCall_enumerate_1 _) (fun obj => F.args_object_init_2 obj _) F.entry_enumerate_new (enum_new_one B) ⟨stands, ?_⟩
  have size1 : (s.heap.push o).objs.size = s.heap.objs.size + 1 := Heap.size_push ..
  show _ ∧ _
  rw [size1]
  have is_enum : IsEnum ((s.heap.push o).push { cls := .type "enumerate", data := .fields #[.none, .bool false, .ref s.heap.objs.size, rawInt 0, .none, .none] }) (s.heap.objs.size + 1) s.heap.objs.size 0 .none := by
    have z := Heap.get?_push_size (s.heap.push o) (o := { cls := .type "enumerate", data := .fields #[.none, .bool false, .ref s.heap.objs.size, rawInt 0, .none, .none] }) rfl
    rw [size1] at z
    exact z
  refine ⟨⟨_, is_enum, rfl⟩, h _ is_enum (Heap.get?_push_of_some _ (Heap.get?_push_size _ B.free)) (by rw [Heap.size_push, size1]) fun b u x => ?_⟩
  exact Heap.get?_push_of_some _ (Heap.get?_push_of_some _ x)
end
end Ev
end PySem
namespace L2
open PySem PySem.Spec PyProof.Rows
/-- the tuple at a, each item in a new pair -/
def Itte (K : PySem.W.Frag) (a : Addr) : It :=
  ⟨fun i H => ∃ (xs : List V) (x : V), SqT K H a xs ∧ xs[i]? = some x,
   fun i H v H' => ∃ T x, v = .ref T ∧ H T = none ∧ H' = upd H T (.tup [.int (i : Nat), x]) ∧ ∀ xs, SqT K H a xs → xs[i]? = some x,
   fun i H => ∃ xs : List V, SqT K H a xs ∧ xs.length = i⟩
theorem turn_enumT {P : Program} {w : World} {K : PySem.W.Frag} {elts : List Expr} {kk : Nat} {tpos : Pos} (a e it : Addr) :
    Turn P w K (.Tuple elts kk tpos) (Itte K a) [e, it] e (fun i h => (∃ old, IsEnum h e it ((i : Nat) : Int) old) ∧ h.IsTupleIter it a i ∧ e ≠ it ∧ a ≠ it ∧ e ≠ a) where
  mem := by simp
  obj := fun i h st b hb => by
    obtain ⟨⟨old, he⟩, ⟨o, ho, hc, hd⟩, _⟩ := st
    have one : b = e ∨ b = it := by simpa using hb
    rcases one with z | z
    · subst z
      exact ⟨_, he, fun v q => nomatch q⟩
    · subst z
      exact ⟨o, ho, fun v q => by rw [hd] at q; cases q⟩
  keep := fun i h h' st k => by
    obtain ⟨⟨old, he⟩, hit, rest⟩ := st
    exact ⟨⟨old, k e (by simp) _ he⟩, hit.at fun o q => k it (by simp) o q, rest⟩
  item := by
    intro X hP hw hK hc i pins s σ H E I hf st hg
    subst hP hw hK
    obtain ⟨⟨old, he⟩, hit, n1, n2, n3⟩ := st
    obtain ⟨xs, x, hq, hx⟩ := hg
    obtain ⟨its, rv, p, _⟩ := I.tuple hq
    obtain ⟨u, hu, ru⟩ := rv.get hx
    have low_e : e < s.heap.objs.size := Heap.lt_size he
    have low_it : it < s.heap.objs.size := by
      obtain ⟨_, q, _⟩ := hit
      exact Heap.lt_size q
    have D := Draws.tuple (prog := X.prog) (w := X.w) (A := X.A.in1) (show X.A.in1.handled = none from I.ok.hd hc) it a n2 its.toArray
    have lt : i < its.toArray.size := by
      have z := (List.getElem?_eq_some_iff.mp hu).1
      simpa using z
    refine wpAny_pyNext_enum_itemC (c := ((i : Nat) : Int)) D he ⟨hit, show s.heap.IsTuple a its.toArray from p⟩ lt n1 (by simp [n1, n3]) fun y h' tk got out st' new size keep => ?_
    have same : y = u := by
      have z : its[i]? = some y := by simpa using got
      rw [hu] at z
      exact (Option.some.inj z).symm
    subst same
    refine ⟨_, rfl, wpAny_letOwnedTupleGo_enum (s := { s with heap := h', toks := tk + 1 }) out fun h2 he2 sb => ?_⟩
    have new2 : h2.get? s.heap.objs.size = some { cls := .type "tuple", data := .seq #[.int i tk, y] } := (sb.2 _ (Nat.ne_of_gt low_e)).trans new
    have ok : ObjOk X.prog X.w (upd H s.heap.objs.size (.tup [.int (i : Nat), x])) h2 s.heap.objs.size (.tup [.int (i : Nat), x]) :=
      ⟨by show 2 ≤ sizeLine; decide, [.int i tk, y], .cons ⟨_, rfl⟩ (.cons ru .nil), ⟨_, new2, rfl, _, rfl⟩⟩
    have I1 : Inv X pins σ (upd H s.heap.objs.size (.tup [.int (i : Nat), x])) { s with heap := h2, toks := tk + 1 } :=
      I.turnedNew (ch := [e, it]) (fun b ob hb q => (sb.2 b (fun z => hb (by simp [z]))).trans (keep b ob (fun z => hb (by simp [z])) (fun z => hb (by simp [z])) q)) hf (Nat.le_refl _) ok
    refine ⟨.ref s.heap.objs.size, _, I1, rfl, ⟨_, x, rfl, I.hok.fresh (Nat.le_refl _), rfl, fun ys hy => by rw [I.tuple_inj hy hq]; exact hx⟩, ⟨⟨y, ?_⟩, st'.1.at fun o q => (sb.2 it (Ne.symm n1)).trans q, n1, n2, n3⟩, fun b hb => ?_⟩
    · have z : ((i + 1 : Nat) : Int) = (i : Int) + 1 := by omega
      rw [z]
      exact he2
    · have low : b < s.heap.objs.size := by
        have one : b = e ∨ b = it := by simpa using hb
        rcases one with z | z
        · exact z ▸ low_e
        · exact z ▸ low_it
      rw [upd_ne (Nat.ne_of_lt low)]
      exact (hf b hb).1
  done := by
    intro X hP hw hK hc i pins s σ H E I hf st hg
    subst hP hw hK
    obtain ⟨⟨old, he⟩, hit, n1, n2, n3⟩ := st
    obtain ⟨xs, hq, hx⟩ := hg
    obtain ⟨its, rv, p, _⟩ := I.tuple hq
    obtain ⟨f0, f1, f2, f3, f4, f5⟩ := hf it (by simp)
    have hl := rv.length
    have D := Draws.tuple (prog := X.prog) (w := X.w) (A := X.A.in1) (show X.A.in1.handled = none from I.ok.hd hc) it a n2 its.toArray
    have at_end : its.toArray.size = i := by
      rw [List.size_toArray, ← hl]
      exact hx
    refine wpAny_pyNext_enum_endD D he (by rw [at_end]; exact ⟨hit, show s.heap.IsTuple a its.toArray from p⟩) fun h' eb => ?_
    exact ⟨rfl, I.turned (t' := s.toks) (fun b o hb q => eb b o hb q) f0 f1 f3 f4 f5⟩
  self := fun A i s Q E st h => by
    obtain ⟨⟨_, he⟩, _⟩ := st
    exact wpAny_pyIter_enum he h
def iEnumT (K : PySem.W.Frag) (ta : TA) : TI := fun σ H R => ta σ H fun vs H1 => ∃ a xs, vs = [.ref a] ∧ SqT K H1 a xs ∧ R (Itte K a) H1
theorem pi_enumT {X : Cx} {e : Expr} {ta : TA} {p pos tpos : Pos} {elts : List Expr} {kk : Nat} (hg : Gl X "enumerate") (hm : X.mg "enumerate" = none) (ha : PA X [e] ta) (hs : starEach [e] X.env = [(false, eval e X.env)] := by rfl) :
    PI X (.Tuple elts kk tpos) (.Call (.Name "enumerate" p) [e] [] pos) (iEnumT X.K ta) := by
  refine ⟨fun pins s σ H R I h => Call_ (ld_blt I hg hm boot_enumerate (PyProof.Rows.callWith_type1 (thn (ha.run pos pins s σ H _ I h) fun us s1 hu => ?_) hs rfl))⟩
  obtain ⟨vs, H1, I1, r1, a, xs, ex, hq, q⟩ := hu
  subst ex
  cases r1 with
  | cons r rr =>
    cases rr
    cases r
    obtain ⟨its, rv, tp, _⟩ := I1.tuple hq
    have tp' : s1.heap.IsTuple a its.toArray := tp
    have low : a < s1.heap.objs.size := by
      obtain ⟨o, z, _⟩ := tp'
      exact Heap.lt_size z
    refine Ev.enum_one (begins_tuple a its.toArray) tp' fun h' he hit size keep => wpAny_pyIter_enum he ?_
    have I2 : Inv X pins σ H1 { s1 with heap := h' } := I1.kept (t' := s1.toks) keep
    refine ⟨s1.heap.objs.size + 1, [s1.heap.objs.size + 1, s1.heap.objs.size], _, _, H1, rfl, I2, turn_enumT a (s1.heap.objs.size + 1) s1.heap.objs.size,
      ⟨⟨.none, he⟩, ⟨_, hit, rfl, rfl⟩, Nat.succ_ne_self _, Nat.ne_of_lt low, Nat.ne_of_gt (Nat.lt_succ_of_lt low)⟩, fun b hb => ?_, q⟩
    have high : s1.heap.objs.size ≤ b := by
      have one : b = s1.heap.objs.size + 1 ∨ b = s1.heap.objs.size := by simpa using hb
      rcases one with z | z
      · rw [z]
        exact Nat.le_add_right _ _
      · exact Nat.le_of_eq z.symm
    exact I1.fpOk high (I1.hok.fresh high)
theorem walk_enumT {K : PySem.W.Frag} {a : Addr} {xs : List V} : Walk (Itte K a) xs.length (fun H => SqT K H a xs) (YPair (fun i => some (.int (i : Nat))) (fun i => xs[i]?)) :=
  ⟨fun i H hi h => ⟨xs, xs[i], h, by simp [hi]⟩, fun H h => ⟨xs, h, rfl⟩, fun i H x H' hi h y => by
    obtain ⟨T, u, e1, n, e2, all⟩ := y
    exact ⟨T, _, u, e1, n, e2, rfl, all xs h⟩⟩
end L2

namespace Lr
open PySem PySem.Spec PyProof.Rows L2

def top (i : Nat) : Stmt := PySem.Challenge.pw_labelroads_k30_exceptions_of_the_first_p.main.body.getD i (.Pass ⟨0, 0, 0, 0⟩)
abbrev sMix : Stmt := top 43
abbrev sFol : Stmt := top 44
abbrev sDra : Stmt := top 45
abbrev sBeg : Stmt := top 46

/-- an int that a cell may hold -/
def Cell (i : Int) : Prop := 0 ≤ i ∧ i < 2147483647
/-- a list of ints at an address -/
def IntsAt (H : Hp) (a : Addr) (ns : List Int) : Prop := H a = some (.lst (ns.map V.int))

/-! the promises -/
def spMix : Sp := fun vs H Q _ => ∃ c n : Int, vs = [.int c, .int n] ∧ 0 ≤ n ∧ n < 1000000 ∧ ∀ r : Int, Q (.int r) H
def spFol (K : PySem.W.Frag) : Sp := fun vs H Q _ => ∃ (a : Addr) (ns : List Int), vs = [.ref a] ∧ SqL K H a (ns.map V.int) ∧ ns.length ≤ 63 ∧
  ∀ (H' : Hp) (p : Addr) (cs : List Int), Same H H' → H p = none → IntsAt H' p cs → cs.length = 64 → Q (.ref p) H'

structure Tx (mg : Str → Option Value) : Prop where
  int : mg "int" = none
  range : mg "range" = none
  enum : mg "enumerate" = none
  len : mg "len" = none

section
variable {P : Program} {w : World} {K : PySem.W.Frag} {mg : Str → Option Value} {base : Heap}

theorem scMix : FnScope ["cell", "n", "blend"] ["cell", "n"] (defScope sMix) := ⟨rfl, rfl, rfl, by decide +kernel, rfl, by decide +kernel, by decide +kernel⟩
theorem ok_mix {f : Addr} {fd : FuncData} (F : Fun K "_law_mixed" "_law_mixed" sMix f fd) (T : Tx mg) : FnOk P w K mg base CX0 1 f fd ["cell", "n"] spMix := by
  refine F.ok scMix (fun vs H Q E h => ?_) (fun cdv A outer s H vs Q E hr h => ?_)
  · obtain ⟨c, n, rfl, _⟩ := h
    rfl
  · obtain ⟨c, n, rfl, h0, h1, k⟩ := h
    refine ⟨_, pss_cons (ps_set (i := 2) scMix.nd rfl (.inl rfl) (pe_op op_add (pe_op op_add (pe_op op_mod (pe_callTy call_int1 (by rfl) T.int (by decide +kernel) (pa_cons
        (pe_op op_mul (pe_op op_mul (pv 0) (pe_op op_add pe_int (pe_op op_mul pe_int (pv 1)))) pe_int) pa_nil)) pe_int)
          (pe_op op_mul (pe_op op_mul pe_int (pv 1)) (pv 1))) (pe_op op_mul pe_int (pv 1))))
      (pss_one (ps_ret (pe_op op_fdiv (pe_op op_mod (pe_callTy call_int1 (by rfl) T.int (by decide +kernel) (pa_cons (pe_op op_mul (pv 2) pe_int) pa_nil)) pe_int) pe_int))), ?_⟩
    refine ⟨_, rfl, _, rfl, _, _, rfl, rfl, .inl ⟨by decide, by decide⟩, _, _, rfl, rfl, _, _, rfl, rfl, .inr ⟨by omega, by omega⟩, _, _, rfl, rfl, .inr ⟨by decide, by decide⟩, .inl ⟨_, rfl, ?_⟩⟩
    refine ⟨_, _, rfl, rfl, (by show (0 : Int) < 2147483647; decide), _, rfl, _, _, rfl, rfl, .inl ⟨by decide, by decide⟩, _, rfl, _, _, rfl, rfl, .inr ⟨by omega, by omega⟩, _, _, rfl, rfl, _, rfl, _, _, rfl, rfl, .inl ⟨by decide, by decide⟩, _, _, rfl, rfl, ?_⟩
    refine ⟨_, rfl, _, _, rfl, rfl, .inr ⟨by decide, by decide⟩, .inl ⟨_, rfl, _, _, rfl, rfl, (by show (0 : Int) < 2147483629; decide), _, _, rfl, rfl, ⟨by decide, by decide⟩, ?_⟩⟩
    exact k _
end
end Lr

namespace Lr
open PySem PySem.Spec PyProof.Rows L2

theorem ints_at {cs : List Int} {k : Int} (h0 : 0 ≤ k) (h1 : k < cs.length) : ∃ z : Int, atI (cs.map V.int) k = some (.int z) := by
  obtain ⟨n, rfl⟩ : ∃ n : Nat, k = (n : Int) := ⟨k.toNat, by omega⟩
  have hn : n < cs.length := by omega
  exact ⟨cs[n], atI_nat (by simp [List.getElem?_map, hn])⟩
theorem ints_ix {cs : List Int} {k : Int} (h0 : 0 ≤ k) (h1 : k < cs.length) : ixN (cs.map V.int).length k = some k.toNat := by
  unfold ixN
  rw [List.length_map, if_pos h0, if_pos h1]
theorem ints_set (cs : List Int) (j : Nat) (z : Int) : (cs.map V.int).set j (.int z) = (cs.set j z).map V.int := by
  rw [List.map_set]

theorem yes_of {σ : L2.St} {H : Hp} {A B : Hp → Prop} (h : A H) : tYes σ H fun b H3 => if b = true then A H3 else B H3 := by
  show if true = true then A H else B H
  exact iteT h
section
variable {P : Program} {w : World} {K : PySem.W.Frag} {mg : Str → Option Value} {base : Heap}
theorem scFol : FnScope ["script", "n", "found", "cell"] ["script"] (defScope sFol) := ⟨rfl, rfl, rfl, by decide +kernel, rfl, by decide +kernel, by decide +kernel⟩
theorem ok_fol {f : Addr} {fd : FuncData} (F : Fun K "_law_folded" "_law_folded" sFol f fd) (T : Tx mg) : FnOk P w K mg base CX0 1 f fd ["script"] (spFol K) := by
  refine F.ok scFol (fun vs H Q E h => ?_) (fun cdv A outer s H vs Q E hr h => ?_)
  · obtain ⟨a, ns, rfl, _⟩ := h
    rfl
  · obtain ⟨a, ns, rfl, hS, hlen, k⟩ := h
    refine ⟨_, pss_cons (ps_setLc (i := 2) (own := [("n", 1)]) (g := gName 1) (tt := tYes) rfl scFol.nd rfl rfl (sw_true rfl rfl rfl (by decide +kernel)) (pi_range1 (by rfl) T.range (pa_cons pe_int pa_nil))
        (blkOk_by (N := ["script", "n", "found", "cell"]) (sc := defScope sFol) (by decide +kernel)) (fun _ _ _ _ _ => pg_name (i := 1) scFol.nd rfl (.inl rfl)) (fun _ _ _ _ _ => pts_nil) (fun _ _ _ _ _ => pe_op op_add pe_int (pv 1)))
      (pss_cons (ps_for PassesOwn.never rfl (pi_enum (by rfl) T.enum (pa_cons (pv 0) pa_nil)) (pg_tup (by rfl) (pgs_cons (pg_name (i := 1) scFol.nd rfl (.inl rfl)) (pgs_cons (pg_name (i := 3) scFol.nd rfl (.inl rfl)) pgs_nil)))
        (pss_one (ps_asg (pe_op op_mod (pe_callTy call_int1 (by rfl) T.int (by decide +kernel) (pa_cons (pe_op op_add (pe_op op_mul (pe_ix ix_list (pv 2) (pe_op op_mod (pe_callTy call_int1 (by rfl) T.int (by decide +kernel) (pa_cons (pv 1) pa_nil)) pe_int) (fun _ _ => rfl)) pe_int) (pv 3)) pa_nil)) pe_int)
          (pg_sub (pv 2) (pe_op op_mod (pe_callTy call_int1 (by rfl) T.int (by decide +kernel) (pa_cons (pv 1) pa_nil)) pe_int) set_list))))
      (pss_cons (ps_for PassesOwn.never rfl (pi_range2 (by rfl) T.range (pa_cons pe_int (pa_cons pe_int pa_nil))) (pg_name (i := 1) scFol.nd rfl (.inl rfl))
        (pss_one (ps_asg (pe_op op_mod (pe_callTy call_int1 (by rfl) T.int (by decide +kernel) (pa_cons (pe_op op_add (pe_ix ix_list (pv 2) (pv 1) (fun _ _ => rfl)) (pe_op op_mul (pe_ix ix_list (pv 2) (pe_op op_sub (pv 1) pe_int) (fun _ _ => rfl)) pe_int)) pa_nil)) pe_int)
          (pg_sub (pv 2) (pv 1) set_list))))
      (pss_one (ps_ret (pv 2))))), ?_⟩
    -- found = [17 + n for n in range(64)]
    refine ⟨64, rfl, by decide, by decide, fun D hD => lc_range (lo := 0) (n := 64) (fun i H' => ∃ cs : List Int, cs.length = i ∧ IntsAt H' D cs ∧ Same H H') ⟨[], rfl, upd_same, fun b o e => by rw [upd_ne (ne_of_none e hD)]; exact e⟩ ?_ ?_⟩
    · rintro i H' hi ⟨cs, hl, hc, sm⟩
      refine ⟨rfl, yes_of ?_⟩
      refine ⟨_, rfl, _, _, rfl, rfl, _, hc, (by rw [List.length_map, hl, sizeLine_eq]; omega), cs ++ [17 + (0 + (i : Int))], by simp [hl], ?_, fun b o e => by rw [upd_ne (ne_of_none e hD)]; exact sm b o e⟩
      unfold IntsAt
      rw [upd_same, List.map_append]
      rfl
    rintro H1 ⟨cs1, hl1, hc1, sm1⟩
    -- for n, cell in enumerate(script)
    refine ⟨_, rfl, a, _, rfl, sm1.seq hS, for_it walk_enum (fun i σ H' => ∃ (cs : List Int) (u v : Option V), σ = [some (.ref a), u, some (.ref D), v] ∧ cs.length = 64 ∧ IntsAt H' D cs ∧ Same H H')
      ⟨cs1, _, _, rfl, hl1, hc1, sm1⟩ (fun i σ H' _ ⟨_, _, _, _, _, _, s2⟩ => s2.seq hS) ?_ ?_⟩
    · rintro i x σ H' H2 hi ⟨cs, u, v, rfl, hl, hc, sm⟩ ⟨t, x1, x2, rfl, nt, rfl, e1, e2⟩
      obtain ⟨z, rfl⟩ : ∃ z, x2 = V.int z := by
        have e3 : (ns.map V.int)[i]? = some x2 := e2
        rw [List.getElem?_map] at e3
        cases e : ns[i]? with
        | none =>
          rw [e] at e3
          cases e3
        | some z =>
          rw [e] at e3
          exact ⟨z, (Option.some.inj e3).symm⟩
      cases e1
      have nDt : D ≠ t := ne_of_none hc nt
      have hc' : (upd H' t (.tup [.int (i : Nat), .int z])) D = some (.lst (cs.map V.int)) := by rw [upd_ne nDt]; exact hc
      have b0 : 0 ≤ ((i : Nat) : Int) % 64 := by omega
      have b1 : ((i : Nat) : Int) % 64 < (cs.length : Int) := by rw [hl]; omega
      obtain ⟨y, hy⟩ := ints_at b0 b1
      refine ⟨t, _, rfl, SqT.of upd_same, rfl, _, _, rfl, _, _, rfl, rfl, ?_⟩
      refine ⟨_, rfl, _, rfl, .inl ⟨_, rfl, _, _, rfl, rfl, (by show (0 : Int) < 64; decide), D, _, _, _, rfl, rfl, SqL.of hc', hy, ?_⟩⟩
      refine ⟨_, _, rfl, rfl, .inr ⟨by decide, by decide⟩, _, rfl, _, _, rfl, rfl, .inl ⟨_, rfl, _, _, rfl, rfl, (by show (0 : Int) < 2147483647; decide), ?_⟩⟩
      refine ⟨_, rfl, _, rfl, .inl ⟨_, rfl, _, _, rfl, rfl, (by show (0 : Int) < 64; decide), D, _, _, _, rfl, rfl, hc', ints_ix b0 b1, ?_⟩⟩
      refine ⟨cs.set (((i : Nat) : Int) % 64).toNat ((y * 48271 + z) % 2147483647), _, _, rfl, by rw [List.length_set]; exact hl, ?_, fun b o e => ?_⟩
      · unfold IntsAt
        rw [upd_same, ints_set]
      · have n1 : b ≠ D := ne_of_none e hD
        have n2 : b ≠ t := ne_of_none (sm b o e) nt
        rw [upd_ne n1, upd_ne n2]
        exact sm b o e
    rintro σ H2 ⟨cs2, u2, v2, rfl, hl2, hc2, sm2⟩
    -- for n in range(1, 64)
    refine ⟨_, _, rfl, ⟨by decide, by decide, by decide, by decide⟩, for_range (lo := 1) (n := 63) (fun i σ H' => ∃ (cs : List Int) (u v : Option V), σ = [some (.ref a), u, some (.ref D), v] ∧ cs.length = 64 ∧ IntsAt H' D cs ∧ Same H H')
      ⟨cs2, _, _, rfl, hl2, hc2, sm2⟩ ?_ ?_⟩
    · rintro i σ H' hi ⟨cs, u, v, rfl, hl, hc, sm⟩
      have b0 : 0 ≤ 1 + ((i : Nat) : Int) := by omega
      have b1 : 1 + ((i : Nat) : Int) < (cs.length : Int) := by rw [hl]; omega
      have b2 : 0 ≤ 1 + ((i : Nat) : Int) - 1 := by omega
      have b3 : 1 + ((i : Nat) : Int) - 1 < (cs.length : Int) := by rw [hl]; omega
      obtain ⟨y, hy⟩ := ints_at b0 b1
      obtain ⟨z, hz⟩ := ints_at b2 b3
      refine ⟨_, rfl, _, rfl, D, _, _, _, rfl, rfl, SqL.of hc, hy, _, rfl, _, rfl, _, _, rfl, rfl, D, _, _, _, rfl, rfl, SqL.of hc, hz, ?_⟩
      refine ⟨_, _, rfl, rfl, .inr ⟨by decide, by decide⟩, _, _, rfl, rfl, .inl ⟨_, rfl, _, _, rfl, rfl, (by show (0 : Int) < 2147483647; decide), ?_⟩⟩
      refine ⟨_, rfl, _, rfl, D, _, _, _, rfl, rfl, hc, ints_ix b0 b1, ?_⟩
      refine ⟨cs.set (1 + ((i : Nat) : Int)).toNat ((y + z * 16807) % 2147483647), _, _, rfl, by rw [List.length_set]; exact hl, ?_, fun b o e => ?_⟩
      · unfold IntsAt
        rw [upd_same, ints_set]
      · rw [upd_ne (ne_of_none e hD)]
        exact sm b o e
    rintro σ H3 ⟨cs3, u3, v3, rfl, hl3, hc3, sm3⟩
    exact ⟨_, rfl, k H3 D cs3 sm3 hD hc3 hl3⟩
end
end Lr

namespace Lr
open PySem PySem.Spec PyProof.Rows L2

/-- the pairs of the state m -/
def kvM (c g : Addr) (n : Int) : List (Key × V) := [(.inr "cells", .ref c), (.inr "great", .ref g), (.inr "spot", .int n)]
theorem kv_spot (c g : Addr) (n : Int) : valV (kvM c g n) (.inr "spot") = some (.int n) := by rfl
theorem kv_great (c g : Addr) (n : Int) : valV (kvM c g n) (.inr "great") = some (.ref g) := by rfl
theorem kv_cells (c g : Addr) (n : Int) : valV (kvM c g n) (.inr "cells") = some (.ref c) := by rfl
theorem kv_put (c g : Addr) (n z : Int) : putK (kvM c g n) (.inr "spot") (.int z) = kvM c g z := by rfl
theorem kv_putG (c g u : Addr) (n : Int) : putK (kvM c g n) (.inr "great") (.ref u) = kvM c u n := by rfl

/-- the state from which all numbers are drawn: the dict at m, its cells at c, its great ones at g; n were drawn -/
structure Ms (H : Hp) (m c g : Addr) (n : Nat) : Prop where
  hd : H m = some (.dK (kvM c g n))
  hc : ∃ cs : List Int, cs.length = 64 ∧ IntsAt H c cs
  hg : ∃ gs : List Int, gs.length ≤ 63 ∧ IntsAt H g gs
  cg : c ≠ g

def spDra : Sp := fun vs H Q _ => ∃ (m c g : Addr) (n : Nat) (lim : Int), vs = [.ref m, .int lim] ∧ 0 < lim ∧ lim < 1000000 ∧ n < 100000 ∧ Ms H m c g n ∧
  ∀ (r : Int) (H' : Hp), 0 ≤ r → r < lim → Ms H' m c g (n + 1) → (∀ b o, H b = some o → b ≠ m → b ≠ g → H' b = some o) → Q (.int r) H'

theorem dp_ints {K : PySem.W.Frag} {H : Hp} : ∀ ns : List Int, DpAll K H (ns.map V.int) (ns.map PyData.int)
  | [] => .nil
  | n :: r => .cons (.int n) (dp_ints r)
theorem lay_ints : ∀ ns : List Int, PyData.canLayAll0 (ns.map PyData.int) = true
  | [] => rfl
  | n :: r => by
    show (PyData.canLay0 (.int n) && PyData.canLayAll0 (r.map PyData.int)) = true
    rw [lay_ints r]
    rfl
theorem depth_ints : ∀ ns : List Int, PyData.depthAll (ns.map PyData.int) ≤ 1
  | [] => by decide
  | n :: r => by
    show max (PyData.depth (.int n)) (PyData.depthAll (r.map PyData.int)) ≤ 1
    have := depth_ints r
    have e : PyData.depth (.int n) = 0 ∨ PyData.depth (.int n) = 1 := by first | exact .inl rfl | exact .inr rfl
    omega
theorem shaped_ints (ns : List Int) : SeqAt.shaped (.list (ns.map PyData.int)) = true := by
  unfold SeqAt.shaped
  rw [Bool.and_eq_true, decide_eq_true_eq]
  refine ⟨lay_ints ns, ?_⟩
  show PyData.depthAll (ns.map PyData.int) + 1 ≤ 64
  have := depth_ints ns
  omega

structure TxD (K : PySem.W.Frag) (mg : Str → Option Value) (fM : Addr) : Prop extends Tx mg where
  gM : mg "_law_mixed" = some (.ref fM)
  kM : PySem.W.keepIn K (.ref fM) = true

section
variable {P : Program} {w : World} {K : PySem.W.Frag} {mg : Str → Option Value} {base : Heap}
theorem scDra : FnScope ["m", "limit", "n", "lot", "here", "cell"] ["m", "limit"] (defScope sDra) := ⟨rfl, rfl, rfl, by decide +kernel, rfl, by decide +kernel, by decide +kernel⟩
theorem ok_dra {f fM : Addr} {fd fdM : FuncData} (F : Fun K "_law_draw" "_law_draw" sDra f fd) (T : TxD K mg fM) (FM : Fun K "_law_mixed" "_law_mixed" sMix fM fdM) (bM : Binds K fdM ["cell", "n"] []) :
    FnOk P w K mg base CX0 2 f fd ["m", "limit"] spDra := by
  have GM : FnOk P w K mg base CX0 1 fM fdM ["cell", "n"] spMix := ok_mix FM T.toTx
  refine F.ok scDra (fun vs H Q E h => ?_) (fun cdv A outer s H vs Q E hr h => ?_)
  · obtain ⟨m, c, g, n, lim, rfl, _⟩ := h
    rfl
  · obtain ⟨m, c, g, n, lim, rfl, l0, l1, hn, M, k⟩ := h
    obtain ⟨hd, ⟨cs, hcl, hc⟩, ⟨gs, hgl, hg⟩, ncg⟩ := id M
    have hu := hu_of hr
    have hu64 := hr.units
    have hr1 : Room 1 _ := hr
    refine ⟨_, pss_cons (ps_set (i := 2) scDra.nd rfl (.inl rfl) (pe_dget hu (pv 0) pe_str (fun _ _ => rfl)))
      (pss_cons (ps_dput hu (pv 0) pe_str (pe_op op_add (pv 2) pe_int) rfl)
      (pss_cons (ps_if (pt_cmpR (op_neD hu64) (pe_dget hu (pv 0) pe_str (fun _ _ => rfl)) (pe_lst pa_nil) (nomark _))
        (pss_cons (ps_set (i := 3) scDra.nd rfl (.inl rfl) (pe_dget hu (pv 0) pe_str (fun _ _ => rfl)))
        (pss_cons (ps_set (i := 4) scDra.nd rfl (.inl rfl) (pe_op op_mod (pe_callTy call_int1 (by rfl) T.int (by decide +kernel) (pa_cons (pv 2) pa_nil)) (pe_callB call_len_seq (by rfl) T.len PySem.boot_len (pa_cons (pv 3) pa_nil))))
        (pss_cons (ps_set (i := 5) scDra.nd rfl (.inl rfl) (pe_ix ix_list (pv 3) (pv 4) (fun _ _ => rfl)))
        (pss_one (ps_if (pt_cmpR op_gt (pv 5) pe_int (nomark _))
          (pss_cons (ps_asg (pe_op op_fdiv (pv 5) (pv 1)) (pg_sub (pv 3) (pv 4) set_list))
          (pss_one (ps_ret (pe_op op_mod (pe_callTy call_int1 (by rfl) T.int (by decide +kernel) (pa_cons (pv 5) pa_nil)) (pv 1))))) pss_nil)))))
        pss_nil)
      (pss_cons (ps_set (i := 3) scDra.nd rfl (.inl rfl) (pe_dget hu (pv 0) pe_str (fun _ _ => rfl)))
      (pss_one (ps_ret (pe_op op_mod (pe_callTy call_int1 (by rfl) T.int (by decide +kernel) (pa_cons
        (pe_call GM hr1 (by rfl) T.gM T.kM bM .nil pass0 (pa_cons
          (pe_call GM hr1 (by rfl) T.gM T.kM bM .nil pass0 (pa_cons (pe_op op_add (pe_ix ix_list (pv 3) (pe_op op_mod (pe_callTy call_int1 (by rfl) T.int (by decide +kernel) (pa_cons (pv 2) pa_nil)) pe_int) (fun _ _ => rfl)) (pe_op op_mul pe_int (pe_op op_fdiv (pv 2) pe_int))) (pa_cons (pv 2) pa_nil)))
          (pa_cons (pe_op op_add (pv 2) pe_int) pa_nil))) pa_nil)) (pv 1))))))), ?_⟩
    have nmc : m ≠ c := ne_of hd hc (by intro z; cases z)
    have nmg : m ≠ g := ne_of hd hg (by intro z; cases z)
    have gS : ∀ {H' : Hp} {n : Int}, H' m = some (.dK (kvM c g n)) → DGet H' m (.str "spot") (some (.int n)) := fun {H' n} e => by
      rw [← kv_spot c g n]
      exact DGet.k (k := .inr "spot") e
    have gG : ∀ {H' : Hp} {n : Int}, H' m = some (.dK (kvM c g n)) → DGet H' m (.str "great") (some (.ref g)) := fun {H' n} e => by
      rw [← kv_great c g n]
      exact DGet.k (k := .inr "great") e
    have gC : ∀ {H' : Hp} {n : Int}, H' m = some (.dK (kvM c g n)) → DGet H' m (.str "cells") (some (.ref c)) := fun {H' n} e => by
      rw [← kv_cells c g n]
      exact DGet.k (k := .inr "cells") e
    -- n = m['spot']; m['spot'] = n + 1
    refine ⟨_, rfl, m, _, rfl, gS hd, ?_⟩
    refine ⟨_, rfl, _, _, rfl, rfl, _, rfl, m, _, rfl, DPut.k (k := .inr "spot") hd (by show 3 < sizeLine; rw [sizeLine_eq]; decide), ?_⟩
    rw [kv_put]
    have e1 : (upd H m (.dK (kvM c g ((n : Int) + 1)))) m = some (.dK (kvM c g ((n : Int) + 1))) := upd_same
    have c1 : (upd H m (.dK (kvM c g ((n : Int) + 1)))) c = some (.lst (cs.map V.int)) := by rw [upd_ne nmc.symm]; exact hc
    have g1 : (upd H m (.dK (kvM c g ((n : Int) + 1)))) g = some (.lst (gs.map V.int)) := by rw [upd_ne nmg.symm]; exact hg
    have s1 : ∀ b o, H b = some o → b ≠ m → b ≠ g → (upd H m (.dK (kvM c g ((n : Int) + 1)))) b = some o := fun b o e q _ => by rw [upd_ne q]; exact e
    revert e1 c1 g1 s1
    generalize upd H m (.dK (kvM c g ((n : Int) + 1))) = H1
    intro e1 c1 g1 s1
    -- if m['great'] != []
    refine ⟨_, rfl, m, _, rfl, gG e1, (by show 0 ≤ sizeLine; exact Nat.zero_le _), fun p hp => ?_⟩
    have e2 : (upd H1 p (.lst [])) m = some (.dK (kvM c g ((n : Int) + 1))) := by rw [upd_ne (ne_of_none e1 hp)]; exact e1
    have c2 : (upd H1 p (.lst [])) c = some (.lst (cs.map V.int)) := by rw [upd_ne (ne_of_none c1 hp)]; exact c1
    have g2 : (upd H1 p (.lst [])) g = some (.lst (gs.map V.int)) := by rw [upd_ne (ne_of_none g1 hp)]; exact g1
    have p2 : (upd H1 p (.lst [])) p = some (.lst []) := upd_same
    have s2 : ∀ b o, H b = some o → b ≠ m → b ≠ g → (upd H1 p (.lst [])) b = some o := fun b o e q1 q2 => by
      rw [upd_ne (ne_of_none (s1 b o e q1 q2) hp)]
      exact s1 b o e q1 q2
    revert e2 c2 g2 p2 s2
    generalize upd H1 p (.lst []) = H2
    intro e2 c2 g2 p2 s2
    have M2 : Ms H2 m c g (n + 1) := ⟨e2, ⟨cs, hcl, c2⟩, ⟨gs, hgl, g2⟩, ncg⟩
    refine ⟨.list (gs.map PyData.int), .list [], .lst (SqL.of g2) (dp_ints gs), .lst (SqL.of p2) .nil, shaped_ints gs, by decide +kernel, _, rfl, ?_⟩
    cases gs with
    | nil =>
      refine iteF ?_
      have b0 : 0 ≤ ((n : Nat) : Int) % 64 := by omega
      have b1 : ((n : Nat) : Int) % 64 < (cs.length : Int) := by rw [hcl]; omega
      obtain ⟨y, hy⟩ := ints_at b0 b1
      refine ⟨_, rfl, m, _, rfl, gC e2, ?_⟩
      refine ⟨_, rfl, _, rfl, .inl ⟨_, rfl, _, _, rfl, rfl, (by show (0 : Int) < 64; decide), c, _, _, _, rfl, rfl, SqL.of c2, hy, ?_⟩⟩
      refine ⟨_, rfl, _, _, rfl, rfl, ⟨by decide, by decide⟩, _, _, rfl, rfl, .inl ⟨by decide, by decide⟩, _, _, rfl, rfl, _, rfl, ?_⟩
      refine ⟨_, _, rfl, by omega, by omega, fun r1 => ?_⟩
      refine ⟨_, rfl, _, _, rfl, rfl, _, _, rfl, by omega, by omega, fun r2 => .inl ⟨_, rfl, _, rfl, _, _, rfl, rfl, l0, ?_⟩⟩
      exact k _ H2 (Int.emod_nonneg _ (by omega)) (Int.emod_lt_of_pos _ l0) M2 s2
    | cons z0 gs' =>
      refine iteT ?_
      -- lot = m['great']; here = int(n) % len(lot); cell = lot[here]
      have d0 : (0 : Int) < (((z0 :: gs').map V.int).length : Int) := by rw [List.length_map, List.length_cons]; omega
      have d1 : 0 ≤ ((n : Nat) : Int) % (((z0 :: gs').map V.int).length : Int) := Int.emod_nonneg _ (by omega)
      have d2 : ((n : Nat) : Int) % (((z0 :: gs').map V.int).length : Int) < (((z0 :: gs').length : Nat) : Int) := by
        have q := Int.emod_lt_of_pos ((n : Nat) : Int) d0
        rw [List.length_map] at q ⊢
        exact q
      obtain ⟨x, hx⟩ := ints_at d1 d2
      refine ⟨_, rfl, m, _, rfl, gG e2, ?_⟩
      refine ⟨_, rfl, .inl ⟨_, rfl, _, rfl, g, _, rfl, .inl (SqL.of g2), _, _, rfl, rfl, d0, ?_⟩⟩
      refine ⟨_, rfl, _, rfl, g, _, _, _, rfl, rfl, SqL.of g2, hx, ?_⟩
      refine ⟨_, rfl, _, _, rfl, rfl, _, rfl, ?_⟩
      refine ite2 (fun _ => ?_) (fun _ => ?_)
      · refine ⟨_, rfl, _, rfl, _, _, rfl, rfl, ⟨l0, by omega⟩, ?_⟩
        refine ⟨_, rfl, _, rfl, g, _, _, _, rfl, rfl, g2, ints_ix d1 d2, ?_⟩
        refine ⟨_, rfl, .inl ⟨_, rfl, _, rfl, _, _, rfl, rfl, l0, ?_⟩⟩
        refine k _ _ (Int.emod_nonneg _ (by omega)) (Int.emod_lt_of_pos _ l0) ⟨?_, ⟨cs, hcl, ?_⟩, ⟨(z0 :: gs').set (((n : Nat) : Int) % (((z0 :: gs').map V.int).length : Int)).toNat (x / lim), by rw [List.length_set]; exact hgl, ?_⟩, ncg⟩ fun b o e q1 q2 => ?_
        · rw [upd_ne nmg]
          exact e2
        · unfold IntsAt
          rw [upd_ne ncg]
          exact c2
        · unfold IntsAt
          rw [upd_same, ints_set]
        · rw [upd_ne q2]
          exact s2 b o e q1 q2
      · skip
        have b0 : 0 ≤ ((n : Nat) : Int) % 64 := by omega
        have b1 : ((n : Nat) : Int) % 64 < (cs.length : Int) := by rw [hcl]; omega
        obtain ⟨y, hy⟩ := ints_at b0 b1
        refine ⟨_, rfl, m, _, rfl, gC e2, ?_⟩
        refine ⟨_, rfl, _, rfl, .inl ⟨_, rfl, _, _, rfl, rfl, (by show (0 : Int) < 64; decide), c, _, _, _, rfl, rfl, SqL.of c2, hy, ?_⟩⟩
        refine ⟨_, rfl, _, _, rfl, rfl, ⟨by decide, by decide⟩, _, _, rfl, rfl, .inl ⟨by decide, by decide⟩, _, _, rfl, rfl, _, rfl, ?_⟩
        refine ⟨_, _, rfl, by omega, by omega, fun r1 => ?_⟩
        refine ⟨_, rfl, _, _, rfl, rfl, _, _, rfl, by omega, by omega, fun r2 => .inl ⟨_, rfl, _, rfl, _, _, rfl, rfl, l0, ?_⟩⟩
        exact k _ H2 (Int.emod_nonneg _ (by omega)) (Int.emod_lt_of_pos _ l0) M2 s2
end
end Lr

namespace Lr
open PySem PySem.Spec PyProof.Rows L2

def spBeg (K : PySem.W.Frag) : Sp := fun vs H Q _ => ∃ (a : Addr) (ns : List Int), vs = [.ref a] ∧ SqL K H a (ns.map V.int) ∧ ns.length ≤ 63 ∧
  ∀ (H' : Hp) (m c g : Addr), Same H H' → H m = none → H c = none → H g = none → Ms H' m c g 0 → Q (.ref m) H'

section
variable {P : Program} {w : World} {K : PySem.W.Frag} {mg : Str → Option Value} {base : Heap}
theorem scBeg : FnScope ["script", "m", "cell"] ["script"] (defScope sBeg) := ⟨rfl, rfl, rfl, by decide +kernel, rfl, by decide +kernel, by decide +kernel⟩
theorem ok_beg {f fL : Addr} {fd fdL : FuncData} (F : Fun K "_law_begun" "_law_begun" sBeg f fd) (T : Tx mg) (gL : mg "_law_folded" = some (.ref fL)) (kL : PySem.W.keepIn K (.ref fL) = true)
    (FL : Fun K "_law_folded" "_law_folded" sFol fL fdL) (bL : Binds K fdL ["script"] []) : FnOk P w K mg base CX0 2 f fd ["script"] (spBeg K) := by
  have GL : FnOk P w K mg base CX0 1 fL fdL ["script"] (spFol K) := ok_fol FL T
  refine F.ok scBeg (fun vs H Q E h => ?_) (fun cdv A outer s H vs Q E hr h => ?_)
  · obtain ⟨a, ns, rfl, _⟩ := h
    rfl
  · obtain ⟨a, ns, rfl, hS, hlen, k⟩ := h
    have hu := hu_of hr
    have hr1 : Room 1 _ := hr
    refine ⟨_, pss_cons (ps_set (i := 1) scBeg.nd rfl (.inl rfl) (pe_disp (pps_cons pe_str (pe_call GL hr1 (by rfl) gL kL bL .nil pass0 (pa_cons (pv 0) pa_nil)) (pps_cons pe_str (pe_lst pa_nil) (pps_cons pe_str pe_int pps_nil))) rfl rfl (by simp) (by decide)))
      (pss_cons (ps_dput hu (pv 1) pe_str (pe_lc (own := [("cell", 2)]) (g := gName 2) (tt := tYes) rfl scBeg.nd (pi_list (pv 0)) (blkOk_by (N := ["script", "m", "cell"]) (sc := defScope sBeg) (by decide +kernel))
        (fun _ _ _ _ _ => pg_name (i := 2) scBeg.nd rfl (.inl rfl)) (fun _ _ _ _ _ => pts_nil) (fun _ _ _ _ _ => pe_ifExp (pt_cmpR op_ge (pv 2) (pe_op op_pow pe_int pe_int) (nomark _)) (pv 2) pe_int)) rfl)
      (pss_one (ps_ret (pv 1)))), ?_⟩
    -- m = {'cells': _law_folded(script), 'great': [], 'spot': 0}
    refine fun m nm => ⟨_, rfl, a, ns, rfl, ?_, hlen, fun H1 c cs sm nc hc hcl => ⟨(by show 0 ≤ sizeLine; exact Nat.zero_le _), fun g ng => ?_⟩⟩
    · exact Same.seq (fun b o e => by rw [upd_ne (ne_of_none e nm)]; exact e) hS
    have m1 : H1 m = some (.dK []) := sm m _ upd_same
    have ncm : c ≠ m := fun e => by
      rw [e, upd_same] at nc
      cases nc
    have nc0 : H c = none := by rw [upd_ne ncm] at nc; exact nc
    have s1 : Same H H1 := fun b o e => sm b o (by rw [upd_ne (ne_of_none e nm)]; exact e)
    have ngm : g ≠ m := fun e => by
      rw [e, m1] at ng
      cases ng
    have ncg : c ≠ g := ne_of_none hc ng
    refine ⟨by rw [upd_ne ngm.symm]; exact m1, [(.inr "cells", .ref c), (.inr "great", .ref g), (.inr "spot", .int 0)], rfl, (by show 3 ≤ 15; decide), ?_⟩
    have e0 : mergeK [] [((.inr "cells" : Key), V.ref c), (.inr "great", .ref g), (.inr "spot", .int 0)] = kvM c g 0 := by rfl
    rw [e0]
    -- m['great'] = [cell if cell >= 10 ** 18 else 0 for cell in script]
    have sm2 : ∀ o, Same H (upd (upd H1 g (.lst [])) m o) := fun o b q e => by
      rw [upd_ne (ne_of_none e nm), upd_ne (ne_of_none (s1 b q e) ng)]
      exact s1 b q e
    have c2 : ∀ o, (upd (upd H1 g (.lst [])) m o) c = some (.lst (cs.map V.int)) := fun o => by
      rw [upd_ne ncm, upd_ne ncg]
      exact hc
    have m2 : (upd (upd H1 g (.lst [])) m (.dK (kvM c g 0))) m = some (.dK (kvM c g 0)) := upd_same
    have s2 := sm2 (.dK (kvM c g 0))
    have cc2 := c2 (.dK (kvM c g 0))
    revert m2 s2 cc2
    generalize upd (upd H1 g (.lst [])) m (.dK (kvM c g 0)) = H2
    intro m2 s2 cc2
    refine ⟨_, rfl, a, rfl, ⟨_, s2.seq hS⟩, fun D nD => ?_⟩
    refine lc_list (K := K) (a := a) (xs := ns.map V.int) (fun i H' => ∃ gs : List Int, gs.length = i ∧ IntsAt H' D gs ∧ Same H2 H') ⟨[], rfl, upd_same, fun b o e => by rw [upd_ne (ne_of_none e nD)]; exact e⟩
      (fun i H' _ ⟨_, _, _, s3⟩ => s3.seq (s2.seq hS)) ?_ ?_
    · rintro i x H' hi ⟨gs, hl, hg, s3⟩
      obtain ⟨z, rfl⟩ : ∃ z, x = V.int z := by
        rw [List.getElem?_map] at hi
        cases e : ns[i]? with
        | none =>
          rw [e] at hi
          cases hi
        | some z =>
          rw [e] at hi
          exact ⟨z, (Option.some.inj hi).symm⟩
      have hil : i < ns.length := by
        have q := (List.getElem?_eq_some_iff.mp hi).1
        rw [List.length_map] at q
        exact q
      have fin : ∀ y : Int, ∃ acc, H' D = some (.lst acc) ∧ acc.length < sizeLine ∧ ∃ gs : List Int, gs.length = i + 1 ∧ IntsAt (upd H' D (.lst (acc ++ [V.int y]))) D gs ∧ Same H2 (upd H' D (.lst (acc ++ [V.int y]))) := fun y => by
        refine ⟨_, hg, by rw [List.length_map, hl, sizeLine_eq]; omega, gs ++ [y], by simp [hl], ?_, fun b o e => by rw [upd_ne (ne_of_none e nD)]; exact s3 b o e⟩
        unfold IntsAt
        rw [upd_same, List.map_append]
        rfl
      refine ⟨rfl, yes_of ?_⟩
      refine ⟨_, rfl, _, _, rfl, rfl, ⟨by decide, by decide, by decide⟩, _, _, rfl, rfl, _, rfl, ?_⟩
      refine ite2 (fun _ => ?_) (fun _ => ?_)
      · exact ⟨_, rfl, fin _⟩
      · exact fin _
    rintro H3 ⟨gs, hgl, hg3, s3⟩
    rw [List.length_map] at hgl
    refine ⟨_, rfl, m, _, rfl, DPut.k (k := .inr "great") (s3 _ _ m2) (by show 3 < sizeLine; rw [sizeLine_eq]; decide), ?_⟩
    rw [kv_putG]
    have nDm : m ≠ D := ne_of_none m2 nD
    have nDc : c ≠ D := ne_of_none cc2 nD
    refine ⟨_, rfl, k _ m c D (fun b o e => ?_) nm nc0 (s2.free nD) ⟨upd_same, ⟨cs, hcl, ?_⟩, ⟨gs, by omega, ?_⟩, nDc⟩⟩
    · rw [upd_ne (ne_of_none e nm)]
      exact s3 b o (s2 b o e)
    · unfold IntsAt
      rw [upd_ne ncm]
      exact s3 _ _ cc2
    · unfold IntsAt
      rw [upd_ne nDm.symm]
      exact hg3
end
end Lr

namespace Lr
open PySem PySem.Spec PyProof.Rows L2
abbrev sNu : Stmt := top 19
abbrev sTu : Stmt := top 20
abbrev sPa : Stmt := top 21
abbrev sWo : Stmt := top 22
abbrev sHo : Stmt := top 23
abbrev sHp : Stmt := top 24
abbrev sLa : Stmt := top 25
abbrev sNN : Stmt := top 38
abbrev sNR : Stmt := top 39
abbrev sNL : Stmt := top 40
abbrev sNW : Stmt := top 41
/-- a def of the text, as a caller finds it -/
structure Cal (K : PySem.W.Frag) (mg : Str → Option Value) (name : Str) (f : Addr) (fd : FuncData) (ps : List Str) : Prop where
  g : mg name = some (.ref f)
  k : PySem.W.keepIn K (.ref f) = true
  b : Binds K fd ps []
structure Bt (mg : Str → Option Value) : Prop where
  isi : mg "isinstance" = none
  len : mg "len" = none
  all : mg "all" = none
  int : mg "int" = none
  bool : mg "bool" = none
  str : mg "str" = none
  tuple : mg "tuple" = none
  enum : mg "enumerate" = none
  h7 : ∃ t, mg "MOST_HOUSE" = some (.int 7 t)
  l8 : ∃ t, mg "MOST_LETTERS" = some (.int 8 t)
  r10 : ∃ t, mg "MOST_ROADS" = some (.int 10 t)
  l4 : ∃ t, mg "MOST_LABELS" = some (.int 4 t)
def spNu : Sp := fun vs H Q _ => ∃ v lo hi : Int, vs = [.int v, .int lo, .int hi] ∧ lo ≤ v ∧ v ≤ hi ∧ Q (.bl true) H
def spTu : Sp := fun vs H Q _ => ∃ (p : Addr) (xs : List V) (lo hi : Int), vs = [.ref p, .int lo, .int hi] ∧ H p = some (.tup xs) ∧ lo ≤ (xs.length : Nat) ∧ ((xs.length : Nat) : Int) ≤ hi ∧ Q (.bl true) H
def spPa : Sp := fun vs H Q _ => ∃ (p : Addr) (x y : V), vs = [.ref p] ∧ H p = some (.tup [x, y]) ∧ Q (.bl true) H
def spHo : Sp := fun vs H Q _ => ∃ v : Int, vs = [.int v] ∧ 0 ≤ v ∧ v ≤ 7 ∧ Q (.bl true) H
def spHp : Sp := fun vs H Q _ => ∃ (p : Addr) (x y : Int), vs = [.ref p] ∧ H p = some (.tup [.int x, .int y]) ∧ 0 ≤ x ∧ x ≤ 7 ∧ 0 ≤ y ∧ y ≤ 7 ∧ Q (.bl true) H
def spWo : Sp := fun vs H Q _ => vs = [.str "a"] ∧ ∀ H', Same H H' → Q (.bl true) H'
def spNR : Sp := fun vs H Q _ => ∃ r p : Addr, vs = [.ref r] ∧ H r = some (.tup [.ref p]) ∧ H p = some (.tup [.int 0, .int 0]) ∧ ∀ H', Same H H' → Q .non H'
def spNL : Sp := fun vs H Q _ => ∃ l : Addr, vs = [.ref l] ∧ H l = some (.tup [.str "a"]) ∧ ∀ H', Same H H' → Q .non H'
def spNW : Sp := fun vs H Q _ => ∃ r p l e : Addr, vs = [.ref r, .ref l, .ref e] ∧ H r = some (.tup [.ref p]) ∧ H l = some (.tup [.str "a"]) ∧ H e = some (.tup []) ∧ ∀ H', Same H H' → Q .non H'
def spNN : Sp := fun vs H Q _ => ∃ n r p l e : Addr, vs = [.ref n] ∧ H n = some (.tup [.ref r, .ref l, .ref e]) ∧ H r = some (.tup [.ref p]) ∧ H p = some (.tup [.int 0, .int 0]) ∧ H l = some (.tup [.str "a"]) ∧ H e = some (.tup []) ∧ ∀ H', Same H H' → Q (.ref n) H'
section
variable {P : Program} {w : World} {K : PySem.W.Frag} {mg : Str → Option Value} {base : Heap}
theorem scNu : FnScope ["value", "least", "greatest"] ["value", "least", "greatest"] (defScope sNu) := ⟨rfl, rfl, rfl, by decide +kernel, rfl, by decide +kernel, by decide +kernel⟩
theorem scTu : FnScope ["value", "least", "greatest"] ["value", "least", "greatest"] (defScope sTu) := ⟨rfl, rfl, rfl, by decide +kernel, rfl, by decide +kernel, by decide +kernel⟩
theorem scPa : FnScope ["value"] ["value"] (defScope sPa) := ⟨rfl, rfl, rfl, by decide +kernel, rfl, by decide +kernel, by decide +kernel⟩
theorem scWo : FnScope ["value", "letter"] ["value"] (defScope sWo) := ⟨rfl, rfl, rfl, by decide +kernel, rfl, by decide +kernel, by decide +kernel⟩
theorem scHo : FnScope ["value"] ["value"] (defScope sHo) := ⟨rfl, rfl, rfl, by decide +kernel, rfl, by decide +kernel, by decide +kernel⟩
theorem scHp : FnScope ["value"] ["value"] (defScope sHp) := ⟨rfl, rfl, rfl, by decide +kernel, rfl, by decide +kernel, by decide +kernel⟩
theorem scLa : FnScope ["value"] ["value"] (defScope sLa) := ⟨rfl, rfl, rfl, by decide +kernel, rfl, by decide +kernel, by decide +kernel⟩
theorem scNN : FnScope ["net", "roads", "labels", "rows"] ["net"] (defScope sNN) := ⟨rfl, rfl, rfl, by decide +kernel, rfl, by decide +kernel, by decide +kernel⟩
theorem scNR : FnScope ["roads", "place", "road"] ["roads"] (defScope sNR) := ⟨rfl, rfl, rfl, by decide +kernel, rfl, by decide +kernel, by decide +kernel⟩
theorem scNL : FnScope ["labels", "place", "label"] ["labels"] (defScope sNL) := ⟨rfl, rfl, rfl, by decide +kernel, rfl, by decide +kernel, by decide +kernel⟩
theorem scNW : FnScope ["roads", "labels", "rows", "place", "row"] ["roads", "labels", "rows"] (defScope sNW) := ⟨rfl, rfl, rfl, by decide +kernel, rfl, by decide +kernel, by decide +kernel⟩
theorem ok_Nu {f : Addr} {fd : FuncData}  (F : Fun K "is_number" "is_number" sNu f fd) (T : Bt mg) : FnOk P w K mg base CX0 1 f fd ["value", "least", "greatest"] spNu := by
  refine F.ok scNu (fun vs H Q E h => ?_) (fun cdv A outer s H vs Q E hr h => ?_)
  · obtain ⟨v, lo, hi, rfl, h0, h1, k⟩ := h
    rfl
  · obtain ⟨v, lo, hi, rfl, h0, h1, k⟩ := h
    refine ⟨_, pss_one (ps_ret (pe_and (pe_callB call_isi (by rfl) T.isi (by decide +kernel) (pa_cons (pv 0) (pa_cons (pe_bltn (v := V.ty "int") (by rfl) T.int (by decide +kernel) rfl) pa_nil))) (pe_and (pe_not (pe_callB call_isi (by rfl) T.isi (by decide +kernel) (pa_cons (pv 0) (pa_cons (pe_bltn (v := V.ty "bool") (by rfl) T.bool (by decide +kernel) rfl) pa_nil)))) (pe_one (pe_chain op_le op_le (pv 1) (pv 0) (pv 2)))))), ?_⟩
    refine ⟨_, rfl, .int v, .ty "int", _, _, true, rfl, .ty _, .base (.int v), kit_ty (by decide +kernel), _, rfl, iteT ?_⟩
    refine ⟨_, rfl, .int v, .ty "bool", _, _, false, rfl, .ty _, .base (.int v), kit_ty (by decide +kernel), _, rfl, _, rfl, iteT ?_⟩
    refine ⟨_, rfl, _, rfl, _, _, rfl, rfl, _, rfl, ifT (decide_eq_true h0) ⟨_, rfl, _, _, rfl, rfl, ?_⟩⟩
    show Q (.bl (decide (v ≤ hi))) H
    rw [decide_eq_true h1]
    exact k
theorem ok_Tu {f : Addr} {fd : FuncData}  (F : Fun K "is_tuple" "is_tuple" sTu f fd) (T : Bt mg) : FnOk P w K mg base CX0 1 f fd ["value", "least", "greatest"] spTu := by
  refine F.ok scTu (fun vs H Q E h => ?_) (fun cdv A outer s H vs Q E hr h => ?_)
  · obtain ⟨p, xs, lo, hi, rfl, ep, h0, h1, k⟩ := h
    rfl
  · obtain ⟨p, xs, lo, hi, rfl, ep, h0, h1, k⟩ := h
    refine ⟨_, pss_one (ps_ret (pe_and (pe_callB call_isi (by rfl) T.isi (by decide +kernel) (pa_cons (pv 0) (pa_cons (pe_bltn (v := V.ty "tuple") (by rfl) T.tuple (by decide +kernel) rfl) pa_nil))) (pe_one (pe_chain op_le op_le (pv 1) (pe_callB call_len_seq (by rfl) T.len PySem.boot_len (pa_cons (pv 0) pa_nil)) (pv 2))))), ?_⟩
    refine ⟨_, rfl, .ref p, .ty "tuple", _, _, true, rfl, .ty _, .base (.tup ep), kit_ty (by decide +kernel), _, rfl, iteT ?_⟩
    refine ⟨_, rfl, _, rfl, p, _, rfl, .inr (SqT.of ep), _, _, rfl, rfl, _, rfl, ifT (decide_eq_true h0) ⟨_, rfl, _, _, rfl, rfl, ?_⟩⟩
    show Q (.bl (decide (((xs.length : Nat) : Int) ≤ hi))) H
    rw [decide_eq_true h1]
    exact k
theorem ok_Pa {f : Addr} {fd : FuncData} {fTu : Addr} {dTu : FuncData}  (F : Fun K "is_pair" "is_pair" sPa f fd) (T : Bt mg) (CTu : Cal K mg "is_tuple" fTu dTu ["value", "least", "greatest"]) (GTu : FnOk P w K mg base CX0 1 fTu dTu ["value", "least", "greatest"] spTu) : FnOk P w K mg base CX0 2 f fd ["value"] spPa := by
  refine F.ok scPa (fun vs H Q E h => ?_) (fun cdv A outer s H vs Q E hr h => ?_)
  · obtain ⟨p, x, y, rfl, ep, k⟩ := h
    rfl
  · obtain ⟨p, x, y, rfl, ep, k⟩ := h
    have hr1 : Room 1 (A.deeper (envOfC "is_pair" (defScope sPa) s.heap.objs.size f cdv)) := Room.mono hr (by decide)
    refine ⟨_, pss_one (ps_ret (pe_call GTu hr1 (by rfl) CTu.g CTu.k CTu.b .nil pass0 (pa_cons (pv 0) (pa_cons pe_int (pa_cons pe_int pa_nil))))), ?_⟩
    exact ⟨_, rfl, p, _, _, _, rfl, ep, by show (2 : Int) ≤ 2; decide, by show (2 : Int) ≤ 2; decide, k⟩
theorem ok_Ho {f : Addr} {fd : FuncData} {fNu : Addr} {dNu : FuncData}  (F : Fun K "is_house" "is_house" sHo f fd) (T : Bt mg) (CNu : Cal K mg "is_number" fNu dNu ["value", "least", "greatest"]) (GNu : FnOk P w K mg base CX0 1 fNu dNu ["value", "least", "greatest"] spNu) : FnOk P w K mg base CX0 2 f fd ["value"] spHo := by
  refine F.ok scHo (fun vs H Q E h => ?_) (fun cdv A outer s H vs Q E hr h => ?_)
  · obtain ⟨v, rfl, h0, h1, k⟩ := h
    rfl
  · obtain ⟨v, rfl, h0, h1, k⟩ := h
    obtain ⟨t7, e7⟩ := T.h7
    have hr1 : Room 1 (A.deeper (envOfC "is_house" (defScope sHo) s.heap.objs.size f cdv)) := Room.mono hr (by decide)
    refine ⟨_, pss_one (ps_ret (pe_call GNu hr1 (by rfl) CNu.g CNu.k CNu.b .nil pass0 (pa_cons (pv 0) (pa_cons pe_int (pa_cons (pe_glob (v := V.int 7) (by rfl) e7 ⟨_, rfl⟩) pa_nil))))), ?_⟩
    exact ⟨_, rfl, v, _, _, rfl, h0, h1, k⟩
theorem ok_Hp {f : Addr} {fd : FuncData} {fPa : Addr} {dPa : FuncData} {fHo : Addr} {dHo : FuncData}  (F : Fun K "is_house_pair" "is_house_pair" sHp f fd) (T : Bt mg) (CPa : Cal K mg "is_pair" fPa dPa ["value"]) (GPa : FnOk P w K mg base CX0 2 fPa dPa ["value"] spPa) (CHo : Cal K mg "is_house" fHo dHo ["value"]) (GHo : FnOk P w K mg base CX0 2 fHo dHo ["value"] spHo) : FnOk P w K mg base CX0 3 f fd ["value"] spHp := by
  refine F.ok scHp (fun vs H Q E h => ?_) (fun cdv A outer s H vs Q E hr h => ?_)
  · obtain ⟨p, x, y, rfl, ep, x0, x1, y0, y1, k⟩ := h
    rfl
  · obtain ⟨p, x, y, rfl, ep, x0, x1, y0, y1, k⟩ := h
    have hr2 : Room 2 (A.deeper (envOfC "is_house_pair" (defScope sHp) s.heap.objs.size f cdv)) := Room.mono hr (by decide)
    refine ⟨_, pss_one (ps_ret (pe_and (pe_call GPa hr2 (by rfl) CPa.g CPa.k CPa.b .nil pass0 (pa_cons (pv 0) pa_nil)) (pe_and (pe_call GHo hr2 (by rfl) CHo.g CHo.k CHo.b .nil pass0 (pa_cons (pe_ix ix_tup (pv 0) pe_int (fun _ _ => rfl)) pa_nil)) (pe_one (pe_call GHo hr2 (by rfl) CHo.g CHo.k CHo.b .nil pass0 (pa_cons (pe_ix ix_tup (pv 0) pe_int (fun _ _ => rfl)) pa_nil)))))), ?_⟩
    refine ⟨_, rfl, p, _, _, rfl, ep, _, rfl, iteT ?_⟩
    refine ⟨_, rfl, p, _, _, _, rfl, rfl, SqT.of ep, (show atI [V.int x, V.int y] 0 = some (V.int x) from rfl), x, rfl, x0, x1, _, rfl, iteT ?_⟩
    exact ⟨_, rfl, p, _, _, _, rfl, rfl, SqT.of ep, (show atI [V.int x, V.int y] 1 = some (V.int y) from rfl), y, rfl, y0, y1, k⟩
theorem ok_Wo {f : Addr} {fd : FuncData}  (F : Fun K "is_word" "is_word" sWo f fd) (T : Bt mg) : FnOk P w K mg base CX0 1 f fd ["value"] spWo := by
  refine F.ok scWo (fun vs H Q E h => ?_) (fun cdv A outer s H vs Q E hr h => ?_)
  · obtain ⟨rfl, k⟩ := h
    rfl
  · obtain ⟨rfl, k⟩ := h
    obtain ⟨t8, e8⟩ := T.l8
    refine ⟨_, pss_cons (ps_if (PW.pt (pw_or (pt_not (pt_val (pe_callB call_isi (by rfl) T.isi (by decide +kernel) (pa_cons (pv 0) (pa_cons (pe_bltn (v := V.ty "str") (by rfl) T.str (by decide +kernel) rfl) pa_nil))))) (pw_or1 (pt_not (pt_chain op_le op_le pe_int (pe_callB call_len_str (by rfl) T.len PySem.boot_len (pa_cons (pv 0) pa_nil)) (pe_glob (v := V.int 8) (by rfl) e8 ⟨_, rfl⟩)))))) (pss_one (ps_ret pe_bl)) pss_nil)
      (pss_one (ps_ret (pe_callB (cr_all rfl) (by rfl) T.all (by decide +kernel) (pa_cons (pe_lc (own := [("letter", 1)]) (g := gName 1) (tt := tYes) rfl scWo.nd (pi_str (pv 0)) (blkOk_by (N := ["value", "letter"]) (sc := defScope sWo) (by decide +kernel)) (fun _ _ _ _ _ => pg_name (i := 1) scWo.nd rfl (.inl rfl)) (fun _ _ _ _ _ => pts_nil)
        (fun _ _ _ _ _ => pe_chain op_le_str op_le_str pe_str (pv 1) pe_str)) pa_nil)))), ?_⟩
    refine ⟨_, rfl, .str "a", .ty "str", _, _, true, rfl, .ty _, .base (.str _), kit_ty (by decide +kernel), _, rfl, iteF ?_⟩
    refine ⟨_, rfl, _, rfl, by show 1 ≤ sizeLine; rw [sizeLine_eq]; decide, _, _, rfl, rfl, _, rfl, iteT ⟨_, _, rfl, rfl, _, rfl, iteF ?_⟩⟩
    refine ⟨_, rfl, _, rfl, fun D nD => ?_⟩
    refine lc_it walk_str (fun i H' => H' D = some (.lst ((List.replicate i true).map V.bl)) ∧ Same H H') ⟨upd_same, same_upd nD⟩ (fun _ _ _ _ => trivial) ?_ ?_
    · rintro i x H' H2 hi ⟨eD, sm⟩ ⟨rfl, c, hc, rfl⟩
      have i0 : i = 0 := Nat.lt_one_iff.mp hi
      subst i0
      have c97 : c = 97 := by
        have z : some c = some 97 := hc.symm
        exact Option.some.inj z
      subst c97
      refine ⟨rfl, yes_of ?_⟩
      refine ⟨_, rfl, _, _, rfl, rfl, _, rfl, ifT (by decide +kernel) ⟨_, _, rfl, rfl, _, eD, by show 0 < sizeLine; rw [sizeLine_eq]; decide, ?_, fun b o e => by rw [upd_ne (ne_of_none e nD)]; exact sm b o e⟩⟩
      rw [upd_same]
      have z : (!decide ((("z" : Str).cps.toList) < ((⟨#[97]⟩ : Str).cps.toList))) = true := by decide +kernel
      rw [z]
      rfl
    rintro H' ⟨eD, sm⟩
    exact ⟨D, [true], rfl, SqL.of eD, k _ sm⟩
theorem ok_La {f : Addr} {fd : FuncData} {fWo : Addr} {dWo : FuncData}  (F : Fun K "can_be_label" "can_be_label" sLa f fd) (T : Bt mg) (CWo : Cal K mg "is_word" fWo dWo ["value"]) (GWo : FnOk P w K mg base CX0 1 fWo dWo ["value"] spWo) : FnOk P w K mg base CX0 2 f fd ["value"] spWo := by
  refine F.ok scLa (fun vs H Q E h => ?_) (fun cdv A outer s H vs Q E hr h => ?_)
  · obtain ⟨rfl, k⟩ := h
    rfl
  · obtain ⟨rfl, k⟩ := h
    have hr1 : Room 1 (A.deeper (envOfC "can_be_label" (defScope sLa) s.heap.objs.size f cdv)) := Room.mono hr (by decide)
    refine ⟨_, pss_one (ps_ret (pe_and (pe_call GWo hr1 (by rfl) CWo.g CWo.k CWo.b .nil pass0 (pa_cons (pv 0) pa_nil)) (pe_one (pe_cmpR op_notIn_seq (pv 0) (pe_tup (pa_cons pe_str (pa_cons pe_str pa_nil))) (by rfl))))), ?_⟩
    refine ⟨_, rfl, rfl, fun H1 s1 => ⟨_, rfl, iteT ?_⟩⟩
    refine ⟨_, rfl, by show 2 ≤ sizeLine; rw [sizeLine_eq]; decide, fun t nt => ?_⟩
    refine ⟨t, _, rfl, .inr (SqT.of upd_same), rfl, rfl, ?_⟩
    have z : (if true then !inV (V.str "a") [V.str "any", V.str "all"] else inV (V.str "a") [V.str "any", V.str "all"]) = true := by decide +kernel
    rw [z]
    exact k _ (s1.trans (same_upd nt))
theorem ok_NR {f : Addr} {fd : FuncData} {fTu : Addr} {dTu : FuncData} {fHp : Addr} {dHp : FuncData}  (F : Fun K "need_roads" "need_roads" sNR f fd) (T : Bt mg) (CTu : Cal K mg "is_tuple" fTu dTu ["value", "least", "greatest"]) (GTu : FnOk P w K mg base CX0 1 fTu dTu ["value", "least", "greatest"] spTu) (CHp : Cal K mg "is_house_pair" fHp dHp ["value"]) (GHp : FnOk P w K mg base CX0 3 fHp dHp ["value"] spHp) : FnOk P w K mg base CX0 4 f fd ["roads"] spNR := by
  refine F.ok scNR (fun vs H Q E h => ?_) (fun cdv A outer s H vs Q E hr h => ?_)
  · obtain ⟨r, p, rfl, er, ep, k⟩ := h
    rfl
  · obtain ⟨r, p, rfl, er, ep, k⟩ := h
    obtain ⟨t10, e10⟩ := T.r10
    have hr1 : Room 1 (A.deeper (envOfC "need_roads" (defScope sNR) s.heap.objs.size f cdv)) := Room.mono hr (by decide)
    have hr3 : Room 3 (A.deeper (envOfC "need_roads" (defScope sNR) s.heap.objs.size f cdv)) := Room.mono hr (by decide)
    refine ⟨_, pss_cons (ps_if (pt_not (pt_val (pe_call GTu hr1 (by rfl) CTu.g CTu.k CTu.b .nil pass0 (pa_cons (pv 0) (pa_cons pe_int (pa_cons (pe_glob (v := V.int 10) (by rfl) e10 ⟨_, rfl⟩) pa_nil)))))) (pss_one ps_never) pss_nil)
      (pss_one (ps_for PassesOwn.never rfl (pi_enumT (by rfl) T.enum (pa_cons (pv 0) pa_nil)) (pg_tup (by rfl) (pgs_cons (pg_name (i := 1) scNR.nd rfl (.inl rfl)) (pgs_cons (pg_name (i := 2) scNR.nd rfl (.inl rfl)) pgs_nil)))
        (pss_one (ps_if (pt_not (pt_val (pe_call GHp hr3 (by rfl) CHp.g CHp.k CHp.b .nil pass0 (pa_cons (pv 2) pa_nil)))) (pss_one ps_never) pss_nil)))), ?_⟩
    refine ⟨_, rfl, r, _, _, _, rfl, er, by show (1 : Int) ≤ 1; decide, by show (1 : Int) ≤ 10; decide, _, rfl, iteF ?_⟩
    refine ⟨_, rfl, r, _, rfl, SqT.of er, for_it walk_enumT (fun i σ H' => ∃ u v : Option V, σ = [some (.ref r), u, v] ∧ Same H H') ⟨_, _, rfl, Same.refl H⟩ (fun i σ H' _ ⟨_, _, _, sm⟩ => SqT.of (sm _ _ er)) ?_ ?_⟩
    · rintro i x σ H' H2 hi ⟨u, v, rfl, sm⟩ ⟨t, x1, x2, rfl, nt, rfl, e1, e2⟩
      have i0 : i = 0 := Nat.lt_one_iff.mp hi
      subst i0
      cases e1
      cases e2
      refine ⟨t, _, rfl, SqT.of upd_same, rfl, _, _, rfl, _, _, rfl, rfl, ?_⟩
      refine ⟨_, rfl, p, 0, 0, rfl, same_upd nt _ _ (sm _ _ ep), by decide, by decide, by decide, by decide, _, rfl, iteF ?_⟩
      exact ⟨_, _, rfl, sm.trans (same_upd nt)⟩
    rintro σ H' ⟨u, v, rfl, sm⟩
    exact k _ sm
theorem ok_NL {f : Addr} {fd : FuncData} {fTu : Addr} {dTu : FuncData} {fLa : Addr} {dLa : FuncData}  (F : Fun K "need_labels" "need_labels" sNL f fd) (T : Bt mg) (CTu : Cal K mg "is_tuple" fTu dTu ["value", "least", "greatest"]) (GTu : FnOk P w K mg base CX0 1 fTu dTu ["value", "least", "greatest"] spTu) (CLa : Cal K mg "can_be_label" fLa dLa ["value"]) (GLa : FnOk P w K mg base CX0 2 fLa dLa ["value"] spWo) : FnOk P w K mg base CX0 3 f fd ["labels"] spNL := by
  refine F.ok scNL (fun vs H Q E h => ?_) (fun cdv A outer s H vs Q E hr h => ?_)
  · obtain ⟨l, rfl, el, k⟩ := h
    rfl
  · obtain ⟨l, rfl, el, k⟩ := h
    obtain ⟨t4, e4⟩ := T.l4
    have hr1 : Room 1 (A.deeper (envOfC "need_labels" (defScope sNL) s.heap.objs.size f cdv)) := Room.mono hr (by decide)
    have hr2 : Room 2 (A.deeper (envOfC "need_labels" (defScope sNL) s.heap.objs.size f cdv)) := Room.mono hr (by decide)
    refine ⟨_, pss_cons (ps_if (pt_not (pt_val (pe_call GTu hr1 (by rfl) CTu.g CTu.k CTu.b .nil pass0 (pa_cons (pv 0) (pa_cons pe_int (pa_cons (pe_glob (v := V.int 4) (by rfl) e4 ⟨_, rfl⟩) pa_nil)))))) (pss_one ps_never) pss_nil)
      (pss_one (ps_for PassesOwn.never rfl (pi_enumT (by rfl) T.enum (pa_cons (pv 0) pa_nil)) (pg_tup (by rfl) (pgs_cons (pg_name (i := 1) scNL.nd rfl (.inl rfl)) (pgs_cons (pg_name (i := 2) scNL.nd rfl (.inl rfl)) pgs_nil)))
        (pss_one (ps_if (PW.pt (pw_or (pt_not (pt_val (pe_call GLa hr2 (by rfl) CLa.g CLa.k CLa.b .nil pass0 (pa_cons (pv 2) pa_nil)))) (pw_or1 (pt_cmpR op_in_seq (pv 2) (pe_slice sl_tup (pv 0) po_none (po_some (pv 1))) (by rfl))))) (pss_one ps_never) pss_nil)))), ?_⟩
    refine ⟨_, rfl, l, _, _, _, rfl, el, by show (1 : Int) ≤ 1; decide, by show (1 : Int) ≤ 4; decide, _, rfl, iteF ?_⟩
    refine ⟨_, rfl, l, _, rfl, SqT.of el, for_it walk_enumT (fun i σ H' => ∃ u v : Option V, σ = [some (.ref l), u, v] ∧ Same H H') ⟨_, _, rfl, Same.refl H⟩ (fun i σ H' _ ⟨_, _, _, sm⟩ => SqT.of (sm _ _ el)) ?_ ?_⟩
    · rintro i x σ H' H2 hi ⟨u, v, rfl, sm⟩ ⟨t, x1, x2, rfl, nt, rfl, e1, e2⟩
      have i0 : i = 0 := Nat.lt_one_iff.mp hi
      subst i0
      cases e1
      cases e2
      refine ⟨t, _, rfl, SqT.of upd_same, rfl, _, _, rfl, _, _, rfl, rfl, ?_⟩
      refine ⟨_, rfl, rfl, fun H3 s3 => ⟨_, rfl, iteF ?_⟩⟩
      have sm3 := (sm.trans (same_upd nt)).trans s3
      refine ⟨_, rfl, _, rfl, _, rfl, _, rfl, l, _, rfl, SqT.of (sm3 _ _ el), by decide, fun p np => ?_⟩
      refine ⟨p, _, rfl, .inr (SqT.of upd_same), rfl, rfl, _, rfl, ifF (by decide +kernel) ?_⟩
      exact ⟨_, _, rfl, sm3.trans (same_upd np)⟩
    rintro σ H' ⟨u, v, rfl, sm⟩
    exact k _ sm
theorem ok_NW {f : Addr} {fd : FuncData} {fTu : Addr} {dTu : FuncData}  (F : Fun K "need_rows" "need_rows" sNW f fd) (T : Bt mg) (CTu : Cal K mg "is_tuple" fTu dTu ["value", "least", "greatest"]) (GTu : FnOk P w K mg base CX0 1 fTu dTu ["value", "least", "greatest"] spTu) : FnOk P w K mg base CX0 2 f fd ["roads", "labels", "rows"] spNW := by
  refine F.ok scNW (fun vs H Q E h => ?_) (fun cdv A outer s H vs Q E hr h => ?_)
  · obtain ⟨r, p, l, e, rfl, er, el, ee, k⟩ := h
    rfl
  · obtain ⟨r, p, l, e, rfl, er, el, ee, k⟩ := h
    have hr1 : Room 1 (A.deeper (envOfC "need_rows" (defScope sNW) s.heap.objs.size f cdv)) := Room.mono hr (by decide)
    refine ⟨_, pss_cons (ps_if (pt_not (pt_val (pe_call GTu hr1 (by rfl) CTu.g CTu.k CTu.b .nil pass0 (pa_cons (pv 2) (pa_cons pe_int (pa_cons (pe_op op_mul (pe_callB call_len_seq (by rfl) T.len PySem.boot_len (pa_cons (pv 0) pa_nil)) (pe_op op_add (pe_callB call_len_seq (by rfl) T.len PySem.boot_len (pa_cons (pv 1) pa_nil)) pe_int)) pa_nil)))))) (pss_one ps_never) pss_nil)
      (pss_one (ps_for PassesOwn.never rfl (pi_enumT (by rfl) T.enum (pa_cons (pv 2) pa_nil)) (pg_tup (by rfl) (pgs_cons (pg_name (i := 3) scNW.nd rfl (.inl rfl)) (pgs_cons (pg_name (i := 4) scNW.nd rfl (.inl rfl)) pgs_nil)))
        (pss_one ps_never))), ?_⟩
    refine ⟨_, rfl, _, rfl, r, _, rfl, .inr (SqT.of er), _, rfl, l, _, rfl, .inr (SqT.of el), _, _, rfl, rfl, _, _, rfl, rfl, .inl ⟨by show (-(2 ^ 64) : Int) < 1; decide, by show (1 : Int) < 2 ^ 64; decide⟩, ?_⟩
    refine ⟨e, _, _, _, rfl, ee, by show (0 : Int) ≤ 0; decide, by show (0 : Int) ≤ 1 * (1 + 1); decide, _, rfl, iteF ?_⟩
    refine ⟨_, rfl, e, _, rfl, SqT.of ee, for_it walk_enumT (fun i σ H' => Same H H') (Same.refl H) (fun i σ H' _ sm => SqT.of (sm _ _ ee)) (fun i x σ H' H2 hi => absurd hi (Nat.not_lt_zero _)) ?_⟩
    intro σ H' sm
    exact k _ sm
theorem ok_NN {f : Addr} {fd : FuncData} {fTu : Addr} {dTu : FuncData} {fNR : Addr} {dNR : FuncData} {fNL : Addr} {dNL : FuncData} {fNW : Addr} {dNW : FuncData}  (F : Fun K "need_net" "need_net" sNN f fd) (T : Bt mg) (CTu : Cal K mg "is_tuple" fTu dTu ["value", "least", "greatest"]) (GTu : FnOk P w K mg base CX0 1 fTu dTu ["value", "least", "greatest"] spTu) (CNR : Cal K mg "need_roads" fNR dNR ["roads"]) (GNR : FnOk P w K mg base CX0 4 fNR dNR ["roads"] spNR) (CNL : Cal K mg "need_labels" fNL dNL ["labels"]) (GNL : FnOk P w K mg base CX0 3 fNL dNL ["labels"] spNL) (CNW : Cal K mg "need_rows" fNW dNW ["roads", "labels", "rows"]) (GNW : FnOk P w K mg base CX0 2 fNW dNW ["roads", "labels", "rows"] spNW) : FnOk P w K mg base CX0 5 f fd ["net"] spNN := by
  refine F.ok scNN (fun vs H Q E h => ?_) (fun cdv A outer s H vs Q E hr h => ?_)
  · obtain ⟨n, r, p, l, e, rfl, en, er, ep, el, ee, k⟩ := h
    rfl
  · obtain ⟨n, r, p, l, e, rfl, en, er, ep, el, ee, k⟩ := h
    have hr1 : Room 1 (A.deeper (envOfC "need_net" (defScope sNN) s.heap.objs.size f cdv)) := Room.mono hr (by decide)
    have hr2 : Room 2 (A.deeper (envOfC "need_net" (defScope sNN) s.heap.objs.size f cdv)) := Room.mono hr (by decide)
    have hr3 : Room 3 (A.deeper (envOfC "need_net" (defScope sNN) s.heap.objs.size f cdv)) := Room.mono hr (by decide)
    have hr4 : Room 4 (A.deeper (envOfC "need_net" (defScope sNN) s.heap.objs.size f cdv)) := Room.mono hr (by decide)
    refine ⟨_, pss_cons (ps_if (pt_not (pt_val (pe_call GTu hr1 (by rfl) CTu.g CTu.k CTu.b .nil pass0 (pa_cons (pv 0) (pa_cons pe_int (pa_cons pe_int pa_nil)))))) (pss_one ps_never) pss_nil)
      (pss_cons (ps_asg (pv 0) (pg_tup (by rfl) (pgs_cons (pg_name (i := 1) scNN.nd rfl (.inl rfl)) (pgs_cons (pg_name (i := 2) scNN.nd rfl (.inl rfl)) (pgs_cons (pg_name (i := 3) scNN.nd rfl (.inl rfl)) pgs_nil)))))
      (pss_cons (ps_expr (pe_call GNR hr4 (by rfl) CNR.g CNR.k CNR.b .nil pass0 (pa_cons (pv 1) pa_nil)))
      (pss_cons (ps_expr (pe_call GNL hr3 (by rfl) CNL.g CNL.k CNL.b .nil pass0 (pa_cons (pv 2) pa_nil)))
      (pss_cons (ps_expr (pe_call GNW hr2 (by rfl) CNW.g CNW.k CNW.b .nil pass0 (pa_cons (pv 1) (pa_cons (pv 2) (pa_cons (pv 3) pa_nil)))))
      (pss_one (ps_ret (pv 0))))))), ?_⟩
    refine ⟨_, rfl, n, _, _, _, rfl, en, by show (3 : Int) ≤ 3; decide, by show (3 : Int) ≤ 3; decide, _, rfl, iteF ?_⟩
    refine ⟨_, rfl, n, _, rfl, SqT.of en, rfl, _, _, rfl, _, _, rfl, _, _, rfl, rfl, ?_⟩
    refine ⟨_, rfl, r, p, rfl, er, ep, fun H1 s1 => ?_⟩
    refine ⟨_, rfl, l, rfl, s1 _ _ el, fun H2 s2 => ?_⟩
    have s12 := s1.trans s2
    refine ⟨_, rfl, _, rfl, _, rfl, r, p, l, e, rfl, s12 _ _ er, s12 _ _ el, s12 _ _ ee, fun H3 s3 => ?_⟩
    exact ⟨_, rfl, k _ (s12.trans s3)⟩
end
end Lr

namespace Lr
open PySem PySem.Spec PyProof.Rows L2
/-- an exception and what it holds -/
def Pk (q : V) (H : Hp) (e : Addr) (cf : Addr × Str) : Prop := ExIn H e cf.1 [(cf.2, q)]
theorem pk_mono {q : V} {H H' : Hp} (sm : Same H H') : ∀ (e : Addr) (cf : Addr × Str), Pk q H e cf → Pk q H' e cf := fun e cf h => ExIn.same sm h
theorem pk_snoc {q : V} {H H' : Hp} {es : List Addr} {cs : List (Addr × Str)} {e : Addr} {cf : Addr × Str} (sm : Same H H') (pp : Paired (Pk q H) es cs) (h : ExIn H' e cf.1 [(cf.2, q)]) : Paired (Pk q H') (es ++ [e]) (cs ++ [cf]) :=
  paired_app (paired_mono (pk_mono sm) pp) (.cons h .nil)
theorem pkx_head {q : V} {H : Hp} {e : Addr} {es : List Addr} {cf : Addr × Str} {cs : List (Addr × Str)} (pp : Paired (Pk q H) (e :: es) (cf :: cs)) : ExIn H e cf.1 [(cf.2, q)] ∧ Paired (Pk q H) es cs := by
  cases pp with
  | cons x t => exact ⟨x, t⟩
theorem dp_bools {K : PySem.W.Frag} {H : Hp} : ∀ bs : List Bool, DpAll K H (bs.map V.bl) (bs.map PyData.bool)
  | [] => .nil
  | b :: r => .cons (.bl b) (dp_bools r)
theorem lay_bools : ∀ bs : List Bool, PyData.canLayAll0 (bs.map PyData.bool) = true
  | [] => rfl
  | b :: r => by
    show (PyData.canLay0 (.bool b) && PyData.canLayAll0 (r.map PyData.bool)) = true
    rw [lay_bools r]
    rfl
theorem depth_bools : ∀ bs : List Bool, PyData.depthAll (bs.map PyData.bool) ≤ 1
  | [] => by decide
  | b :: r => by
    show max (PyData.depth (.bool b)) (PyData.depthAll (r.map PyData.bool)) ≤ 1
    have := depth_bools r
    have e : PyData.depth (.bool b) = 0 ∨ PyData.depth (.bool b) = 1 := by first | exact .inl rfl | exact .inr rfl
    omega
theorem shaped_bools (bs : List Bool) : SeqAt.shaped (.list (bs.map PyData.bool)) = true := by
  unfold SeqAt.shaped
  rw [Bool.and_eq_true, decide_eq_true_eq]
  refine ⟨lay_bools bs, ?_⟩
  show PyData.depthAll (bs.map PyData.bool) + 1 ≤ 64
  have := depth_bools bs
  omega
theorem eqvA_bools : ∀ bs : List Bool, PyData.eqvAll (bs.map PyData.bool) (bs.map PyData.bool) = true
  | [] => rfl
  | b :: r => by
    show (PyData.eqv (.bool b) (.bool b) && PyData.eqvAll (r.map PyData.bool) (r.map PyData.bool)) = true
    rw [eqvA_bools r]
    cases b <;> rfl
theorem eqv_bools (bs : List Bool) : PyData.eqv (.list (bs.map PyData.bool)) (.list (bs.map PyData.bool)) = true := eqvA_bools bs
abbrev sEac : Stmt := top 47
abbrev sLaw : Stmt := top 48
abbrev sI0 : Stmt := inClass (top 2) 0
abbrev sI1 : Stmt := inClass (top 3) 0
abbrev sI2 : Stmt := inClass (top 4) 0
abbrev sI3 : Stmt := inClass (top 5) 0
abbrev sI4 : Stmt := inClass (top 6) 0
abbrev sI5 : Stmt := inClass (top 7) 0
abbrev sI6 : Stmt := inClass (top 8) 0
abbrev sI7 : Stmt := inClass (top 9) 0
abbrev sI8 : Stmt := inClass (top 10) 0
abbrev sI9 : Stmt := inClass (top 11) 0
abbrev sI10 : Stmt := inClass (top 12) 0
section
variable {P : Program} {w : World} {K : PySem.W.Frag} {mg : Str → Option Value} {base : Heap}
theorem scI0 : FnScope ["self", "place"] ["self", "place"] (defScope sI0) := ⟨rfl, rfl, rfl, by decide +kernel, rfl, by decide +kernel, by decide +kernel⟩
theorem ok_I0 {B nid iid : String} {tl : List Value} {f C : Addr} {fd : FuncData} (F : Fun K "__init__" "BadNet.__init__" sI0 f fd) (T : XT K B nid iid tl C) (free : PySem.W.findIn K (.ref C) "place" = some none) : FnOk P w K mg base CX0 1 f fd ["self", "place"] (spOne C "place") := by
  refine F.ok scI0 (fun vs H Q E h => ?_) (fun cdv A outer s H vs Q E hr h => ?_)
  · obtain ⟨a, v, rfl, _⟩ := h
    rfl
  · obtain ⟨a, v, rfl, ea, k⟩ := h
    exact ⟨_, pss_one (ps_fx (pv 0) (pv 1)), _, rfl, _, rfl, _, _, _, _, a, C, rfl, T, free, .inl ⟨ea, fun dx n ne => k dx n ne⟩⟩
theorem scI1 : FnScope ["self", "value"] ["self", "value"] (defScope sI1) := ⟨rfl, rfl, rfl, by decide +kernel, rfl, by decide +kernel, by decide +kernel⟩
theorem ok_I1 {B nid iid : String} {tl : List Value} {f C : Addr} {fd : FuncData} (F : Fun K "__init__" "BadNumber.__init__" sI1 f fd) (T : XT K B nid iid tl C) (free : PySem.W.findIn K (.ref C) "value" = some none) : FnOk P w K mg base CX0 1 f fd ["self", "value"] (spOne C "value") := by
  refine F.ok scI1 (fun vs H Q E h => ?_) (fun cdv A outer s H vs Q E hr h => ?_)
  · obtain ⟨a, v, rfl, _⟩ := h
    rfl
  · obtain ⟨a, v, rfl, ea, k⟩ := h
    exact ⟨_, pss_one (ps_fx (pv 0) (pv 1)), _, rfl, _, rfl, _, _, _, _, a, C, rfl, T, free, .inl ⟨ea, fun dx n ne => k dx n ne⟩⟩
theorem scI2 : FnScope ["self", "value"] ["self", "value"] (defScope sI2) := ⟨rfl, rfl, rfl, by decide +kernel, rfl, by decide +kernel, by decide +kernel⟩
theorem ok_I2 {B nid iid : String} {tl : List Value} {f C : Addr} {fd : FuncData} (F : Fun K "__init__" "BadRoad.__init__" sI2 f fd) (T : XT K B nid iid tl C) (free : PySem.W.findIn K (.ref C) "value" = some none) : FnOk P w K mg base CX0 1 f fd ["self", "value"] (spOne C "value") := by
  refine F.ok scI2 (fun vs H Q E h => ?_) (fun cdv A outer s H vs Q E hr h => ?_)
  · obtain ⟨a, v, rfl, _⟩ := h
    rfl
  · obtain ⟨a, v, rfl, ea, k⟩ := h
    exact ⟨_, pss_one (ps_fx (pv 0) (pv 1)), _, rfl, _, rfl, _, _, _, _, a, C, rfl, T, free, .inl ⟨ea, fun dx n ne => k dx n ne⟩⟩
theorem scI3 : FnScope ["self", "value"] ["self", "value"] (defScope sI3) := ⟨rfl, rfl, rfl, by decide +kernel, rfl, by decide +kernel, by decide +kernel⟩
theorem ok_I3 {B nid iid : String} {tl : List Value} {f C : Addr} {fd : FuncData} (F : Fun K "__init__" "BadHead.__init__" sI3 f fd) (T : XT K B nid iid tl C) (free : PySem.W.findIn K (.ref C) "value" = some none) : FnOk P w K mg base CX0 1 f fd ["self", "value"] (spOne C "value") := by
  refine F.ok scI3 (fun vs H Q E h => ?_) (fun cdv A outer s H vs Q E hr h => ?_)
  · obtain ⟨a, v, rfl, _⟩ := h
    rfl
  · obtain ⟨a, v, rfl, ea, k⟩ := h
    exact ⟨_, pss_one (ps_fx (pv 0) (pv 1)), _, rfl, _, rfl, _, _, _, _, a, C, rfl, T, free, .inl ⟨ea, fun dx n ne => k dx n ne⟩⟩
theorem scI4 : FnScope ["self", "value"] ["self", "value"] (defScope sI4) := ⟨rfl, rfl, rfl, by decide +kernel, rfl, by decide +kernel, by decide +kernel⟩
theorem ok_I4 {B nid iid : String} {tl : List Value} {f C : Addr} {fd : FuncData} (F : Fun K "__init__" "BadFailed.__init__" sI4 f fd) (T : XT K B nid iid tl C) (free : PySem.W.findIn K (.ref C) "value" = some none) : FnOk P w K mg base CX0 1 f fd ["self", "value"] (spOne C "value") := by
  refine F.ok scI4 (fun vs H Q E h => ?_) (fun cdv A outer s H vs Q E hr h => ?_)
  · obtain ⟨a, v, rfl, _⟩ := h
    rfl
  · obtain ⟨a, v, rfl, ea, k⟩ := h
    exact ⟨_, pss_one (ps_fx (pv 0) (pv 1)), _, rfl, _, rfl, _, _, _, _, a, C, rfl, T, free, .inl ⟨ea, fun dx n ne => k dx n ne⟩⟩
theorem scI5 : FnScope ["self", "value"] ["self", "value"] (defScope sI5) := ⟨rfl, rfl, rfl, by decide +kernel, rfl, by decide +kernel, by decide +kernel⟩
theorem ok_I5 {B nid iid : String} {tl : List Value} {f C : Addr} {fd : FuncData} (F : Fun K "__init__" "BadParcel.__init__" sI5 f fd) (T : XT K B nid iid tl C) (free : PySem.W.findIn K (.ref C) "value" = some none) : FnOk P w K mg base CX0 1 f fd ["self", "value"] (spOne C "value") := by
  refine F.ok scI5 (fun vs H Q E h => ?_) (fun cdv A outer s H vs Q E hr h => ?_)
  · obtain ⟨a, v, rfl, _⟩ := h
    rfl
  · obtain ⟨a, v, rfl, ea, k⟩ := h
    exact ⟨_, pss_one (ps_fx (pv 0) (pv 1)), _, rfl, _, rfl, _, _, _, _, a, C, rfl, T, free, .inl ⟨ea, fun dx n ne => k dx n ne⟩⟩
theorem scI6 : FnScope ["self", "place"] ["self", "place"] (defScope sI6) := ⟨rfl, rfl, rfl, by decide +kernel, rfl, by decide +kernel, by decide +kernel⟩
theorem ok_I6 {B nid iid : String} {tl : List Value} {f C : Addr} {fd : FuncData} (F : Fun K "__init__" "BadChoices.__init__" sI6 f fd) (T : XT K B nid iid tl C) (free : PySem.W.findIn K (.ref C) "place" = some none) : FnOk P w K mg base CX0 1 f fd ["self", "place"] (spOne C "place") := by
  refine F.ok scI6 (fun vs H Q E h => ?_) (fun cdv A outer s H vs Q E hr h => ?_)
  · obtain ⟨a, v, rfl, _⟩ := h
    rfl
  · obtain ⟨a, v, rfl, ea, k⟩ := h
    exact ⟨_, pss_one (ps_fx (pv 0) (pv 1)), _, rfl, _, rfl, _, _, _, _, a, C, rfl, T, free, .inl ⟨ea, fun dx n ne => k dx n ne⟩⟩
theorem scI7 : FnScope ["self", "value"] ["self", "value"] (defScope sI7) := ⟨rfl, rfl, rfl, by decide +kernel, rfl, by decide +kernel, by decide +kernel⟩
theorem ok_I7 {B nid iid : String} {tl : List Value} {f C : Addr} {fd : FuncData} (F : Fun K "__init__" "BadShape.__init__" sI7 f fd) (T : XT K B nid iid tl C) (free : PySem.W.findIn K (.ref C) "value" = some none) : FnOk P w K mg base CX0 1 f fd ["self", "value"] (spOne C "value") := by
  refine F.ok scI7 (fun vs H Q E h => ?_) (fun cdv A outer s H vs Q E hr h => ?_)
  · obtain ⟨a, v, rfl, _⟩ := h
    rfl
  · obtain ⟨a, v, rfl, ea, k⟩ := h
    exact ⟨_, pss_one (ps_fx (pv 0) (pv 1)), _, rfl, _, rfl, _, _, _, _, a, C, rfl, T, free, .inl ⟨ea, fun dx n ne => k dx n ne⟩⟩
theorem scI8 : FnScope ["self", "value"] ["self", "value"] (defScope sI8) := ⟨rfl, rfl, rfl, by decide +kernel, rfl, by decide +kernel, by decide +kernel⟩
theorem ok_I8 {B nid iid : String} {tl : List Value} {f C : Addr} {fd : FuncData} (F : Fun K "__init__" "BadGoal.__init__" sI8 f fd) (T : XT K B nid iid tl C) (free : PySem.W.findIn K (.ref C) "value" = some none) : FnOk P w K mg base CX0 1 f fd ["self", "value"] (spOne C "value") := by
  refine F.ok scI8 (fun vs H Q E h => ?_) (fun cdv A outer s H vs Q E hr h => ?_)
  · obtain ⟨a, v, rfl, _⟩ := h
    rfl
  · obtain ⟨a, v, rfl, ea, k⟩ := h
    exact ⟨_, pss_one (ps_fx (pv 0) (pv 1)), _, rfl, _, rfl, _, _, _, _, a, C, rfl, T, free, .inl ⟨ea, fun dx n ne => k dx n ne⟩⟩
theorem scI9 : FnScope ["self", "word"] ["self", "word"] (defScope sI9) := ⟨rfl, rfl, rfl, by decide +kernel, rfl, by decide +kernel, by decide +kernel⟩
theorem ok_I9 {B nid iid : String} {tl : List Value} {f C : Addr} {fd : FuncData} (F : Fun K "__init__" "BadPaper.__init__" sI9 f fd) (T : XT K B nid iid tl C) (free : PySem.W.findIn K (.ref C) "word" = some none) : FnOk P w K mg base CX0 1 f fd ["self", "word"] (spOne C "word") := by
  refine F.ok scI9 (fun vs H Q E h => ?_) (fun cdv A outer s H vs Q E hr h => ?_)
  · obtain ⟨a, v, rfl, _⟩ := h
    rfl
  · obtain ⟨a, v, rfl, ea, k⟩ := h
    exact ⟨_, pss_one (ps_fx (pv 0) (pv 1)), _, rfl, _, rfl, _, _, _, _, a, C, rfl, T, free, .inl ⟨ea, fun dx n ne => k dx n ne⟩⟩
theorem scI10 : FnScope ["self", "most"] ["self", "most"] (defScope sI10) := ⟨rfl, rfl, rfl, by decide +kernel, rfl, by decide +kernel, by decide +kernel⟩
theorem ok_I10 {B nid iid : String} {tl : List Value} {f C : Addr} {fd : FuncData} (F : Fun K "__init__" "TooGreat.__init__" sI10 f fd) (T : XT K B nid iid tl C) (free : PySem.W.findIn K (.ref C) "most" = some none) : FnOk P w K mg base CX0 1 f fd ["self", "most"] (spOne C "most") := by
  refine F.ok scI10 (fun vs H Q E h => ?_) (fun cdv A outer s H vs Q E hr h => ?_)
  · obtain ⟨a, v, rfl, _⟩ := h
    rfl
  · obtain ⟨a, v, rfl, ea, k⟩ := h
    exact ⟨_, pss_one (ps_fx (pv 0) (pv 1)), _, rfl, _, rfl, _, _, _, _, a, C, rfl, T, free, .inl ⟨ea, fun dx n ne => k dx n ne⟩⟩
end
/-- the eleven classes of one field -/
structure Elv (K : PySem.W.Frag) (mg : Str → Option Value) (cNE c0 c1 c2 c3 c4 c5 c6 c7 c8 c9 c10 f0 f1 f2 f3 f4 f5 f6 f7 f8 f9 f10 : Addr) (d0 d1 d2 d3 d4 d5 d6 d7 d8 d9 d10 : FuncData) : Prop where
  isi : mg "isinstance" = none
  rep : mg "repr" = none
  range : mg "range" = none
  enum : mg "enumerate" = none
  ve : mg "ValueError" = none
  oe : mg "OverflowError" = none
  gNE : mg "NetError" = some (.ref cNE)
  o0 : Own K mg "BadNet" "ValueError" "ValueError.__new__" "ValueError.__init__" PySem.HandSPX.veTail c0 f0 d0 ["self", "place"]
  r0 : PySem.W.findIn K (.ref c0) "place" = some none
  w0 : ∀ (s : Shared) (a : Value) (zs : List Value), K.In s.heap → (a :: zs).length = (["self", "place"] : List Str).length → BindsTo s d0 ⟨[a], (["place"] : List Str).zip zs⟩ ((["self", "place"] : List Str).zip (a :: zs))
  k0 : Kits K c0 [c0, c1, c2, c3, c4, c5, c6, c7, c8, c9, c10] [true, false, false, false, false, false, false, false, false, false, false]
  n0 : PySem.W.kitOne K (.ref c0) (.ref cNE) = some true
  v0 : PySem.W.kitOne K (.ref c0) (.type "ValueError") = some true
  y0 : PySem.W.kitOne K (.ref c0) (.type "OverflowError") = some false
  o1 : Own K mg "BadNumber" "ValueError" "ValueError.__new__" "ValueError.__init__" PySem.HandSPX.veTail c1 f1 d1 ["self", "value"]
  r1 : PySem.W.findIn K (.ref c1) "value" = some none
  w1 : ∀ (s : Shared) (a : Value) (zs : List Value), K.In s.heap → (a :: zs).length = (["self", "value"] : List Str).length → BindsTo s d1 ⟨[a], (["value"] : List Str).zip zs⟩ ((["self", "value"] : List Str).zip (a :: zs))
  k1 : Kits K c1 [c0, c1, c2, c3, c4, c5, c6, c7, c8, c9, c10] [false, true, false, false, false, false, false, false, false, false, false]
  n1 : PySem.W.kitOne K (.ref c1) (.ref cNE) = some true
  v1 : PySem.W.kitOne K (.ref c1) (.type "ValueError") = some true
  y1 : PySem.W.kitOne K (.ref c1) (.type "OverflowError") = some false
  o2 : Own K mg "BadRoad" "ValueError" "ValueError.__new__" "ValueError.__init__" PySem.HandSPX.veTail c2 f2 d2 ["self", "value"]
  r2 : PySem.W.findIn K (.ref c2) "value" = some none
  w2 : ∀ (s : Shared) (a : Value) (zs : List Value), K.In s.heap → (a :: zs).length = (["self", "value"] : List Str).length → BindsTo s d2 ⟨[a], (["value"] : List Str).zip zs⟩ ((["self", "value"] : List Str).zip (a :: zs))
  k2 : Kits K c2 [c0, c1, c2, c3, c4, c5, c6, c7, c8, c9, c10] [false, false, true, false, false, false, false, false, false, false, false]
  n2 : PySem.W.kitOne K (.ref c2) (.ref cNE) = some true
  v2 : PySem.W.kitOne K (.ref c2) (.type "ValueError") = some true
  y2 : PySem.W.kitOne K (.ref c2) (.type "OverflowError") = some false
  o3 : Own K mg "BadHead" "ValueError" "ValueError.__new__" "ValueError.__init__" PySem.HandSPX.veTail c3 f3 d3 ["self", "value"]
  r3 : PySem.W.findIn K (.ref c3) "value" = some none
  w3 : ∀ (s : Shared) (a : Value) (zs : List Value), K.In s.heap → (a :: zs).length = (["self", "value"] : List Str).length → BindsTo s d3 ⟨[a], (["value"] : List Str).zip zs⟩ ((["self", "value"] : List Str).zip (a :: zs))
  k3 : Kits K c3 [c0, c1, c2, c3, c4, c5, c6, c7, c8, c9, c10] [false, false, false, true, false, false, false, false, false, false, false]
  n3 : PySem.W.kitOne K (.ref c3) (.ref cNE) = some true
  v3 : PySem.W.kitOne K (.ref c3) (.type "ValueError") = some true
  y3 : PySem.W.kitOne K (.ref c3) (.type "OverflowError") = some false
  o4 : Own K mg "BadFailed" "ValueError" "ValueError.__new__" "ValueError.__init__" PySem.HandSPX.veTail c4 f4 d4 ["self", "value"]
  r4 : PySem.W.findIn K (.ref c4) "value" = some none
  w4 : ∀ (s : Shared) (a : Value) (zs : List Value), K.In s.heap → (a :: zs).length = (["self", "value"] : List Str).length → BindsTo s d4 ⟨[a], (["value"] : List Str).zip zs⟩ ((["self", "value"] : List Str).zip (a :: zs))
  k4 : Kits K c4 [c0, c1, c2, c3, c4, c5, c6, c7, c8, c9, c10] [false, false, false, false, true, false, false, false, false, false, false]
  n4 : PySem.W.kitOne K (.ref c4) (.ref cNE) = some true
  v4 : PySem.W.kitOne K (.ref c4) (.type "ValueError") = some true
  y4 : PySem.W.kitOne K (.ref c4) (.type "OverflowError") = some false
  o5 : Own K mg "BadParcel" "ValueError" "ValueError.__new__" "ValueError.__init__" PySem.HandSPX.veTail c5 f5 d5 ["self", "value"]
  r5 : PySem.W.findIn K (.ref c5) "value" = some none
  w5 : ∀ (s : Shared) (a : Value) (zs : List Value), K.In s.heap → (a :: zs).length = (["self", "value"] : List Str).length → BindsTo s d5 ⟨[a], (["value"] : List Str).zip zs⟩ ((["self", "value"] : List Str).zip (a :: zs))
  k5 : Kits K c5 [c0, c1, c2, c3, c4, c5, c6, c7, c8, c9, c10] [false, false, false, false, false, true, false, false, false, false, false]
  n5 : PySem.W.kitOne K (.ref c5) (.ref cNE) = some true
  v5 : PySem.W.kitOne K (.ref c5) (.type "ValueError") = some true
  y5 : PySem.W.kitOne K (.ref c5) (.type "OverflowError") = some false
  o6 : Own K mg "BadChoices" "ValueError" "ValueError.__new__" "ValueError.__init__" PySem.HandSPX.veTail c6 f6 d6 ["self", "place"]
  r6 : PySem.W.findIn K (.ref c6) "place" = some none
  w6 : ∀ (s : Shared) (a : Value) (zs : List Value), K.In s.heap → (a :: zs).length = (["self", "place"] : List Str).length → BindsTo s d6 ⟨[a], (["place"] : List Str).zip zs⟩ ((["self", "place"] : List Str).zip (a :: zs))
  k6 : Kits K c6 [c0, c1, c2, c3, c4, c5, c6, c7, c8, c9, c10] [false, false, false, false, false, false, true, false, false, false, false]
  n6 : PySem.W.kitOne K (.ref c6) (.ref cNE) = some true
  v6 : PySem.W.kitOne K (.ref c6) (.type "ValueError") = some true
  y6 : PySem.W.kitOne K (.ref c6) (.type "OverflowError") = some false
  o7 : Own K mg "BadShape" "ValueError" "ValueError.__new__" "ValueError.__init__" PySem.HandSPX.veTail c7 f7 d7 ["self", "value"]
  r7 : PySem.W.findIn K (.ref c7) "value" = some none
  w7 : ∀ (s : Shared) (a : Value) (zs : List Value), K.In s.heap → (a :: zs).length = (["self", "value"] : List Str).length → BindsTo s d7 ⟨[a], (["value"] : List Str).zip zs⟩ ((["self", "value"] : List Str).zip (a :: zs))
  k7 : Kits K c7 [c0, c1, c2, c3, c4, c5, c6, c7, c8, c9, c10] [false, false, false, false, false, false, false, true, false, false, false]
  n7 : PySem.W.kitOne K (.ref c7) (.ref cNE) = some true
  v7 : PySem.W.kitOne K (.ref c7) (.type "ValueError") = some true
  y7 : PySem.W.kitOne K (.ref c7) (.type "OverflowError") = some false
  o8 : Own K mg "BadGoal" "ValueError" "ValueError.__new__" "ValueError.__init__" PySem.HandSPX.veTail c8 f8 d8 ["self", "value"]
  r8 : PySem.W.findIn K (.ref c8) "value" = some none
  w8 : ∀ (s : Shared) (a : Value) (zs : List Value), K.In s.heap → (a :: zs).length = (["self", "value"] : List Str).length → BindsTo s d8 ⟨[a], (["value"] : List Str).zip zs⟩ ((["self", "value"] : List Str).zip (a :: zs))
  k8 : Kits K c8 [c0, c1, c2, c3, c4, c5, c6, c7, c8, c9, c10] [false, false, false, false, false, false, false, false, true, false, false]
  n8 : PySem.W.kitOne K (.ref c8) (.ref cNE) = some true
  v8 : PySem.W.kitOne K (.ref c8) (.type "ValueError") = some true
  y8 : PySem.W.kitOne K (.ref c8) (.type "OverflowError") = some false
  o9 : Own K mg "BadPaper" "ValueError" "ValueError.__new__" "ValueError.__init__" PySem.HandSPX.veTail c9 f9 d9 ["self", "word"]
  r9 : PySem.W.findIn K (.ref c9) "word" = some none
  w9 : ∀ (s : Shared) (a : Value) (zs : List Value), K.In s.heap → (a :: zs).length = (["self", "word"] : List Str).length → BindsTo s d9 ⟨[a], (["word"] : List Str).zip zs⟩ ((["self", "word"] : List Str).zip (a :: zs))
  k9 : Kits K c9 [c0, c1, c2, c3, c4, c5, c6, c7, c8, c9, c10] [false, false, false, false, false, false, false, false, false, true, false]
  n9 : PySem.W.kitOne K (.ref c9) (.ref cNE) = some true
  v9 : PySem.W.kitOne K (.ref c9) (.type "ValueError") = some true
  y9 : PySem.W.kitOne K (.ref c9) (.type "OverflowError") = some false
  o10 : Own K mg "TooGreat" "OverflowError" "OverflowError.__new__" "OverflowError.__init__" [.type "OverflowError", .type "ArithmeticError", .type "Exception", .type "BaseException", .type "object"] c10 f10 d10 ["self", "most"]
  r10 : PySem.W.findIn K (.ref c10) "most" = some none
  w10 : ∀ (s : Shared) (a : Value) (zs : List Value), K.In s.heap → (a :: zs).length = (["self", "most"] : List Str).length → BindsTo s d10 ⟨[a], (["most"] : List Str).zip zs⟩ ((["self", "most"] : List Str).zip (a :: zs))
  k10 : Kits K c10 [c0, c1, c2, c3, c4, c5, c6, c7, c8, c9, c10] [false, false, false, false, false, false, false, false, false, false, true]
  n10 : PySem.W.kitOne K (.ref c10) (.ref cNE) = some false
  v10 : PySem.W.kitOne K (.ref c10) (.type "ValueError") = some false
  y10 : PySem.W.kitOne K (.ref c10) (.type "OverflowError") = some true
structure ElvOk (P : Program) (w : World) (K : PySem.W.Frag) (mg : Str → Option Value) (base : Heap) (c0 c1 c2 c3 c4 c5 c6 c7 c8 c9 c10 f0 f1 f2 f3 f4 f5 f6 f7 f8 f9 f10 : Addr) (d0 d1 d2 d3 d4 d5 d6 d7 d8 d9 d10 : FuncData) : Prop where
  g0 : FnOk P w K mg base CX0 1 f0 d0 ["self", "place"] (spOne c0 "place")
  g1 : FnOk P w K mg base CX0 1 f1 d1 ["self", "value"] (spOne c1 "value")
  g2 : FnOk P w K mg base CX0 1 f2 d2 ["self", "value"] (spOne c2 "value")
  g3 : FnOk P w K mg base CX0 1 f3 d3 ["self", "value"] (spOne c3 "value")
  g4 : FnOk P w K mg base CX0 1 f4 d4 ["self", "value"] (spOne c4 "value")
  g5 : FnOk P w K mg base CX0 1 f5 d5 ["self", "value"] (spOne c5 "value")
  g6 : FnOk P w K mg base CX0 1 f6 d6 ["self", "place"] (spOne c6 "place")
  g7 : FnOk P w K mg base CX0 1 f7 d7 ["self", "value"] (spOne c7 "value")
  g8 : FnOk P w K mg base CX0 1 f8 d8 ["self", "value"] (spOne c8 "value")
  g9 : FnOk P w K mg base CX0 1 f9 d9 ["self", "word"] (spOne c9 "word")
  g10 : FnOk P w K mg base CX0 1 f10 d10 ["self", "most"] (spOne c10 "most")
def spEac (K : PySem.W.Frag) : Sp := fun vs H Q _ => ∃ (q : V) (d : PyData), vs = [q] ∧ Da K H true q d ∧ fine d = true ∧ ∀ H', Same H H' → Q (.bl true) H'
section
variable {P : Program} {w : World} {K : PySem.W.Frag} {mg : Str → Option Value} {base : Heap}
theorem scEac : FnScope ["q", "pack", "heard", "one", "at", "known", "kinds_so", "k"] ["q"] (defScope sEac) := ⟨rfl, rfl, rfl, by decide +kernel, rfl, by decide +kernel, by decide +kernel⟩
theorem ok_eac {f cNE c0 c1 c2 c3 c4 c5 c6 c7 c8 c9 c10 f0 f1 f2 f3 f4 f5 f6 f7 f8 f9 f10 : Addr} {d0 d1 d2 d3 d4 d5 d6 d7 d8 d9 d10 fd : FuncData} (F : Fun K "_law_each_right" "_law_each_right" sEac f fd) (T : Elv K mg cNE c0 c1 c2 c3 c4 c5 c6 c7 c8 c9 c10 f0 f1 f2 f3 f4 f5 f6 f7 f8 f9 f10 d0 d1 d2 d3 d4 d5 d6 d7 d8 d9 d10) (G : ElvOk P w K mg base c0 c1 c2 c3 c4 c5 c6 c7 c8 c9 c10 f0 f1 f2 f3 f4 f5 f6 f7 f8 f9 f10 d0 d1 d2 d3 d4 d5 d6 d7 d8 d9 d10) :
    FnG P w K mg base CX0 3 f fd ["q"] (spEac K) := by
  refine Fun.okG F scEac (fun vs H Q E h => ?_) (fun cdv A outer s H vs Q E gd hr h => ?_)
  · obtain ⟨q, d, rfl, _⟩ := h
    rfl
  · obtain ⟨q, d, rfl, dq, fd_, k⟩ := h
    have hr2 : Room 2 (A.deeper (envOfC "_law_each_right" (defScope sEac) s.heap.objs.size f cdv)) := hr
    have hu : (A.deeper (envOfC "_law_each_right" (defScope sEac) s.heap.objs.size f cdv)).units + 100 < cLine := by
      have z := hr.un
      omega
    have hu64 := hr2.units
    have gd2 : (A.deeper (envOfC "_law_each_right" (defScope sEac) s.heap.objs.size f cdv)).guards = some [] := gd
    refine ⟨_, pss_cons (ps_set (i := 1) scEac.nd rfl (.inr rfl) (pe_lst (pa_cons (pe_mkx T.o0.x T.o0.i T.o0.t G.g0 hr2 T.o0.b pass0 (by rfl) T.o0.g (pa_cons (pv 0) pa_nil)) (pa_cons (pe_mkx T.o1.x T.o1.i T.o1.t G.g1 hr2 T.o1.b pass0 (by rfl) T.o1.g (pa_cons (pv 0) pa_nil)) (pa_cons (pe_mkx T.o2.x T.o2.i T.o2.t G.g2 hr2 T.o2.b pass0 (by rfl) T.o2.g (pa_cons (pv 0) pa_nil)) (pa_cons (pe_mkx T.o3.x T.o3.i T.o3.t G.g3 hr2 T.o3.b pass0 (by rfl) T.o3.g (pa_cons (pv 0) pa_nil)) (pa_cons (pe_mkx T.o4.x T.o4.i T.o4.t G.g4 hr2 T.o4.b pass0 (by rfl) T.o4.g (pa_cons (pv 0) pa_nil)) (pa_cons (pe_mkx T.o5.x T.o5.i T.o5.t G.g5 hr2 T.o5.b pass0 (by rfl) T.o5.g (pa_cons (pv 0) pa_nil)) (pa_cons (pe_mkx T.o6.x T.o6.i T.o6.t G.g6 hr2 T.o6.b pass0 (by rfl) T.o6.g (pa_cons (pv 0) pa_nil)) (pa_cons (pe_mkx T.o7.x T.o7.i T.o7.t G.g7 hr2 T.o7.b pass0 (by rfl) T.o7.g (pa_cons (pv 0) pa_nil)) pa_nil))))))))))
      (pss_cons (ps_set (i := 1) scEac.nd rfl (.inr rfl) (pe_op op_cat (pv 1) (pe_lst (pa_cons (pe_mkx T.o8.x T.o8.i T.o8.t G.g8 hr2 T.o8.b pass0 (by rfl) T.o8.g (pa_cons (pv 0) pa_nil)) (pa_cons (pe_mkx T.o9.x T.o9.i T.o9.t G.g9 hr2 T.o9.b pass0 (by rfl) T.o9.g (pa_cons (pv 0) pa_nil)) (pa_cons (pe_mkx T.o10.x T.o10.i T.o10.t G.g10 hr2 T.o10.b pass0 (by rfl) T.o10.g (pa_cons (pv 0) pa_nil)) pa_nil))))))
      (pss_cons (ps_set (i := 2) scEac.nd rfl (.inl rfl) (pe_lst (pa_cons (pe_ya (pe_ix ix_list (pv 1) pe_int (fun _ _ => rfl))) (pa_cons (pe_ya (pe_ix ix_list (pv 1) pe_int (fun _ _ => rfl))) (pa_cons (pe_ya (pe_ix ix_list (pv 1) pe_int (fun _ _ => rfl))) (pa_cons (pe_ya (pe_ix ix_list (pv 1) pe_int (fun _ _ => rfl))) (pa_cons (pe_ya (pe_mkxK (f := "place") (ks := ["place"]) T.o0.x T.o0.i T.o0.t G.g0 hr2 pass0 (by rfl) T.o0.g (fun zs => zs) (fun zs => zs) T.w0 (fun r => r) (pk_cons (pv 0) pk_nil))) (pa_cons (pe_ya (pe_mkxK (f := "value") (ks := ["value"]) T.o1.x T.o1.i T.o1.t G.g1 hr2 pass0 (by rfl) T.o1.g (fun zs => zs) (fun zs => zs) T.w1 (fun r => r) (pk_cons (pv 0) pk_nil))) pa_nil))))))))
      (pss_cons (ps_set (i := 2) scEac.nd rfl (.inl rfl) (pe_op op_cat (pe_op op_cat (pv 2) (pe_lc (own := [("k", 7)]) (g := gName 7) (tt := tYes) (te := tYa K "value" (tOp (rIxL K) (tVar 1) (tVar 7))) rfl scEac.nd (pi_tup (pe_tup (pa_cons pe_int (pa_cons pe_int (pa_cons pe_int (pa_cons pe_int (pa_cons pe_int (pa_cons pe_int (pa_cons pe_int pa_nil))))))))) (blkOk_by (N := ["q", "pack", "heard", "one", "at", "known", "kinds_so", "k"]) (sc := defScope sEac) (by decide +kernel)) (fun _ _ _ _ _ => pg_name (i := 7) scEac.nd rfl (.inl rfl)) (fun _ _ _ _ _ => pts_nil) (fun _ _ _ _ _ => pe_ya (pe_ix ix_list (pv 1) (pv 7) (fun _ _ => rfl))))) (pe_lst (pa_cons (pe_ya (pe_mkxK (f := "value") (ks := ["value"]) T.o2.x T.o2.i T.o2.t G.g2 hr2 pass0 (by rfl) T.o2.g (fun zs => zs) (fun zs => zs) T.w2 (fun r => r) (pk_cons (pv 0) pk_nil))) (pa_cons (pe_ya (pe_mkxK (f := "value") (ks := ["value"]) T.o3.x T.o3.i T.o3.t G.g3 hr2 pass0 (by rfl) T.o3.g (fun zs => zs) (fun zs => zs) T.w3 (fun r => r) (pk_cons (pv 0) pk_nil))) pa_nil)))))
      (pss_cons (ps_set (i := 2) scEac.nd rfl (.inl rfl) (pe_op op_cat (pv 2) (pe_lst (pa_cons (pe_ya (pe_mkxK (f := "value") (ks := ["value"]) T.o4.x T.o4.i T.o4.t G.g4 hr2 pass0 (by rfl) T.o4.g (fun zs => zs) (fun zs => zs) T.w4 (fun r => r) (pk_cons (pv 0) pk_nil))) (pa_cons (pe_ya (pe_mkxK (f := "value") (ks := ["value"]) T.o5.x T.o5.i T.o5.t G.g5 hr2 pass0 (by rfl) T.o5.g (fun zs => zs) (fun zs => zs) T.w5 (fun r => r) (pk_cons (pv 0) pk_nil))) (pa_cons (pe_ya (pe_mkxK (f := "place") (ks := ["place"]) T.o6.x T.o6.i T.o6.t G.g6 hr2 pass0 (by rfl) T.o6.g (fun zs => zs) (fun zs => zs) T.w6 (fun r => r) (pk_cons (pv 0) pk_nil))) pa_nil))))))
      (pss_cons (ps_set (i := 2) scEac.nd rfl (.inl rfl) (pe_op op_cat (pv 2) (pe_lst (pa_cons (pe_ya (pe_mkxK (f := "value") (ks := ["value"]) T.o7.x T.o7.i T.o7.t G.g7 hr2 pass0 (by rfl) T.o7.g (fun zs => zs) (fun zs => zs) T.w7 (fun r => r) (pk_cons (pv 0) pk_nil))) (pa_cons (pe_ya (pe_mkxK (f := "value") (ks := ["value"]) T.o8.x T.o8.i T.o8.t G.g8 hr2 pass0 (by rfl) T.o8.g (fun zs => zs) (fun zs => zs) T.w8 (fun r => r) (pk_cons (pv 0) pk_nil))) (pa_cons (pe_ya (pe_mkxK (f := "word") (ks := ["word"]) T.o9.x T.o9.i T.o9.t G.g9 hr2 pass0 (by rfl) T.o9.g (fun zs => zs) (fun zs => zs) T.w9 (fun r => r) (pk_cons (pv 0) pk_nil))) (pa_cons (pe_ya (pe_mkxK (f := "most") (ks := ["most"]) T.o10.x T.o10.i T.o10.t G.g10 hr2 pass0 (by rfl) T.o10.g (fun zs => zs) (fun zs => zs) T.w10 (fun r => r) (pk_cons (pv 0) pk_nil))) pa_nil)))))))
      (pss_cons (ps_if (pt_cmpR (op_neD hu64) (pe_lc (own := [("one", 3)]) (g := gName 3) (tt := tTest (tOp rNe (tCB (rRepr K) (tCons (tVar 3) tNil)) (tCB (rRepr K) (tCons (tVar 0) tNil)))) rfl scEac.nd (pi_list (pv 2)) (blkOk_by (N := ["q", "pack", "heard", "one", "at", "known", "kinds_so", "k"]) (sc := defScope sEac) (by decide +kernel)) (fun _ _ _ _ _ => pg_name (i := 3) scEac.nd rfl (.inl rfl)) (fun _ _ _ _ _ => pts_one (pt_cmpR op_ne (pe_callB (call_repr gd2 hu) (by rfl) T.rep (by decide +kernel) (pa_cons (pv 3) pa_nil)) (pe_callB (call_repr gd2 hu) (by rfl) T.rep (by decide +kernel) (pa_cons (pv 0) pa_nil)) (nomark _))) (fun _ _ _ _ _ => pv 3)) (pe_lst pa_nil) (nomark _)) (pss_one (ps_ret pe_bl)) pss_nil)
      (pss_cons (ps_for PassesOwn.never rfl (pi_enum (by rfl) T.enum (pa_cons (pv 1) pa_nil)) (pg_tup (by rfl) (pgs_cons (pg_name (i := 4) scEac.nd rfl (.inr rfl)) (pgs_cons (pg_name (i := 3) scEac.nd rfl (.inl rfl)) pgs_nil)))
        (pss_cons (ps_set (i := 5) scEac.nd rfl (.inl rfl) (pe_lst (pa_cons (pe_callB call_isY (by rfl) T.isi (by decide +kernel) (pa_cons (pv 3) (pa_cons (pe_glob (v := V.ref c0) (by rfl) T.o0.g rfl) pa_nil))) (pa_cons (pe_callB call_isY (by rfl) T.isi (by decide +kernel) (pa_cons (pv 3) (pa_cons (pe_glob (v := V.ref c1) (by rfl) T.o1.g rfl) pa_nil))) (pa_cons (pe_callB call_isY (by rfl) T.isi (by decide +kernel) (pa_cons (pv 3) (pa_cons (pe_glob (v := V.ref c2) (by rfl) T.o2.g rfl) pa_nil))) pa_nil)))))
        (pss_cons (ps_set (i := 5) scEac.nd rfl (.inl rfl) (pe_op op_cat (pv 5) (pe_lst (pa_cons (pe_callB call_isY (by rfl) T.isi (by decide +kernel) (pa_cons (pv 3) (pa_cons (pe_glob (v := V.ref c3) (by rfl) T.o3.g rfl) pa_nil))) (pa_cons (pe_callB call_isY (by rfl) T.isi (by decide +kernel) (pa_cons (pv 3) (pa_cons (pe_glob (v := V.ref c4) (by rfl) T.o4.g rfl) pa_nil))) (pa_cons (pe_callB call_isY (by rfl) T.isi (by decide +kernel) (pa_cons (pv 3) (pa_cons (pe_glob (v := V.ref c5) (by rfl) T.o5.g rfl) pa_nil))) pa_nil))))))
        (pss_cons (ps_expr (pe_bm PySem.F.plainAttrs_list PySem.F.slot_list_append PySem.F.type_list_append mt_append (pv 5) (pa_cons (pe_callB call_isY (by rfl) T.isi (by decide +kernel) (pa_cons (pv 3) (pa_cons (pe_glob (v := V.ref c6) (by rfl) T.o6.g rfl) pa_nil))) pa_nil)))
        (pss_cons (ps_set (i := 5) scEac.nd rfl (.inl rfl) (pe_op op_cat (pv 5) (pe_lst (pa_cons (pe_callB call_isY (by rfl) T.isi (by decide +kernel) (pa_cons (pv 3) (pa_cons (pe_glob (v := V.ref c7) (by rfl) T.o7.g rfl) pa_nil))) (pa_cons (pe_callB call_isY (by rfl) T.isi (by decide +kernel) (pa_cons (pv 3) (pa_cons (pe_glob (v := V.ref c8) (by rfl) T.o8.g rfl) pa_nil))) (pa_cons (pe_callB call_isY (by rfl) T.isi (by decide +kernel) (pa_cons (pv 3) (pa_cons (pe_glob (v := V.ref c9) (by rfl) T.o9.g rfl) pa_nil))) pa_nil))))))
        (pss_cons (ps_if (pt_cmpR (op_neD hu64) (pe_op op_cat (pv 5) (pe_lst (pa_cons (pe_callB call_isY (by rfl) T.isi (by decide +kernel) (pa_cons (pv 3) (pa_cons (pe_glob (v := V.ref c10) (by rfl) T.o10.g rfl) pa_nil))) pa_nil))) (pe_lc (own := [("k", 7)]) (g := gName 7) (tt := tYes) rfl scEac.nd (pi_range1 (by rfl) T.range (pa_cons pe_int pa_nil)) (blkOk_by (N := ["q", "pack", "heard", "one", "at", "known", "kinds_so", "k"]) (sc := defScope sEac) (by decide +kernel)) (fun _ _ _ _ _ => pg_name (i := 7) scEac.nd rfl (.inl rfl)) (fun _ _ _ _ _ => pts_nil) (fun _ _ _ _ _ => pe_cmpR op_eq (pv 7) (pv 4) (nomark _))) (nomark _)) (pss_one (ps_ret pe_bl)) pss_nil)
        (pss_cons (ps_set (i := 6) scEac.nd rfl (.inl rfl) (pe_lst (pa_cons (pe_callB call_isY (by rfl) T.isi (by decide +kernel) (pa_cons (pv 3) (pa_cons (pe_glob (v := V.ref cNE) (by rfl) T.gNE rfl) pa_nil))) (pa_cons (pe_callB call_isY (by rfl) T.isi (by decide +kernel) (pa_cons (pv 3) (pa_cons (pe_bltn (v := V.ty "ValueError") (by rfl) T.ve (by decide +kernel) rfl) pa_nil))) (pa_cons (pe_callB call_isY (by rfl) T.isi (by decide +kernel) (pa_cons (pv 3) (pa_cons (pe_bltn (v := V.ty "OverflowError") (by rfl) T.oe (by decide +kernel) rfl) pa_nil))) pa_nil)))))
        (pss_one (ps_if (pt_cmpR (op_neD hu64) (pv 6) (pe_lst (pa_cons (pe_cmpR op_lt (pv 4) pe_int (nomark _)) (pa_cons (pe_cmpR op_lt (pv 4) pe_int (nomark _)) (pa_cons (pe_cmpR op_eq (pv 4) pe_int (nomark _)) pa_nil)))) (nomark _)) (pss_one (ps_ret pe_bl)) pss_nil)))))))))
      (pss_one (ps_ret pe_bl))))))))), ?_⟩
    have sm0 : Same H H := Same.refl H
    have pp0 : Paired (Pk q H) [] [] := .nil
    refine ⟨_, rfl, by show 1 ≤ 1000; decide, fun e0 ne0 => ⟨e0, q, rfl, upd_same, fun x0 nx0 nn0 => ⟨rfl, ?_⟩⟩⟩
    have sm1 : Same H (upd (upd (upd H e0 (exo e0 c0 none)) x0 (exd x0 [("place", q)])) e0 (exo e0 c0 (some x0))) := sm0.trans (made_same ne0 nx0)
    have pp1 : Paired (Pk q (upd (upd (upd H e0 (exo e0 c0 none)) x0 (exd x0 [("place", q)])) e0 (exo e0 c0 (some x0)))) ([] ++ [e0]) ([] ++ [(c0, ("place" : Str))]) := pk_snoc (made_same ne0 nx0) pp0 (made_at nn0)
    revert sm1 pp1
    generalize upd (upd (upd H e0 (exo e0 c0 none)) x0 (exd x0 [("place", q)])) e0 (exo e0 c0 (some x0)) = H1
    intro sm1 pp1
    refine ⟨_, rfl, by show 1 ≤ 1000; decide, fun e1 ne1 => ⟨e1, q, rfl, upd_same, fun x1 nx1 nn1 => ⟨rfl, ?_⟩⟩⟩
    have sm2 : Same H (upd (upd (upd H1 e1 (exo e1 c1 none)) x1 (exd x1 [("value", q)])) e1 (exo e1 c1 (some x1))) := sm1.trans (made_same ne1 nx1)
    have pp2 : Paired (Pk q (upd (upd (upd H1 e1 (exo e1 c1 none)) x1 (exd x1 [("value", q)])) e1 (exo e1 c1 (some x1)))) ([e0] ++ [e1]) ([(c0, ("place" : Str))] ++ [(c1, ("value" : Str))]) := pk_snoc (made_same ne1 nx1) pp1 (made_at nn1)
    revert sm2 pp2
    generalize upd (upd (upd H1 e1 (exo e1 c1 none)) x1 (exd x1 [("value", q)])) e1 (exo e1 c1 (some x1)) = H2
    intro sm2 pp2
    refine ⟨_, rfl, by show 1 ≤ 1000; decide, fun e2 ne2 => ⟨e2, q, rfl, upd_same, fun x2 nx2 nn2 => ⟨rfl, ?_⟩⟩⟩
    have sm3 : Same H (upd (upd (upd H2 e2 (exo e2 c2 none)) x2 (exd x2 [("value", q)])) e2 (exo e2 c2 (some x2))) := sm2.trans (made_same ne2 nx2)
    have pp3 : Paired (Pk q (upd (upd (upd H2 e2 (exo e2 c2 none)) x2 (exd x2 [("value", q)])) e2 (exo e2 c2 (some x2)))) ([e0, e1] ++ [e2]) ([(c0, ("place" : Str)), (c1, ("value" : Str))] ++ [(c2, ("value" : Str))]) := pk_snoc (made_same ne2 nx2) pp2 (made_at nn2)
    revert sm3 pp3
    generalize upd (upd (upd H2 e2 (exo e2 c2 none)) x2 (exd x2 [("value", q)])) e2 (exo e2 c2 (some x2)) = H3
    intro sm3 pp3
    refine ⟨_, rfl, by show 1 ≤ 1000; decide, fun e3 ne3 => ⟨e3, q, rfl, upd_same, fun x3 nx3 nn3 => ⟨rfl, ?_⟩⟩⟩
    have sm4 : Same H (upd (upd (upd H3 e3 (exo e3 c3 none)) x3 (exd x3 [("value", q)])) e3 (exo e3 c3 (some x3))) := sm3.trans (made_same ne3 nx3)
    have pp4 : Paired (Pk q (upd (upd (upd H3 e3 (exo e3 c3 none)) x3 (exd x3 [("value", q)])) e3 (exo e3 c3 (some x3)))) ([e0, e1, e2] ++ [e3]) ([(c0, ("place" : Str)), (c1, ("value" : Str)), (c2, ("value" : Str))] ++ [(c3, ("value" : Str))]) := pk_snoc (made_same ne3 nx3) pp3 (made_at nn3)
    revert sm4 pp4
    generalize upd (upd (upd H3 e3 (exo e3 c3 none)) x3 (exd x3 [("value", q)])) e3 (exo e3 c3 (some x3)) = H4
    intro sm4 pp4
    refine ⟨_, rfl, by show 1 ≤ 1000; decide, fun e4 ne4 => ⟨e4, q, rfl, upd_same, fun x4 nx4 nn4 => ⟨rfl, ?_⟩⟩⟩
    have sm5 : Same H (upd (upd (upd H4 e4 (exo e4 c4 none)) x4 (exd x4 [("value", q)])) e4 (exo e4 c4 (some x4))) := sm4.trans (made_same ne4 nx4)
    have pp5 : Paired (Pk q (upd (upd (upd H4 e4 (exo e4 c4 none)) x4 (exd x4 [("value", q)])) e4 (exo e4 c4 (some x4)))) ([e0, e1, e2, e3] ++ [e4]) ([(c0, ("place" : Str)), (c1, ("value" : Str)), (c2, ("value" : Str)), (c3, ("value" : Str))] ++ [(c4, ("value" : Str))]) := pk_snoc (made_same ne4 nx4) pp4 (made_at nn4)
    revert sm5 pp5
    generalize upd (upd (upd H4 e4 (exo e4 c4 none)) x4 (exd x4 [("value", q)])) e4 (exo e4 c4 (some x4)) = H5
    intro sm5 pp5
    refine ⟨_, rfl, by show 1 ≤ 1000; decide, fun e5 ne5 => ⟨e5, q, rfl, upd_same, fun x5 nx5 nn5 => ⟨rfl, ?_⟩⟩⟩
    have sm6 : Same H (upd (upd (upd H5 e5 (exo e5 c5 none)) x5 (exd x5 [("value", q)])) e5 (exo e5 c5 (some x5))) := sm5.trans (made_same ne5 nx5)
    have pp6 : Paired (Pk q (upd (upd (upd H5 e5 (exo e5 c5 none)) x5 (exd x5 [("value", q)])) e5 (exo e5 c5 (some x5)))) ([e0, e1, e2, e3, e4] ++ [e5]) ([(c0, ("place" : Str)), (c1, ("value" : Str)), (c2, ("value" : Str)), (c3, ("value" : Str)), (c4, ("value" : Str))] ++ [(c5, ("value" : Str))]) := pk_snoc (made_same ne5 nx5) pp5 (made_at nn5)
    revert sm6 pp6
    generalize upd (upd (upd H5 e5 (exo e5 c5 none)) x5 (exd x5 [("value", q)])) e5 (exo e5 c5 (some x5)) = H6
    intro sm6 pp6
    refine ⟨_, rfl, by show 1 ≤ 1000; decide, fun e6 ne6 => ⟨e6, q, rfl, upd_same, fun x6 nx6 nn6 => ⟨rfl, ?_⟩⟩⟩
    have sm7 : Same H (upd (upd (upd H6 e6 (exo e6 c6 none)) x6 (exd x6 [("place", q)])) e6 (exo e6 c6 (some x6))) := sm6.trans (made_same ne6 nx6)
    have pp7 : Paired (Pk q (upd (upd (upd H6 e6 (exo e6 c6 none)) x6 (exd x6 [("place", q)])) e6 (exo e6 c6 (some x6)))) ([e0, e1, e2, e3, e4, e5] ++ [e6]) ([(c0, ("place" : Str)), (c1, ("value" : Str)), (c2, ("value" : Str)), (c3, ("value" : Str)), (c4, ("value" : Str)), (c5, ("value" : Str))] ++ [(c6, ("place" : Str))]) := pk_snoc (made_same ne6 nx6) pp6 (made_at nn6)
    revert sm7 pp7
    generalize upd (upd (upd H6 e6 (exo e6 c6 none)) x6 (exd x6 [("place", q)])) e6 (exo e6 c6 (some x6)) = H7
    intro sm7 pp7
    refine ⟨_, rfl, by show 1 ≤ 1000; decide, fun e7 ne7 => ⟨e7, q, rfl, upd_same, fun x7 nx7 nn7 => ⟨rfl, ?_⟩⟩⟩
    have sm8 : Same H (upd (upd (upd H7 e7 (exo e7 c7 none)) x7 (exd x7 [("value", q)])) e7 (exo e7 c7 (some x7))) := sm7.trans (made_same ne7 nx7)
    have pp8 : Paired (Pk q (upd (upd (upd H7 e7 (exo e7 c7 none)) x7 (exd x7 [("value", q)])) e7 (exo e7 c7 (some x7)))) ([e0, e1, e2, e3, e4, e5, e6] ++ [e7]) ([(c0, ("place" : Str)), (c1, ("value" : Str)), (c2, ("value" : Str)), (c3, ("value" : Str)), (c4, ("value" : Str)), (c5, ("value" : Str)), (c6, ("place" : Str))] ++ [(c7, ("value" : Str))]) := pk_snoc (made_same ne7 nx7) pp7 (made_at nn7)
    revert sm8 pp8
    generalize upd (upd (upd H7 e7 (exo e7 c7 none)) x7 (exd x7 [("value", q)])) e7 (exo e7 c7 (some x7)) = H8
    intro sm8 pp8
    refine ⟨by show 8 ≤ sizeLine; rw [sizeLine_eq]; decide, fun l nl => ?_⟩
    have sm8b : Same H (upd H8 l (.lst [.ref e0, .ref e1, .ref e2, .ref e3, .ref e4, .ref e5, .ref e6, .ref e7])) := sm8.trans (same_upd nl)
    have pp8b : Paired (Pk q (upd H8 l (.lst [.ref e0, .ref e1, .ref e2, .ref e3, .ref e4, .ref e5, .ref e6, .ref e7]))) [e0, e1, e2, e3, e4, e5, e6, e7] [(c0, ("place" : Str)), (c1, ("value" : Str)), (c2, ("value" : Str)), (c3, ("value" : Str)), (c4, ("value" : Str)), (c5, ("value" : Str)), (c6, ("place" : Str)), (c7, ("value" : Str))] := paired_mono (pk_mono (same_upd nl)) pp8
    have el8 : (upd H8 l (.lst [.ref e0, .ref e1, .ref e2, .ref e3, .ref e4, .ref e5, .ref e6, .ref e7])) l = some (.lst [.ref e0, .ref e1, .ref e2, .ref e3, .ref e4, .ref e5, .ref e6, .ref e7]) := upd_same
    revert sm8b pp8b el8
    generalize upd H8 l (.lst [.ref e0, .ref e1, .ref e2, .ref e3, .ref e4, .ref e5, .ref e6, .ref e7]) = H8b
    intro sm8b pp8b el8
    refine ⟨_, rfl, ?_⟩
    refine ⟨_, rfl, by show 1 ≤ 1000; decide, fun e8 ne8 => ⟨e8, q, rfl, upd_same, fun x8 nx8 nn8 => ⟨rfl, ?_⟩⟩⟩
    have sm9 : Same H (upd (upd (upd H8b e8 (exo e8 c8 none)) x8 (exd x8 [("value", q)])) e8 (exo e8 c8 (some x8))) := sm8b.trans (made_same ne8 nx8)
    have pp9 : Paired (Pk q (upd (upd (upd H8b e8 (exo e8 c8 none)) x8 (exd x8 [("value", q)])) e8 (exo e8 c8 (some x8)))) ([e0, e1, e2, e3, e4, e5, e6, e7] ++ [e8]) ([(c0, ("place" : Str)), (c1, ("value" : Str)), (c2, ("value" : Str)), (c3, ("value" : Str)), (c4, ("value" : Str)), (c5, ("value" : Str)), (c6, ("place" : Str)), (c7, ("value" : Str))] ++ [(c8, ("value" : Str))]) := pk_snoc (made_same ne8 nx8) pp8b (made_at nn8)
    have el9 : (upd (upd (upd H8b e8 (exo e8 c8 none)) x8 (exd x8 [("value", q)])) e8 (exo e8 c8 (some x8))) l = some (.lst [.ref e0, .ref e1, .ref e2, .ref e3, .ref e4, .ref e5, .ref e6, .ref e7]) := made_same ne8 nx8 _ _ el8
    revert sm9 pp9 el9
    generalize upd (upd (upd H8b e8 (exo e8 c8 none)) x8 (exd x8 [("value", q)])) e8 (exo e8 c8 (some x8)) = H9
    intro sm9 pp9 el9
    refine ⟨_, rfl, by show 1 ≤ 1000; decide, fun e9 ne9 => ⟨e9, q, rfl, upd_same, fun x9 nx9 nn9 => ⟨rfl, ?_⟩⟩⟩
    have sm10 : Same H (upd (upd (upd H9 e9 (exo e9 c9 none)) x9 (exd x9 [("word", q)])) e9 (exo e9 c9 (some x9))) := sm9.trans (made_same ne9 nx9)
    have pp10 : Paired (Pk q (upd (upd (upd H9 e9 (exo e9 c9 none)) x9 (exd x9 [("word", q)])) e9 (exo e9 c9 (some x9)))) ([e0, e1, e2, e3, e4, e5, e6, e7, e8] ++ [e9]) ([(c0, ("place" : Str)), (c1, ("value" : Str)), (c2, ("value" : Str)), (c3, ("value" : Str)), (c4, ("value" : Str)), (c5, ("value" : Str)), (c6, ("place" : Str)), (c7, ("value" : Str)), (c8, ("value" : Str))] ++ [(c9, ("word" : Str))]) := pk_snoc (made_same ne9 nx9) pp9 (made_at nn9)
    have el10 : (upd (upd (upd H9 e9 (exo e9 c9 none)) x9 (exd x9 [("word", q)])) e9 (exo e9 c9 (some x9))) l = some (.lst [.ref e0, .ref e1, .ref e2, .ref e3, .ref e4, .ref e5, .ref e6, .ref e7]) := made_same ne9 nx9 _ _ el9
    revert sm10 pp10 el10
    generalize upd (upd (upd H9 e9 (exo e9 c9 none)) x9 (exd x9 [("word", q)])) e9 (exo e9 c9 (some x9)) = H10
    intro sm10 pp10 el10
    refine ⟨_, rfl, by show 1 ≤ 1000; decide, fun e10 ne10 => ⟨e10, q, rfl, upd_same, fun x10 nx10 nn10 => ⟨rfl, ?_⟩⟩⟩
    have sm11 : Same H (upd (upd (upd H10 e10 (exo e10 c10 none)) x10 (exd x10 [("most", q)])) e10 (exo e10 c10 (some x10))) := sm10.trans (made_same ne10 nx10)
    have pp11 : Paired (Pk q (upd (upd (upd H10 e10 (exo e10 c10 none)) x10 (exd x10 [("most", q)])) e10 (exo e10 c10 (some x10)))) ([e0, e1, e2, e3, e4, e5, e6, e7, e8, e9] ++ [e10]) ([(c0, ("place" : Str)), (c1, ("value" : Str)), (c2, ("value" : Str)), (c3, ("value" : Str)), (c4, ("value" : Str)), (c5, ("value" : Str)), (c6, ("place" : Str)), (c7, ("value" : Str)), (c8, ("value" : Str)), (c9, ("word" : Str))] ++ [(c10, ("most" : Str))]) := pk_snoc (made_same ne10 nx10) pp10 (made_at nn10)
    have el11 : (upd (upd (upd H10 e10 (exo e10 c10 none)) x10 (exd x10 [("most", q)])) e10 (exo e10 c10 (some x10))) l = some (.lst [.ref e0, .ref e1, .ref e2, .ref e3, .ref e4, .ref e5, .ref e6, .ref e7]) := made_same ne10 nx10 _ _ el10
    revert sm11 pp11 el11
    generalize upd (upd (upd H10 e10 (exo e10 c10 none)) x10 (exd x10 [("most", q)])) e10 (exo e10 c10 (some x10)) = H11
    intro sm11 pp11 el11
    refine ⟨by show 3 ≤ sizeLine; rw [sizeLine_eq]; decide, fun r nr => ?_⟩
    refine ⟨l, r, _, _, rfl, rfl, (same_upd nr) _ _ el11, upd_same, by show 11 ≤ sizeLine; rw [sizeLine_eq]; decide, fun p np => ?_⟩
    have smP : Same H (upd (upd H11 r (.lst [.ref e8, .ref e9, .ref e10])) p (.lst ([.ref e0, .ref e1, .ref e2, .ref e3, .ref e4, .ref e5, .ref e6, .ref e7] ++ [.ref e8, .ref e9, .ref e10]))) := (sm11.trans (same_upd nr)).trans (same_upd np)
    have ppP : Paired (Pk q (upd (upd H11 r (.lst [.ref e8, .ref e9, .ref e10])) p (.lst ([.ref e0, .ref e1, .ref e2, .ref e3, .ref e4, .ref e5, .ref e6, .ref e7] ++ [.ref e8, .ref e9, .ref e10])))) [e0, e1, e2, e3, e4, e5, e6, e7, e8, e9, e10] [(c0, ("place" : Str)), (c1, ("value" : Str)), (c2, ("value" : Str)), (c3, ("value" : Str)), (c4, ("value" : Str)), (c5, ("value" : Str)), (c6, ("place" : Str)), (c7, ("value" : Str)), (c8, ("value" : Str)), (c9, ("word" : Str)), (c10, ("most" : Str))] := paired_mono (pk_mono ((same_upd nr).trans (same_upd np))) pp11
    have elP : (upd (upd H11 r (.lst [.ref e8, .ref e9, .ref e10])) p (.lst ([.ref e0, .ref e1, .ref e2, .ref e3, .ref e4, .ref e5, .ref e6, .ref e7] ++ [.ref e8, .ref e9, .ref e10]))) p = some (.lst [.ref e0, .ref e1, .ref e2, .ref e3, .ref e4, .ref e5, .ref e6, .ref e7, .ref e8, .ref e9, .ref e10]) := upd_same
    revert smP ppP elP
    generalize upd (upd H11 r (.lst [.ref e8, .ref e9, .ref e10])) p (.lst ([.ref e0, .ref e1, .ref e2, .ref e3, .ref e4, .ref e5, .ref e6, .ref e7] ++ [.ref e8, .ref e9, .ref e10])) = HP
    intro smP ppP elP
    clear np nr el11 pp11 sm11 el10 pp10 sm10 el9 pp9 sm9 el8 pp8b sm8b nl pp8 sm8 pp7 sm7 pp6 sm6 pp5 sm5 pp4 sm4 pp3 sm3 pp2 sm2 pp1 sm1
    obtain ⟨y0, ppP⟩ := pkx_head ppP
    obtain ⟨y1, ppP⟩ := pkx_head ppP
    obtain ⟨y2, ppP⟩ := pkx_head ppP
    obtain ⟨y3, ppP⟩ := pkx_head ppP
    obtain ⟨y4, ppP⟩ := pkx_head ppP
    obtain ⟨y5, ppP⟩ := pkx_head ppP
    obtain ⟨y6, ppP⟩ := pkx_head ppP
    obtain ⟨y7, ppP⟩ := pkx_head ppP
    obtain ⟨y8, ppP⟩ := pkx_head ppP
    obtain ⟨y9, ppP⟩ := pkx_head ppP
    obtain ⟨y10, ppP⟩ := pkx_head ppP
    have dP := Da.mono smP _ _ dq
    refine ⟨_, rfl, p, _, _, V.ref e0, rfl, rfl, SqL.of ((Same.refl HP) _ _ elP), (show atI [V.ref e0, .ref e1, .ref e2, .ref e3, .ref e4, .ref e5, .ref e6, .ref e7, .ref e8, .ref e9, .ref e10] 0 = some (V.ref e0) from rfl), _, _, _, _, e0, c0, _, q, rfl, T.o0.x, T.r0, y0.same (Same.refl HP), by rfl, _, rfl, p, _, _, V.ref e6, rfl, rfl, SqL.of ((Same.refl HP) _ _ elP), (show atI [V.ref e0, .ref e1, .ref e2, .ref e3, .ref e4, .ref e5, .ref e6, .ref e7, .ref e8, .ref e9, .ref e10] 6 = some (V.ref e6) from rfl), _, _, _, _, e6, c6, _, q, rfl, T.o6.x, T.r6, y6.same (Same.refl HP), by rfl, _, rfl, p, _, _, V.ref e9, rfl, rfl, SqL.of ((Same.refl HP) _ _ elP), (show atI [V.ref e0, .ref e1, .ref e2, .ref e3, .ref e4, .ref e5, .ref e6, .ref e7, .ref e8, .ref e9, .ref e10] 9 = some (V.ref e9) from rfl), _, _, _, _, e9, c9, _, q, rfl, T.o9.x, T.r9, y9.same (Same.refl HP), by rfl, _, rfl, p, _, _, V.ref e10, rfl, rfl, SqL.of ((Same.refl HP) _ _ elP), (show atI [V.ref e0, .ref e1, .ref e2, .ref e3, .ref e4, .ref e5, .ref e6, .ref e7, .ref e8, .ref e9, .ref e10] 10 = some (V.ref e10) from rfl), _, _, _, _, e10, c10, _, q, rfl, T.o10.x, T.r10, y10.same (Same.refl HP), by rfl, _, rfl, fun a1 na1 => ⟨a1, q, rfl, upd_same, fun z1 nz1 mz1 => ⟨rfl, _, _, _, _, a1, c0, _, q, rfl, T.o0.x, T.r0, made_at mz1, by rfl, ?_⟩⟩⟩
    have t1 : Same HP (upd (upd (upd HP a1 (exo a1 c0 none)) z1 (exd z1 [("place", q)])) a1 (exo a1 c0 (some z1))) := Same.trans (Same.refl HP) (made_same na1 nz1)
    revert t1
    generalize upd (upd (upd HP a1 (exo a1 c0 none)) z1 (exd z1 [("place", q)])) a1 (exo a1 c0 (some z1)) = J1
    intro t1
    refine ⟨_, rfl, fun a2 na2 => ⟨a2, q, rfl, upd_same, fun z2 nz2 mz2 => ⟨rfl, _, _, _, _, a2, c1, _, q, rfl, T.o1.x, T.r1, made_at mz2, by rfl, ?_⟩⟩⟩
    have t2 : Same HP (upd (upd (upd J1 a2 (exo a2 c1 none)) z2 (exd z2 [("value", q)])) a2 (exo a2 c1 (some z2))) := Same.trans t1 (made_same na2 nz2)
    revert t2
    generalize upd (upd (upd J1 a2 (exo a2 c1 none)) z2 (exd z2 [("value", q)])) a2 (exo a2 c1 (some z2)) = J2
    intro t2
    refine ⟨by show 6 ≤ sizeLine; rw [sizeLine_eq]; decide, fun h nh => ?_⟩
    have eh : (upd J2 h (.lst [q, q, q, q, q, q])) h = some (.lst [q, q, q, q, q, q]) := upd_same
    have tb : Same HP (upd J2 h (.lst [q, q, q, q, q, q])) := Same.trans t2 (same_upd nh)
    revert eh tb
    generalize upd J2 h (.lst [q, q, q, q, q, q]) = Ja
    intro eh tb
    have qs : ∀ x ∈ [q, q, q, q, q, q], x = q := by simp
    have ql : ([q, q, q, q, q, q] : List V).length ≤ 30 := by show 6 ≤ 30; decide
    revert eh qs ql
    generalize ([q, q, q, q, q, q] : List V) = hs
    intro eh qs ql
    -- heard + [pack[k].value for k in ..] + [..]
    refine ⟨_, rfl, by show 7 ≤ sizeLine; rw [sizeLine_eq]; decide, fun t nt => ⟨t, rfl, ⟨_, SqT.of upd_same⟩, fun D nD => ?_⟩⟩
    refine lc_tup (K := K) (a := t) (xs := [.int 1, .int 2, .int 3, .int 4, .int 5, .int 7, .int 8]) (fun j H' => H' D = some (.lst (List.replicate j q)) ∧ Same (upd Ja t (.tup [.int 1, .int 2, .int 3, .int 4, .int 5, .int 7, .int 8])) H') ⟨upd_same, same_upd nD⟩ (fun j H' _ ⟨_, s6⟩ => SqT.of (s6 _ _ upd_same)) ?_ ?_
    · rintro j x H' hj ⟨at_D, s6⟩
      have tj := (tb.trans (same_upd nt)).trans s6
      have j7 : j < 7 := (List.getElem?_eq_some_iff.mp hj).1
      obtain ⟨kk, e, C, B, nid, iid, tl, rfl, hat, XC, fC, xC⟩ : ∃ (kk : Int) (e C : Addr) (B nid iid : String) (tl : List Value), x = V.int kk ∧ atI [V.ref e0, .ref e1, .ref e2, .ref e3, .ref e4, .ref e5, .ref e6, .ref e7, .ref e8, .ref e9, .ref e10] kk = some (V.ref e) ∧ XT K B nid iid tl C ∧ PySem.W.findIn K (.ref C) "value" = some none ∧ ExIn HP e C [("value", q)] := by
        have c7 : j = 0 ∨ j = 1 ∨ j = 2 ∨ j = 3 ∨ j = 4 ∨ j = 5 ∨ j = 6 := by omega
        rcases c7 with rfl | rfl | rfl | rfl | rfl | rfl | rfl
        · exact ⟨1, e1, c1, _, _, _, _, (Option.some.inj hj).symm, rfl, T.o1.x, T.r1, y1⟩
        · exact ⟨2, e2, c2, _, _, _, _, (Option.some.inj hj).symm, rfl, T.o2.x, T.r2, y2⟩
        · exact ⟨3, e3, c3, _, _, _, _, (Option.some.inj hj).symm, rfl, T.o3.x, T.r3, y3⟩
        · exact ⟨4, e4, c4, _, _, _, _, (Option.some.inj hj).symm, rfl, T.o4.x, T.r4, y4⟩
        · exact ⟨5, e5, c5, _, _, _, _, (Option.some.inj hj).symm, rfl, T.o5.x, T.r5, y5⟩
        · exact ⟨7, e7, c7, _, _, _, _, (Option.some.inj hj).symm, rfl, T.o7.x, T.r7, y7⟩
        · exact ⟨8, e8, c8, _, _, _, _, (Option.some.inj hj).symm, rfl, T.o8.x, T.r8, y8⟩
      refine ⟨rfl, yes_of ?_⟩
      refine ⟨_, rfl, _, rfl, p, _, _, V.ref e, rfl, rfl, SqL.of (tj _ _ elP), hat, B, nid, iid, tl, e, C, _, q, rfl, XC, fC, xC.same tj, by rfl, _, at_D, ?_, ?_, fun b o z => by rw [upd_ne (ne_of_none z nD)]; exact s6 b o z⟩
      · rw [List.length_replicate, sizeLine_eq]
        omega
      · rw [upd_same, List.replicate_succ']
    rintro Jb ⟨at_D, sb⟩
    have tc := (tb.trans (same_upd nt)).trans sb
    have eh2 : Jb h = some (.lst hs) := sb _ _ ((same_upd nt) _ _ eh)
    refine ⟨h, D, _, _, rfl, rfl, eh2, at_D, ?_, fun u nu => ?_⟩
    · rw [List.length_replicate, sizeLine_eq]
      show hs.length + 7 ≤ 16777216
      omega
    have eu : (upd Jb u (.lst (hs ++ List.replicate 7 q))) u = some (.lst (hs ++ List.replicate 7 q)) := upd_same
    have td := tc.trans (same_upd (o := .lst (hs ++ List.replicate 7 q)) nu)
    have qs2 : ∀ x ∈ hs ++ List.replicate 7 q, x = q := fun x hx => (List.mem_append.mp hx).elim (qs x) fun z => (List.mem_replicate.mp z).2
    have ql2 : (hs ++ List.replicate 7 q).length ≤ 40 := by
      rw [List.length_append, List.length_replicate]
      omega
    revert eu td qs2 ql2
    generalize (hs ++ List.replicate 7 q) = hs2
    intro eu td qs2 ql2
    revert eu td
    generalize upd Jb u (.lst hs2) = Jc
    intro eu td
    refine ⟨_, rfl, fun a3 na3 => ⟨a3, q, rfl, upd_same, fun z3 nz3 mz3 => ⟨rfl, _, _, _, _, a3, c2, _, q, rfl, T.o2.x, T.r2, made_at mz3, by rfl, ?_⟩⟩⟩
    have t3 : Same HP (upd (upd (upd Jc a3 (exo a3 c2 none)) z3 (exd z3 [("value", q)])) a3 (exo a3 c2 (some z3))) := Same.trans td (made_same na3 nz3)
    have eu_3 : (upd (upd (upd Jc a3 (exo a3 c2 none)) z3 (exd z3 [("value", q)])) a3 (exo a3 c2 (some z3))) u = some (.lst hs2) := (made_same na3 nz3) _ _ eu
    revert t3 eu_3
    generalize upd (upd (upd Jc a3 (exo a3 c2 none)) z3 (exd z3 [("value", q)])) a3 (exo a3 c2 (some z3)) = J3
    intro t3 eu_3
    clear eu
    have eu := eu_3
    clear eu_3
    refine ⟨_, rfl, fun a4 na4 => ⟨a4, q, rfl, upd_same, fun z4 nz4 mz4 => ⟨rfl, _, _, _, _, a4, c3, _, q, rfl, T.o3.x, T.r3, made_at mz4, by rfl, ?_⟩⟩⟩
    have t4 : Same HP (upd (upd (upd J3 a4 (exo a4 c3 none)) z4 (exd z4 [("value", q)])) a4 (exo a4 c3 (some z4))) := Same.trans t3 (made_same na4 nz4)
    have eu_4 : (upd (upd (upd J3 a4 (exo a4 c3 none)) z4 (exd z4 [("value", q)])) a4 (exo a4 c3 (some z4))) u = some (.lst hs2) := (made_same na4 nz4) _ _ eu
    revert t4 eu_4
    generalize upd (upd (upd J3 a4 (exo a4 c3 none)) z4 (exd z4 [("value", q)])) a4 (exo a4 c3 (some z4)) = J4
    intro t4 eu_4
    clear eu
    have eu := eu_4
    clear eu_4
    refine ⟨by show 2 ≤ sizeLine; rw [sizeLine_eq]; decide, fun m1 nm1 => ?_⟩
    refine ⟨u, m1, _, _, rfl, rfl, (same_upd nm1) _ _ eu, upd_same, ?_, fun v1 nv1 => ?_⟩
    · rw [sizeLine_eq]
      show hs2.length + 2 ≤ 16777216
      omega
    have ev1 : (upd (upd J4 m1 (.lst [q, q])) v1 (.lst (hs2 ++ [q, q]))) v1 = some (.lst (hs2 ++ [q, q])) := upd_same
    have tv1 : Same HP (upd (upd J4 m1 (.lst [q, q])) v1 (.lst (hs2 ++ [q, q]))) := (Same.trans t4 (same_upd nm1)).trans (same_upd nv1)
    have qs3 : ∀ x ∈ hs2 ++ [q, q], x = q := fun x hx => (List.mem_append.mp hx).elim (qs2 x) fun z => by simpa using z
    have ql3 : (hs2 ++ [q, q]).length ≤ 50 := by
      rw [List.length_append]
      show hs2.length + 2 ≤ 50
      omega
    revert ev1 tv1
    generalize upd (upd J4 m1 (.lst [q, q])) v1 (.lst (hs2 ++ [q, q])) = Jd
    intro ev1 tv1
    revert ev1 qs3 ql3
    generalize (hs2 ++ [q, q]) = hs3
    intro qs3 ql3 ev1
    refine ⟨_, rfl, ?_⟩
    refine ⟨_, rfl, fun a5 na5 => ⟨a5, q, rfl, upd_same, fun z5 nz5 mz5 => ⟨rfl, _, _, _, _, a5, c4, _, q, rfl, T.o4.x, T.r4, made_at mz5, by rfl, ?_⟩⟩⟩
    have t5 : Same HP (upd (upd (upd Jd a5 (exo a5 c4 none)) z5 (exd z5 [("value", q)])) a5 (exo a5 c4 (some z5))) := Same.trans tv1 (made_same na5 nz5)
    have ev1_5 : (upd (upd (upd Jd a5 (exo a5 c4 none)) z5 (exd z5 [("value", q)])) a5 (exo a5 c4 (some z5))) v1 = some (.lst hs3) := (made_same na5 nz5) _ _ ev1
    revert t5 ev1_5
    generalize upd (upd (upd Jd a5 (exo a5 c4 none)) z5 (exd z5 [("value", q)])) a5 (exo a5 c4 (some z5)) = J5
    intro t5 ev1_5
    clear ev1
    have ev1 := ev1_5
    clear ev1_5
    refine ⟨_, rfl, fun a6 na6 => ⟨a6, q, rfl, upd_same, fun z6 nz6 mz6 => ⟨rfl, _, _, _, _, a6, c5, _, q, rfl, T.o5.x, T.r5, made_at mz6, by rfl, ?_⟩⟩⟩
    have t6 : Same HP (upd (upd (upd J5 a6 (exo a6 c5 none)) z6 (exd z6 [("value", q)])) a6 (exo a6 c5 (some z6))) := Same.trans t5 (made_same na6 nz6)
    have ev1_6 : (upd (upd (upd J5 a6 (exo a6 c5 none)) z6 (exd z6 [("value", q)])) a6 (exo a6 c5 (some z6))) v1 = some (.lst hs3) := (made_same na6 nz6) _ _ ev1
    revert t6 ev1_6
    generalize upd (upd (upd J5 a6 (exo a6 c5 none)) z6 (exd z6 [("value", q)])) a6 (exo a6 c5 (some z6)) = J6
    intro t6 ev1_6
    clear ev1
    have ev1 := ev1_6
    clear ev1_6
    refine ⟨_, rfl, fun a7 na7 => ⟨a7, q, rfl, upd_same, fun z7 nz7 mz7 => ⟨rfl, _, _, _, _, a7, c6, _, q, rfl, T.o6.x, T.r6, made_at mz7, by rfl, ?_⟩⟩⟩
    have t7 : Same HP (upd (upd (upd J6 a7 (exo a7 c6 none)) z7 (exd z7 [("place", q)])) a7 (exo a7 c6 (some z7))) := Same.trans t6 (made_same na7 nz7)
    have ev1_7 : (upd (upd (upd J6 a7 (exo a7 c6 none)) z7 (exd z7 [("place", q)])) a7 (exo a7 c6 (some z7))) v1 = some (.lst hs3) := (made_same na7 nz7) _ _ ev1
    revert t7 ev1_7
    generalize upd (upd (upd J6 a7 (exo a7 c6 none)) z7 (exd z7 [("place", q)])) a7 (exo a7 c6 (some z7)) = J7
    intro t7 ev1_7
    clear ev1
    have ev1 := ev1_7
    clear ev1_7
    refine ⟨by show 3 ≤ sizeLine; rw [sizeLine_eq]; decide, fun m2 nm2 => ?_⟩
    refine ⟨v1, m2, _, _, rfl, rfl, (same_upd nm2) _ _ ev1, upd_same, ?_, fun v2 nv2 => ?_⟩
    · rw [sizeLine_eq]
      show hs3.length + 3 ≤ 16777216
      omega
    have ev2 : (upd (upd J7 m2 (.lst [q, q, q])) v2 (.lst (hs3 ++ [q, q, q]))) v2 = some (.lst (hs3 ++ [q, q, q])) := upd_same
    have tv2 : Same HP (upd (upd J7 m2 (.lst [q, q, q])) v2 (.lst (hs3 ++ [q, q, q]))) := (Same.trans t7 (same_upd nm2)).trans (same_upd nv2)
    have qs4 : ∀ x ∈ hs3 ++ [q, q, q], x = q := fun x hx => (List.mem_append.mp hx).elim (qs3 x) fun z => by simpa using z
    have ql4 : (hs3 ++ [q, q, q]).length ≤ 60 := by
      rw [List.length_append]
      show hs3.length + 3 ≤ 60
      omega
    revert ev2 tv2
    generalize upd (upd J7 m2 (.lst [q, q, q])) v2 (.lst (hs3 ++ [q, q, q])) = Je
    intro ev2 tv2
    revert ev2 qs4 ql4
    generalize (hs3 ++ [q, q, q]) = hs4
    intro qs4 ql4 ev2
    refine ⟨_, rfl, ?_⟩
    refine ⟨_, rfl, fun a8 na8 => ⟨a8, q, rfl, upd_same, fun z8 nz8 mz8 => ⟨rfl, _, _, _, _, a8, c7, _, q, rfl, T.o7.x, T.r7, made_at mz8, by rfl, ?_⟩⟩⟩
    have t8 : Same HP (upd (upd (upd Je a8 (exo a8 c7 none)) z8 (exd z8 [("value", q)])) a8 (exo a8 c7 (some z8))) := Same.trans tv2 (made_same na8 nz8)
    have ev2_8 : (upd (upd (upd Je a8 (exo a8 c7 none)) z8 (exd z8 [("value", q)])) a8 (exo a8 c7 (some z8))) v2 = some (.lst hs4) := (made_same na8 nz8) _ _ ev2
    revert t8 ev2_8
    generalize upd (upd (upd Je a8 (exo a8 c7 none)) z8 (exd z8 [("value", q)])) a8 (exo a8 c7 (some z8)) = J8
    intro t8 ev2_8
    clear ev2
    have ev2 := ev2_8
    clear ev2_8
    refine ⟨_, rfl, fun a9 na9 => ⟨a9, q, rfl, upd_same, fun z9 nz9 mz9 => ⟨rfl, _, _, _, _, a9, c8, _, q, rfl, T.o8.x, T.r8, made_at mz9, by rfl, ?_⟩⟩⟩
    have t9 : Same HP (upd (upd (upd J8 a9 (exo a9 c8 none)) z9 (exd z9 [("value", q)])) a9 (exo a9 c8 (some z9))) := Same.trans t8 (made_same na9 nz9)
    have ev2_9 : (upd (upd (upd J8 a9 (exo a9 c8 none)) z9 (exd z9 [("value", q)])) a9 (exo a9 c8 (some z9))) v2 = some (.lst hs4) := (made_same na9 nz9) _ _ ev2
    revert t9 ev2_9
    generalize upd (upd (upd J8 a9 (exo a9 c8 none)) z9 (exd z9 [("value", q)])) a9 (exo a9 c8 (some z9)) = J9
    intro t9 ev2_9
    clear ev2
    have ev2 := ev2_9
    clear ev2_9
    refine ⟨_, rfl, fun a10 na10 => ⟨a10, q, rfl, upd_same, fun z10 nz10 mz10 => ⟨rfl, _, _, _, _, a10, c9, _, q, rfl, T.o9.x, T.r9, made_at mz10, by rfl, ?_⟩⟩⟩
    have t10 : Same HP (upd (upd (upd J9 a10 (exo a10 c9 none)) z10 (exd z10 [("word", q)])) a10 (exo a10 c9 (some z10))) := Same.trans t9 (made_same na10 nz10)
    have ev2_10 : (upd (upd (upd J9 a10 (exo a10 c9 none)) z10 (exd z10 [("word", q)])) a10 (exo a10 c9 (some z10))) v2 = some (.lst hs4) := (made_same na10 nz10) _ _ ev2
    revert t10 ev2_10
    generalize upd (upd (upd J9 a10 (exo a10 c9 none)) z10 (exd z10 [("word", q)])) a10 (exo a10 c9 (some z10)) = J10
    intro t10 ev2_10
    clear ev2
    have ev2 := ev2_10
    clear ev2_10
    refine ⟨_, rfl, fun a11 na11 => ⟨a11, q, rfl, upd_same, fun z11 nz11 mz11 => ⟨rfl, _, _, _, _, a11, c10, _, q, rfl, T.o10.x, T.r10, made_at mz11, by rfl, ?_⟩⟩⟩
    have t11 : Same HP (upd (upd (upd J10 a11 (exo a11 c10 none)) z11 (exd z11 [("most", q)])) a11 (exo a11 c10 (some z11))) := Same.trans t10 (made_same na11 nz11)
    have ev2_11 : (upd (upd (upd J10 a11 (exo a11 c10 none)) z11 (exd z11 [("most", q)])) a11 (exo a11 c10 (some z11))) v2 = some (.lst hs4) := (made_same na11 nz11) _ _ ev2
    revert t11 ev2_11
    generalize upd (upd (upd J10 a11 (exo a11 c10 none)) z11 (exd z11 [("most", q)])) a11 (exo a11 c10 (some z11)) = J11
    intro t11 ev2_11
    clear ev2
    have ev2 := ev2_11
    clear ev2_11
    refine ⟨by show 4 ≤ sizeLine; rw [sizeLine_eq]; decide, fun m3 nm3 => ?_⟩
    refine ⟨v2, m3, _, _, rfl, rfl, (same_upd nm3) _ _ ev2, upd_same, ?_, fun v3 nv3 => ?_⟩
    · rw [sizeLine_eq]
      show hs4.length + 4 ≤ 16777216
      omega
    have ev3 : (upd (upd J11 m3 (.lst [q, q, q, q])) v3 (.lst (hs4 ++ [q, q, q, q]))) v3 = some (.lst (hs4 ++ [q, q, q, q])) := upd_same
    have tv3 : Same HP (upd (upd J11 m3 (.lst [q, q, q, q])) v3 (.lst (hs4 ++ [q, q, q, q]))) := (Same.trans t11 (same_upd nm3)).trans (same_upd nv3)
    have qs5 : ∀ x ∈ hs4 ++ [q, q, q, q], x = q := fun x hx => (List.mem_append.mp hx).elim (qs4 x) fun z => by simpa using z
    have ql5 : (hs4 ++ [q, q, q, q]).length ≤ 70 := by
      rw [List.length_append]
      show hs4.length + 4 ≤ 70
      omega
    revert ev3 tv3
    generalize upd (upd J11 m3 (.lst [q, q, q, q])) v3 (.lst (hs4 ++ [q, q, q, q])) = Jf
    intro ev3 tv3
    revert ev3 qs5 ql5
    generalize (hs4 ++ [q, q, q, q]) = hs5
    intro qs5 ql5 ev3
    -- [one for one in heard if repr(one) != repr(q)] != []
    have g1 := fine_of fd_
    have dF := Da.mono tv3 _ _ dP
    refine ⟨_, rfl, v3, rfl, ⟨_, SqL.of ev3⟩, fun D2 nD2 => ?_⟩
    refine lc_list (K := K) (a := v3) (xs := hs5) (fun j H' => H' D2 = some (.lst []) ∧ Same Jf H') ⟨upd_same, same_upd nD2⟩ (fun j H' _ ⟨_, s6⟩ => s6.seq (SqL.of ev3)) ?_ ?_
    · rintro j x H' hj ⟨at_D2, s6⟩
      obtain rfl : x = q := qs5 x (List.mem_of_getElem? hj)
      have dG := Da.mono s6 _ _ dF
      refine ⟨rfl, _, rfl, x, d, true, rfl, dG, g1.1, g1.2.1, g1.2.2, _, rfl, x, d, true, rfl, dG, g1.1, g1.2.1, g1.2.2, rfl, _, rfl, iteNS rfl ⟨at_D2, s6⟩⟩
    rintro Jg ⟨at_D2, sg⟩
    refine ⟨by show 0 ≤ sizeLine; exact Nat.zero_le _, fun z nz => ?_⟩
    refine ⟨.list [], .list [], .lst (SqL.of ((same_upd nz) _ _ at_D2)) .nil, .lst (SqL.of upd_same) .nil, by decide +kernel, by decide +kernel, _, rfl, iteF ?_⟩
    have tz := (tv3.trans sg).trans (same_upd (o := .lst []) nz)
    revert tz
    generalize upd Jg z (.lst []) = Jh
    intro tz
    -- for at, one in enumerate(pack)
    refine ⟨_, rfl, p, _, rfl, SqL.of (tz _ _ elP), for_it walk_enum (fun i σ H' => ∃ v2 v3 v4 v5 v6 v7 : Option V, σ = [some q, some (.ref p), v2, v3, v4, v5, v6, v7] ∧ Same HP H') ⟨_, _, _, _, _, _, rfl, tz⟩ (fun i σ H' _ ⟨_, _, _, _, _, _, _, s6⟩ => SqL.of (s6 _ _ elP)) ?_ ?_⟩
    · rintro i x σ H' H2 hi ⟨w2, w3, w4, w5, w6, w7, rfl, s6⟩ ⟨t2, x1, x2, rfl, nt2, rfl, j1, j2⟩
      cases j1
      have i11 : i < 11 := hi
      obtain ⟨e, C, fs, B, nid, iid, tl, rfl, XC, xC, kb, kN, kV, kO⟩ : ∃ (e C : Addr) (fs : List (Str × V)) (B nid iid : String) (tl : List Value), x2 = V.ref e ∧ XT K B nid iid tl C ∧ ExIn HP e C fs ∧ Kits K C [c0, c1, c2, c3, c4, c5, c6, c7, c8, c9, c10] ((List.range 11).map fun j => decide (j = i)) ∧
          PySem.W.kitOne K (.ref C) (.ref cNE) = some (decide (i < 10)) ∧ PySem.W.kitOne K (.ref C) (.type "ValueError") = some (decide (i < 10)) ∧ PySem.W.kitOne K (.ref C) (.type "OverflowError") = some (decide (i = 10)) := by
        have c11 : i = 0 ∨ i = 1 ∨ i = 2 ∨ i = 3 ∨ i = 4 ∨ i = 5 ∨ i = 6 ∨ i = 7 ∨ i = 8 ∨ i = 9 ∨ i = 10 := by omega
        rcases c11 with rfl | rfl | rfl | rfl | rfl | rfl | rfl | rfl | rfl | rfl | rfl
        · exact ⟨e0, c0, _, _, _, _, _, (Option.some.inj j2).symm, T.o0.x, y0, T.k0, T.n0, T.v0, T.y0⟩
        · exact ⟨e1, c1, _, _, _, _, _, (Option.some.inj j2).symm, T.o1.x, y1, T.k1, T.n1, T.v1, T.y1⟩
        · exact ⟨e2, c2, _, _, _, _, _, (Option.some.inj j2).symm, T.o2.x, y2, T.k2, T.n2, T.v2, T.y2⟩
        · exact ⟨e3, c3, _, _, _, _, _, (Option.some.inj j2).symm, T.o3.x, y3, T.k3, T.n3, T.v3, T.y3⟩
        · exact ⟨e4, c4, _, _, _, _, _, (Option.some.inj j2).symm, T.o4.x, y4, T.k4, T.n4, T.v4, T.y4⟩
        · exact ⟨e5, c5, _, _, _, _, _, (Option.some.inj j2).symm, T.o5.x, y5, T.k5, T.n5, T.v5, T.y5⟩
        · exact ⟨e6, c6, _, _, _, _, _, (Option.some.inj j2).symm, T.o6.x, y6, T.k6, T.n6, T.v6, T.y6⟩
        · exact ⟨e7, c7, _, _, _, _, _, (Option.some.inj j2).symm, T.o7.x, y7, T.k7, T.n7, T.v7, T.y7⟩
        · exact ⟨e8, c8, _, _, _, _, _, (Option.some.inj j2).symm, T.o8.x, y8, T.k8, T.n8, T.v8, T.y8⟩
        · exact ⟨e9, c9, _, _, _, _, _, (Option.some.inj j2).symm, T.o9.x, y9, T.k9, T.n9, T.v9, T.y9⟩
        · exact ⟨e10, c10, _, _, _, _, _, (Option.some.inj j2).symm, T.o10.x, y10, T.k10, T.n10, T.v10, T.y10⟩
      have kb2 : [PySem.W.kitOne K (.ref C) (.ref c0), PySem.W.kitOne K (.ref C) (.ref c1), PySem.W.kitOne K (.ref C) (.ref c2), PySem.W.kitOne K (.ref C) (.ref c3), PySem.W.kitOne K (.ref C) (.ref c4), PySem.W.kitOne K (.ref C) (.ref c5), PySem.W.kitOne K (.ref C) (.ref c6), PySem.W.kitOne K (.ref C) (.ref c7), PySem.W.kitOne K (.ref C) (.ref c8), PySem.W.kitOne K (.ref C) (.ref c9), PySem.W.kitOne K (.ref C) (.ref c10)] = [some (decide (0 = i)), some (decide (1 = i)), some (decide (2 = i)), some (decide (3 = i)), some (decide (4 = i)), some (decide (5 = i)), some (decide (6 = i)), some (decide (7 = i)), some (decide (8 = i)), some (decide (9 = i)), some (decide (10 = i))] := kb
      simp only [List.cons.injEq, and_true] at kb2
      obtain ⟨q0, q1, q2, q3, q4, q5, q6, q7, q8, q9, q10⟩ := kb2
      have z3 : ∀ {x y z : V}, [x, y, z].length ≤ sizeLine := fun {x y z} => by
        show 3 ≤ sizeLine
        rw [sizeLine_eq]
        decide
      have sA := s6.trans (same_upd (o := .tup [.int (i : Nat), .ref e]) nt2)
      refine ⟨t2, _, rfl, SqT.of upd_same, rfl, _, _, rfl, _, _, rfl, rfl, ?_⟩
      clear hi j2
      revert sA
      generalize upd H' t2 (.tup [.int (i : Nat), .ref e]) = G0
      intro sA
      refine ⟨_, rfl, B, nid, iid, tl, e, C, fs, .ref c0, .ref c0, (decide (0 = i)), rfl, XC, xC.same (sA), .own c0, q0, _, rfl, B, nid, iid, tl, e, C, fs, .ref c1, .ref c1, (decide (1 = i)), rfl, XC, xC.same (sA), .own c1, q1, _, rfl, B, nid, iid, tl, e, C, fs, .ref c2, .ref c2, (decide (2 = i)), rfl, XC, xC.same (sA), .own c2, q2, z3, fun l1 nl1 => ?_⟩
      have sB : Same HP (upd G0 l1 (.lst [.bl (decide (0 = i)), .bl (decide (1 = i)), .bl (decide (2 = i))])) := sA.trans (same_upd nl1)
      have lB : (upd G0 l1 (.lst [.bl (decide (0 = i)), .bl (decide (1 = i)), .bl (decide (2 = i))])) l1 = some (.lst [.bl (decide (0 = i)), .bl (decide (1 = i)), .bl (decide (2 = i))]) := upd_same
      revert sB lB
      generalize upd G0 l1 (.lst [.bl (decide (0 = i)), .bl (decide (1 = i)), .bl (decide (2 = i))]) = G1
      intro sB lB
      refine ⟨_, rfl, _, rfl, B, nid, iid, tl, e, C, fs, .ref c3, .ref c3, (decide (3 = i)), rfl, XC, xC.same (sB), .own c3, q3, _, rfl, B, nid, iid, tl, e, C, fs, .ref c4, .ref c4, (decide (4 = i)), rfl, XC, xC.same (sB), .own c4, q4, _, rfl, B, nid, iid, tl, e, C, fs, .ref c5, .ref c5, (decide (5 = i)), rfl, XC, xC.same (sB), .own c5, q5, z3, fun l2 nl2 => ?_⟩
      refine ⟨l1, l2, _, _, rfl, rfl, (same_upd nl2) _ _ lB, upd_same, by show 6 ≤ sizeLine; rw [sizeLine_eq]; decide, fun l3 nl3 => ?_⟩
      have sC : Same HP (upd (upd G1 l2 (.lst [.bl (decide (3 = i)), .bl (decide (4 = i)), .bl (decide (5 = i))])) l3 (.lst ([.bl (decide (0 = i)), .bl (decide (1 = i)), .bl (decide (2 = i))] ++ [.bl (decide (3 = i)), .bl (decide (4 = i)), .bl (decide (5 = i))]))) := (sB.trans (same_upd nl2)).trans (same_upd nl3)
      have lC : (upd (upd G1 l2 (.lst [.bl (decide (3 = i)), .bl (decide (4 = i)), .bl (decide (5 = i))])) l3 (.lst ([.bl (decide (0 = i)), .bl (decide (1 = i)), .bl (decide (2 = i))] ++ [.bl (decide (3 = i)), .bl (decide (4 = i)), .bl (decide (5 = i))]))) l3 = some (.lst [.bl (decide (0 = i)), .bl (decide (1 = i)), .bl (decide (2 = i)), .bl (decide (3 = i)), .bl (decide (4 = i)), .bl (decide (5 = i))]) := upd_same
      have fC : HP l3 = none := (sB.trans (same_upd nl2)).free nl3
      revert sC lC
      generalize upd (upd G1 l2 (.lst [.bl (decide (3 = i)), .bl (decide (4 = i)), .bl (decide (5 = i))])) l3 (.lst ([.bl (decide (0 = i)), .bl (decide (1 = i)), .bl (decide (2 = i))] ++ [.bl (decide (3 = i)), .bl (decide (4 = i)), .bl (decide (5 = i))])) = G2
      intro sC lC
      -- known.append(..)
      refine ⟨_, rfl, .inl ⟨rfl, _, SqL.of lC⟩, _, rfl, B, nid, iid, tl, e, C, fs, .ref c6, .ref c6, (decide (6 = i)), rfl, XC, xC.same (sC), .own c6, q6, l3, _, _, rfl, rfl, lC, by show 7 ≤ sizeLine; rw [sizeLine_eq]; decide, ?_⟩
      have sD : Same HP (upd G2 l3 (.lst ([.bl (decide (0 = i)), .bl (decide (1 = i)), .bl (decide (2 = i)), .bl (decide (3 = i)), .bl (decide (4 = i)), .bl (decide (5 = i))] ++ [.bl (decide (6 = i))]))) := fun bb o z => by
        rw [upd_ne (ne_of_none z fC)]
        exact sC bb o z
      have lD : (upd G2 l3 (.lst ([.bl (decide (0 = i)), .bl (decide (1 = i)), .bl (decide (2 = i)), .bl (decide (3 = i)), .bl (decide (4 = i)), .bl (decide (5 = i))] ++ [.bl (decide (6 = i))]))) l3 = some (.lst [.bl (decide (0 = i)), .bl (decide (1 = i)), .bl (decide (2 = i)), .bl (decide (3 = i)), .bl (decide (4 = i)), .bl (decide (5 = i)), .bl (decide (6 = i))]) := upd_same
      revert sD lD
      generalize upd G2 l3 (.lst ([.bl (decide (0 = i)), .bl (decide (1 = i)), .bl (decide (2 = i)), .bl (decide (3 = i)), .bl (decide (4 = i)), .bl (decide (5 = i))] ++ [.bl (decide (6 = i))])) = G3
      intro sD lD
      refine ⟨_, rfl, _, rfl, B, nid, iid, tl, e, C, fs, .ref c7, .ref c7, (decide (7 = i)), rfl, XC, xC.same (sD), .own c7, q7, _, rfl, B, nid, iid, tl, e, C, fs, .ref c8, .ref c8, (decide (8 = i)), rfl, XC, xC.same (sD), .own c8, q8, _, rfl, B, nid, iid, tl, e, C, fs, .ref c9, .ref c9, (decide (9 = i)), rfl, XC, xC.same (sD), .own c9, q9, z3, fun l4 nl4 => ?_⟩
      refine ⟨l3, l4, _, _, rfl, rfl, (same_upd nl4) _ _ lD, upd_same, by show 10 ≤ sizeLine; rw [sizeLine_eq]; decide, fun l5 nl5 => ?_⟩
      have sE : Same HP (upd (upd G3 l4 (.lst [.bl (decide (7 = i)), .bl (decide (8 = i)), .bl (decide (9 = i))])) l5 (.lst ([.bl (decide (0 = i)), .bl (decide (1 = i)), .bl (decide (2 = i)), .bl (decide (3 = i)), .bl (decide (4 = i)), .bl (decide (5 = i)), .bl (decide (6 = i))] ++ [.bl (decide (7 = i)), .bl (decide (8 = i)), .bl (decide (9 = i))]))) := (sD.trans (same_upd nl4)).trans (same_upd nl5)
      have lE : (upd (upd G3 l4 (.lst [.bl (decide (7 = i)), .bl (decide (8 = i)), .bl (decide (9 = i))])) l5 (.lst ([.bl (decide (0 = i)), .bl (decide (1 = i)), .bl (decide (2 = i)), .bl (decide (3 = i)), .bl (decide (4 = i)), .bl (decide (5 = i)), .bl (decide (6 = i))] ++ [.bl (decide (7 = i)), .bl (decide (8 = i)), .bl (decide (9 = i))]))) l5 = some (.lst [.bl (decide (0 = i)), .bl (decide (1 = i)), .bl (decide (2 = i)), .bl (decide (3 = i)), .bl (decide (4 = i)), .bl (decide (5 = i)), .bl (decide (6 = i)), .bl (decide (7 = i)), .bl (decide (8 = i)), .bl (decide (9 = i))]) := upd_same
      revert sE lE
      generalize upd (upd G3 l4 (.lst [.bl (decide (7 = i)), .bl (decide (8 = i)), .bl (decide (9 = i))])) l5 (.lst ([.bl (decide (0 = i)), .bl (decide (1 = i)), .bl (decide (2 = i)), .bl (decide (3 = i)), .bl (decide (4 = i)), .bl (decide (5 = i)), .bl (decide (6 = i))] ++ [.bl (decide (7 = i)), .bl (decide (8 = i)), .bl (decide (9 = i))])) = G4
      intro sE lE
      -- known + [..] != [k == at for k in range(11)]
      refine ⟨_, rfl, _, rfl, B, nid, iid, tl, e, C, fs, .ref c10, .ref c10, (decide (10 = i)), rfl, XC, xC.same (sE), .own c10, q10, by show 1 ≤ sizeLine; rw [sizeLine_eq]; decide, fun l6 nl6 => ?_⟩
      refine ⟨l5, l6, _, _, rfl, rfl, (same_upd nl6) _ _ lE, upd_same, by show 11 ≤ sizeLine; rw [sizeLine_eq]; decide, fun l7 nl7 => ?_⟩
      have sF : Same HP (upd (upd G4 l6 (.lst [.bl (decide (10 = i))])) l7 (.lst ([.bl (decide (0 = i)), .bl (decide (1 = i)), .bl (decide (2 = i)), .bl (decide (3 = i)), .bl (decide (4 = i)), .bl (decide (5 = i)), .bl (decide (6 = i)), .bl (decide (7 = i)), .bl (decide (8 = i)), .bl (decide (9 = i))] ++ [.bl (decide (10 = i))]))) := (sE.trans (same_upd nl6)).trans (same_upd nl7)
      have lF : (upd (upd G4 l6 (.lst [.bl (decide (10 = i))])) l7 (.lst ([.bl (decide (0 = i)), .bl (decide (1 = i)), .bl (decide (2 = i)), .bl (decide (3 = i)), .bl (decide (4 = i)), .bl (decide (5 = i)), .bl (decide (6 = i)), .bl (decide (7 = i)), .bl (decide (8 = i)), .bl (decide (9 = i))] ++ [.bl (decide (10 = i))]))) l7 = some (.lst (((List.range 11).map fun j => decide (j = i)).map V.bl)) := upd_same
      revert sF lF
      generalize upd (upd G4 l6 (.lst [.bl (decide (10 = i))])) l7 (.lst ([.bl (decide (0 = i)), .bl (decide (1 = i)), .bl (decide (2 = i)), .bl (decide (3 = i)), .bl (decide (4 = i)), .bl (decide (5 = i)), .bl (decide (6 = i)), .bl (decide (7 = i)), .bl (decide (8 = i)), .bl (decide (9 = i))] ++ [.bl (decide (10 = i))])) = G5
      intro sF lF
      refine ⟨11, rfl, by decide, by decide, fun D3 nD3 => lc_range (lo := 0) (n := 11) (fun j H' => H' D3 = some (.lst (((List.range j).map fun j => decide (j = i)).map V.bl)) ∧ Same G5 H') ⟨upd_same, same_upd nD3⟩ ?_ ?_⟩
      · rintro j H' hj ⟨at_D3, s7⟩
        refine ⟨rfl, yes_of ?_⟩
        have conv : decide (V.int (0 + (j : Int)) = V.int (i : Int)) = decide (j = i) := decide_eq_decide.mpr ⟨fun z => by have z2 := V.int.inj z; omega, fun z => by rw [z, Int.zero_add]⟩
        refine ⟨_, rfl, _, rfl, rfl, _, at_D3, ?_, ?_, fun bb o z => by rw [upd_ne (ne_of_none z nD3)]; exact s7 bb o z⟩
        · rw [List.length_map, List.length_map, List.length_range, sizeLine_eq]
          omega
        · rw [upd_same, List.range_succ, List.map_append, List.map_append, conv]
          rfl
      rintro G6 ⟨at_D3, s8⟩
      refine ⟨_, _, .lst (SqL.of (s8 _ _ lF)) (dp_bools _), .lst (SqL.of at_D3) (dp_bools _), shaped_bools _, shaped_bools _, _, rfl, ifF (by rw [eqv_bools]; rfl) ?_⟩
      -- kinds_so
      have sG := sF.trans s8
      refine ⟨_, rfl, B, nid, iid, tl, e, C, fs, .ref cNE, .ref cNE, _, rfl, XC, xC.same sG, .own cNE, kN, _, rfl, B, nid, iid, tl, e, C, fs, .ty "ValueError", _, _, rfl, XC, xC.same sG, .ty _, kV, _, rfl, B, nid, iid, tl, e, C, fs, .ty "OverflowError", _, _, rfl, XC, xC.same sG, .ty _, kO, z3, fun l8 nl8 => ?_⟩
      refine ⟨_, rfl, _, rfl, _, _, rfl, rfl, _, rfl, _, _, rfl, rfl, _, rfl, rfl, z3, fun l9 nl9 => ?_⟩
      have e8 := (same_upd nl9 (o := .lst [.bl (decide ((i : Int) < 10)), .bl (decide ((i : Int) < 10)), .bl (decide (V.int (i : Int) = V.int 10))])) _ _ (upd_same (H := G6) (a := l8) (o := .lst [.bl (decide (i < 10)), .bl (decide (i < 10)), .bl (decide (i = 10))]))
      have u1 : decide ((i : Int) < 10) = decide (i < 10) := decide_eq_decide.mpr ⟨fun z => by omega, fun z => by omega⟩
      have u2 : decide (V.int (i : Int) = V.int 10) = decide (i = 10) := decide_eq_decide.mpr ⟨fun z => by have z2 := V.int.inj z; omega, fun z => by rw [z]; rfl⟩
      refine ⟨.list ([decide (i < 10), decide (i < 10), decide (i = 10)].map PyData.bool), .list ([decide (i < 10), decide (i < 10), decide (i = 10)].map PyData.bool), .lst (SqL.of e8) (dp_bools [decide (i < 10), decide (i < 10), decide (i = 10)]), .lst (SqL.of (by rw [upd_same]; show some (HO.lst [V.bl (decide ((i : Int) < 10)), V.bl (decide ((i : Int) < 10)), V.bl (decide (V.int (i : Int) = V.int 10))]) = _; rw [u1, u2]; rfl)) (dp_bools [decide (i < 10), decide (i < 10), decide (i = 10)]), shaped_bools _, shaped_bools _, _, rfl, ifF (by rw [eqv_bools]; rfl) ?_⟩
      exact ⟨_, _, _, _, _, _, rfl, (sG.trans (same_upd nl8)).trans (same_upd nl9)⟩
    rintro σ H' ⟨w2, w3, w4, w5, w6, w7, rfl, s6⟩
    exact k _ (smP.trans s6)
end
end Lr

namespace Lr
open PySem PySem.Spec PyProof.Rows L2
def spLaw (K : PySem.W.Frag) : Sp := fun vs H Q _ => ∃ (a : Addr) (ns : List Int), vs = [.ref a] ∧ SqL K H a (ns.map V.int) ∧ ns.length ≤ 63 ∧ ∀ H', Q (.bl true) H'
theorem pick8 {K : PySem.W.Frag} {H : Hp} {t l dd : Addr} {r : Int} (h0 : 0 ≤ r) (h1 : r < 8) (et : H t = some (.tup [.int 1, .int 2])) (el : H l = some (.lst [.int 3])) (ed : H dd = some (.dK [])) (nl : l ≠ sysModules) :
    ∃ (v : V) (d : PyData), atI [V.non, .int 0, .int 7, .ref t, .str "x", .ref l, .ref dd, .int (10 ^ (40 : Int).toNat)] r = some v ∧ fine d = true ∧ Da K H true v d := by
  have e : r = 0 ∨ r = 1 ∨ r = 2 ∨ r = 3 ∨ r = 4 ∨ r = 5 ∨ r = 6 ∨ r = 7 := by omega
  rcases e with e | e | e | e | e | e | e | e <;> subst e
  · exact ⟨_, .none, rfl, by decide +kernel, .non⟩
  · exact ⟨_, .int 0, rfl, by decide +kernel, .int 0⟩
  · exact ⟨_, .int 7, rfl, by decide +kernel, .int 7⟩
  · exact ⟨_, .tuple [.int 1, .int 2], rfl, by decide +kernel, .tup (SqT.of et) (.cons (.int 1) (.cons (.int 2) .nil))⟩
  · exact ⟨_, .str "x", rfl, by decide +kernel, .str _⟩
  · exact ⟨_, .list [.int 3], rfl, by decide +kernel, .lst (SqL.of el) (.cons (.int 3) .nil) fun _ => nl⟩
  · exact ⟨_, .dict [], rfl, by decide +kernel, .dic ed rfl⟩
  · exact ⟨_, .int (10 ^ (40 : Int).toNat), rfl, by decide +kernel, .int _⟩
theorem Ms.mono {H H' : Hp} {m c g : Addr} {n : Nat} (sm : Same H H') (M : Ms H m c g n) : Ms H' m c g n := by
  obtain ⟨hd, ⟨cs, h1, h2⟩, ⟨gs, h3, h4⟩, h5⟩ := M
  exact ⟨sm _ _ hd, ⟨cs, h1, sm _ _ h2⟩, ⟨gs, h3, sm _ _ h4⟩, h5⟩
section
variable {P : Program} {w : World} {K : PySem.W.Frag} {mg : Str → Option Value} {base : Heap}
theorem scLaw : FnScope ["script", "m", "turn", "net"] ["script"] (defScope sLaw) := ⟨rfl, rfl, rfl, by decide +kernel, rfl, by decide +kernel, by decide +kernel⟩
theorem ok_law {f fB fD fE fN : Addr} {fd fdB fdD fdE fdN : FuncData} (F : Fun K "law" "law" sLaw f fd) (hrange : mg "range" = none)
    (CB : Cal K mg "_law_begun" fB fdB ["script"]) (GB : FnOk P w K mg base CX0 2 fB fdB ["script"] (spBeg K)) (CD : Cal K mg "_law_draw" fD fdD ["m", "limit"]) (GD : FnOk P w K mg base CX0 2 fD fdD ["m", "limit"] spDra)
    (CE : Cal K mg "_law_each_right" fE fdE ["q"]) (GE : FnG P w K mg base CX0 3 fE fdE ["q"] (spEac K)) (CN : Cal K mg "need_net" fN fdN ["net"]) (GN : FnOk P w K mg base CX0 5 fN fdN ["net"] spNN) :
    FnG P w K mg base CX0 6 f fd ["script"] (spLaw K) := by
  refine Fun.okG F scLaw (fun vs H Q E h => ?_) (fun cdv A outer s H vs Q E gd hr h => ?_)
  · obtain ⟨a, ns, rfl, _⟩ := h
    rfl
  · obtain ⟨a, ns, rfl, hS, few, k⟩ := h
    have hr5 : Room 5 (A.deeper (envOfC "law" (defScope sLaw) s.heap.objs.size f cdv)) := hr
    have hr3 := hr5.mono (show 3 ≤ 5 by decide)
    have hr2 := hr5.mono (show 2 ≤ 5 by decide)
    have hu64 := hr5.units
    have gd2 : (A.deeper (envOfC "law" (defScope sLaw) s.heap.objs.size f cdv)).guards = some [] := gd
    refine ⟨_, pss_cons (ps_set (i := 1) scLaw.nd rfl (.inl rfl) (pe_call GB hr2 (by rfl) CB.g CB.k CB.b .nil pass0 (pa_cons (pv 0) pa_nil)))
      (pss_cons (ps_for PassesOwn.never rfl (pi_range1 (by rfl) hrange (pa_cons pe_int pa_nil)) (pg_name (i := 2) scLaw.nd rfl (.inl rfl))
        (pss_one (ps_if (pt_not (pt_val (pe_callG GE gd2 hr3 (by rfl) CE.g CE.k CE.b pass0 (pa_cons (pe_ix ix_list (pe_lst (pa_cons pe_non (pa_cons pe_int (pa_cons pe_int (pa_cons (pe_tup (pa_cons pe_int (pa_cons pe_int pa_nil))) (pa_cons pe_str (pa_cons (pe_lstN (pa_cons pe_int pa_nil)) (pa_cons pe_dnewK (pa_cons (pe_op op_pow pe_int pe_int) pa_nil)))))))))
          (pe_call GD hr2 (by rfl) CD.g CD.k CD.b .nil pass0 (pa_cons (pv 1) (pa_cons pe_int pa_nil))) (fun _ _ => rfl)) pa_nil)))) (pss_one (ps_ret pe_bl)) pss_nil)))
      (pss_cons (ps_set (i := 3) scLaw.nd rfl (.inl rfl) (pe_tup (pa_cons (pe_tup (pa_cons (pe_tup (pa_cons pe_int (pa_cons pe_int pa_nil))) pa_nil)) (pa_cons (pe_tup (pa_cons pe_str pa_nil)) (pa_cons (pe_tup pa_nil) pa_nil)))))
      (pss_one (ps_ret (pe_cmpR (op_eqD hu64) (pe_call GN hr5 (by rfl) CN.g CN.k CN.b .nil pass0 (pa_cons (pv 3) pa_nil)) (pv 3) (nomark _)))))), ?_⟩
    have z1 : ∀ {x : V}, [x].length ≤ sizeLine := fun {x} => by
      show 1 ≤ sizeLine
      rw [sizeLine_eq]
      decide
    have z2 : ∀ {x y : V}, [x, y].length ≤ sizeLine := fun {x y} => by
      show 2 ≤ sizeLine
      rw [sizeLine_eq]
      decide
    refine ⟨_, rfl, a, ns, rfl, hS, few, fun H1 m c g sm nm nc ng M => ?_⟩
    -- for turn in range(4)
    refine ⟨4, rfl, by decide, by decide, for_range (lo := 0) (n := 4) (fun i σ H' => ∃ v2 v3 : Option V, σ = [some (.ref a), some (.ref m), v2, v3] ∧ Ms H' m c g i) ⟨_, _, rfl, M⟩ ?_ ?_⟩
    · rintro i σ H2 hi ⟨v2, v3, rfl, M⟩
      refine ⟨z2, fun t nt => ⟨z1, fun l nl nls => fun dd nd => ⟨_, _, rfl, rfl, ⟨by decide, by decide, by decide⟩, ?_⟩⟩⟩
      have st := same_upd (o := .tup [.int 1, .int 2]) nt
      have sl := st.trans (same_upd (o := .lst [.int 3]) nl)
      have sd := sl.trans (same_upd (o := .dK []) nd)
      have M1 := M.mono sd
      have et := same_upd (o := .dK []) nd _ _ (same_upd (o := .lst [.int 3]) nl _ _ (upd_same (H := H2) (a := t) (o := .tup [.int 1, .int 2])))
      have el := same_upd (o := .dK []) nd _ _ (upd_same (H := upd H2 t (.tup [.int 1, .int 2])) (a := l) (o := .lst [.int 3]))
      have ed := upd_same (H := upd (upd H2 t (.tup [.int 1, .int 2])) l (.lst [.int 3])) (a := dd) (o := .dK [])
      obtain ⟨gs, _, atg⟩ := M.hg
      have atm := M.hd
      refine ⟨by show 8 ≤ sizeLine; rw [sizeLine_eq]; decide, fun p np => ?_⟩
      have sp := same_upd (o := .lst [V.non, .int 0, .int 7, .ref t, .str "x", .ref l, .ref dd, .int (10 ^ (40 : Int).toNat)]) np
      refine ⟨_, rfl, m, c, g, i, 8, rfl, by decide, by decide, by omega, M1.mono sp, fun r H3 r0 r1 M3 keep => ?_⟩
      have et3 := keep t _ (sp _ _ et) (ne_of_none atm nt).symm (ne_of_none atg nt).symm
      have el3 := keep l _ (sp _ _ el) (ne_of_none (st _ _ atm) nl).symm (ne_of_none (st _ _ atg) nl).symm
      have ed3 := keep dd _ (sp _ _ ed) (ne_of_none (sl _ _ atm) nd).symm (ne_of_none (sl _ _ atg) nd).symm
      have ep3 := keep p _ upd_same (ne_of_none (sd _ _ atm) np).symm (ne_of_none (sd _ _ atg) np).symm
      obtain ⟨v, d, hv, fd_, dv⟩ := pick8 (K := K) r0 r1 et3 el3 ed3 nls
      refine ⟨p, _, _, v, rfl, rfl, SqL.of ep3, hv, v, d, rfl, dv, fd_, fun H4 s4 => ⟨_, rfl, iteF ?_⟩⟩
      exact ⟨_, _, rfl, M3.mono s4⟩
    rintro σ H2 ⟨v2, v3, rfl, M⟩
    -- net = (((0, 0),), ('a',), ())
    refine ⟨z2, fun p np => ⟨z1, fun r nr => ⟨z1, fun l nl => ⟨by show 0 ≤ sizeLine; exact Nat.zero_le _, fun e ne => ⟨by show 3 ≤ sizeLine; rw [sizeLine_eq]; decide, fun n nn => ?_⟩⟩⟩⟩⟩
    have e5 := same_upd (o := .tup [.ref r, .ref l, .ref e]) nn
    have e4 := same_upd (o := .tup []) ne
    have e3 := same_upd (o := .tup [.str "a"]) nl
    have e2 := same_upd (o := .tup [.ref p]) nr
    have ap := e5 _ _ (e4 _ _ (e3 _ _ (e2 _ _ (upd_same (H := H2) (a := p) (o := .tup [.int 0, .int 0])))))
    have ar := e5 _ _ (e4 _ _ (e3 _ _ (upd_same (H := upd H2 p (.tup [.int 0, .int 0])) (a := r) (o := .tup [.ref p]))))
    have al := e5 _ _ (e4 _ _ (upd_same (H := upd (upd H2 p (.tup [.int 0, .int 0])) r (.tup [.ref p])) (a := l) (o := .tup [.str "a"])))
    have ae := e5 _ _ (upd_same (H := upd (upd (upd H2 p (.tup [.int 0, .int 0])) r (.tup [.ref p])) l (.tup [.str "a"])) (a := e) (o := .tup []))
    refine ⟨_, rfl, n, r, p, l, e, rfl, upd_same, ar, ap, al, ae, fun H5 s5 => ?_⟩
    have D : Dp K H5 (.ref n) (.tuple [.tuple [.tuple [.int 0, .int 0]], .tuple [.str "a"], .tuple []]) :=
      .tup (SqT.of (s5 _ _ upd_same)) (.cons (.tup (SqT.of (s5 _ _ ar)) (.cons (.tup (SqT.of (s5 _ _ ap)) (.cons (.int 0) (.cons (.int 0) .nil))) .nil)) (.cons (.tup (SqT.of (s5 _ _ al)) (.cons (.str _) .nil)) (.cons (.tup (SqT.of (s5 _ _ ae)) .nil) .nil)))
    refine ⟨_, rfl, _, _, D, D, by decide +kernel, by decide +kernel, ?_⟩
    have z : PyData.eqv (.tuple [.tuple [.tuple [.int 0, .int 0]], .tuple [.str "a"], .tuple []]) (.tuple [.tuple [.tuple [.int 0, .int 0]], .tuple [.str "a"], .tuple []]) = true := by decide +kernel
    rw [z]
    exact k _
end
end Lr

namespace Lr
open PySem PySem.Spec PyProof.Rows L2

theorem all_mk {l : PySem.W.OpenLaw} {w : World} {K : PySem.W.Frag} {h : Heap} {mg : Str → Option Value} {fa cNE c0 c1 c2 c3 c4 c5 c6 c7 c8 c9 c10 fM fF fD fB fE fW fNu fTu fPa fWo fHo fHp fLa fNN fNR fNL fNW f0 f1 f2 f3 f4 f5 f6 f7 f8 f9 f10 : Addr} (X : K.In h) (G : h.Ns mainGlobals mg) (hfa : mg "law" = some (.ref fa))
    {odM anM odF anF odD anD odB anB odE anE odW anW odNu anNu odTu anTu odPa anPa odWo anWo odHo anHo odHp anHp odLa anLa odNN anNN odNR anNR odNL anNL odNW anNW od0 an0 od1 an1 od2 an2 od3 an3 od4 an4 od5 an5 od6 an6 od7 an7 od8 an8 od9 an9 od10 an10 : Option Addr} {slM slF slD slB slE slW slNu slTu slPa slWo slHo slHp slLa slNN slNR slNL slNW sl0 sl1 sl2 sl3 sl4 sl5 sl6 sl7 sl8 sl9 sl10 : Array (Option Value)} {ocM kVM dcM pmM cdM ctM ocF kVF dcF pmF cdF ctF ocD kVD dcD pmD cdD ctD ocB kVB dcB pmB cdB ctB ocE kVE dcE pmE cdE ctE ocW kVW dcW pmW cdW ctW ocNu kVNu dcNu pmNu cdNu ctNu ocTu kVTu dcTu pmTu cdTu ctTu ocPa kVPa dcPa pmPa cdPa ctPa ocWo kVWo dcWo pmWo cdWo ctWo ocHo kVHo dcHo pmHo cdHo ctHo ocHp kVHp dcHp pmHp cdHp ctHp ocLa kVLa dcLa pmLa cdLa ctLa ocNN kVNN dcNN pmNN cdNN ctNN ocNR kVNR dcNR pmNR cdNR ctNR ocNL kVNL dcNL pmNL cdNL ctNL ocNW kVNW dcNW pmNW cdNW ctNW oc0 kV0 dc0 pm0 cd0 ct0 oc1 kV1 dc1 pm1 cd1 ct1 oc2 kV2 dc2 pm2 cd2 ct2 oc3 kV3 dc3 pm3 cd3 ct3 oc4 kV4 dc4 pm4 cd4 ct4 oc5 kV5 dc5 pm5 cd5 ct5 oc6 kV6 dc6 pm6 cd6 ct6 oc7 kV7 dc7 pm7 cd7 ct7 oc8 kV8 dc8 pm8 cd8 ct8 oc9 kV9 dc9 pm9 cd9 ct9 oc10 kV10 dc10 pm10 cd10 ct10 : Value} {t_MOST_HOUSE t_MOST_LETTERS t_MOST_ROADS t_MOST_LABELS : Tok}
    {nm0 q0 : Str} {N0 : Addr} {bs0 : List Value} {sn0 : List Str} {sub0 : List Value} {ab0 : Bool} {col0 : Option Bool} {dd0 : Option Addr} {m00 m10 m20 m30 m50 : Option Value} {nm1 q1 : Str} {N1 : Addr} {bs1 : List Value} {sn1 : List Str} {sub1 : List Value} {ab1 : Bool} {col1 : Option Bool} {dd1 : Option Addr} {m01 m11 m21 m31 m51 : Option Value} {nm2 q2 : Str} {N2 : Addr} {bs2 : List Value} {sn2 : List Str} {sub2 : List Value} {ab2 : Bool} {col2 : Option Bool} {dd2 : Option Addr} {m02 m12 m22 m32 m52 : Option Value} {nm3 q3 : Str} {N3 : Addr} {bs3 : List Value} {sn3 : List Str} {sub3 : List Value} {ab3 : Bool} {col3 : Option Bool} {dd3 : Option Addr} {m03 m13 m23 m33 m53 : Option Value} {nm4 q4 : Str} {N4 : Addr} {bs4 : List Value} {sn4 : List Str} {sub4 : List Value} {ab4 : Bool} {col4 : Option Bool} {dd4 : Option Addr} {m04 m14 m24 m34 m54 : Option Value} {nm5 q5 : Str} {N5 : Addr} {bs5 : List Value} {sn5 : List Str} {sub5 : List Value} {ab5 : Bool} {col5 : Option Bool} {dd5 : Option Addr} {m05 m15 m25 m35 m55 : Option Value} {nm6 q6 : Str} {N6 : Addr} {bs6 : List Value} {sn6 : List Str} {sub6 : List Value} {ab6 : Bool} {col6 : Option Bool} {dd6 : Option Addr} {m06 m16 m26 m36 m56 : Option Value} {nm7 q7 : Str} {N7 : Addr} {bs7 : List Value} {sn7 : List Str} {sub7 : List Value} {ab7 : Bool} {col7 : Option Bool} {dd7 : Option Addr} {m07 m17 m27 m37 m57 : Option Value} {nm8 q8 : Str} {N8 : Addr} {bs8 : List Value} {sn8 : List Str} {sub8 : List Value} {ab8 : Bool} {col8 : Option Bool} {dd8 : Option Addr} {m08 m18 m28 m38 m58 : Option Value} {nm9 q9 : Str} {N9 : Addr} {bs9 : List Value} {sn9 : List Str} {sub9 : List Value} {ab9 : Bool} {col9 : Option Bool} {dd9 : Option Addr} {m09 m19 m29 m39 m59 : Option Value} {nm10 q10 : Str} {N10 : Addr} {bs10 : List Value} {sn10 : List Str} {sub10 : List Value} {ab10 : Bool} {col10 : Option Bool} {dd10 : Option Addr} {m010 m110 m210 m310 m510 : Option Value}
    (aM : PySem.W.nsIn K mainGlobals "_law_mixed" = some (some (.ref fM)))
    (lM : K.lookup fM = some ⟨ocM, odM, .func (PySem.W.fnOf "_law_mixed" "_law_mixed" (defArgs sMix) (defBody sMix) (defScope sMix) .none kVM dcM pmM anM cdM ctM), slM⟩)
    (dM : PySem.W.codeIn K cdM "_law_mixed" = true)
    (kM : PySem.W.keepIn K (.ref fM) = true)
    (aF : PySem.W.nsIn K mainGlobals "_law_folded" = some (some (.ref fF)))
    (lF : K.lookup fF = some ⟨ocF, odF, .func (PySem.W.fnOf "_law_folded" "_law_folded" (defArgs sFol) (defBody sFol) (defScope sFol) .none kVF dcF pmF anF cdF ctF), slF⟩)
    (dF : PySem.W.codeIn K cdF "_law_folded" = true)
    (kF : PySem.W.keepIn K (.ref fF) = true)
    (aD : PySem.W.nsIn K mainGlobals "_law_draw" = some (some (.ref fD)))
    (lD : K.lookup fD = some ⟨ocD, odD, .func (PySem.W.fnOf "_law_draw" "_law_draw" (defArgs sDra) (defBody sDra) (defScope sDra) .none kVD dcD pmD anD cdD ctD), slD⟩)
    (dD : PySem.W.codeIn K cdD "_law_draw" = true)
    (kD : PySem.W.keepIn K (.ref fD) = true)
    (aB : PySem.W.nsIn K mainGlobals "_law_begun" = some (some (.ref fB)))
    (lB : K.lookup fB = some ⟨ocB, odB, .func (PySem.W.fnOf "_law_begun" "_law_begun" (defArgs sBeg) (defBody sBeg) (defScope sBeg) .none kVB dcB pmB anB cdB ctB), slB⟩)
    (dB : PySem.W.codeIn K cdB "_law_begun" = true)
    (kB : PySem.W.keepIn K (.ref fB) = true)
    (aE : PySem.W.nsIn K mainGlobals "_law_each_right" = some (some (.ref fE)))
    (lE : K.lookup fE = some ⟨ocE, odE, .func (PySem.W.fnOf "_law_each_right" "_law_each_right" (defArgs sEac) (defBody sEac) (defScope sEac) .none kVE dcE pmE anE cdE ctE), slE⟩)
    (dE : PySem.W.codeIn K cdE "_law_each_right" = true)
    (kE : PySem.W.keepIn K (.ref fE) = true)
    (aW : PySem.W.nsIn K mainGlobals "law" = some (some (.ref fW)))
    (lW : K.lookup fW = some ⟨ocW, odW, .func (PySem.W.fnOf "law" "law" (defArgs sLaw) (defBody sLaw) (defScope sLaw) .none kVW dcW pmW anW cdW ctW), slW⟩)
    (dW : PySem.W.codeIn K cdW "law" = true)
    (kW : PySem.W.keepIn K (.ref fW) = true)
    (aNu : PySem.W.nsIn K mainGlobals "is_number" = some (some (.ref fNu)))
    (lNu : K.lookup fNu = some ⟨ocNu, odNu, .func (PySem.W.fnOf "is_number" "is_number" (defArgs sNu) (defBody sNu) (defScope sNu) .none kVNu dcNu pmNu anNu cdNu ctNu), slNu⟩)
    (dNu : PySem.W.codeIn K cdNu "is_number" = true)
    (kNu : PySem.W.keepIn K (.ref fNu) = true)
    (aTu : PySem.W.nsIn K mainGlobals "is_tuple" = some (some (.ref fTu)))
    (lTu : K.lookup fTu = some ⟨ocTu, odTu, .func (PySem.W.fnOf "is_tuple" "is_tuple" (defArgs sTu) (defBody sTu) (defScope sTu) .none kVTu dcTu pmTu anTu cdTu ctTu), slTu⟩)
    (dTu : PySem.W.codeIn K cdTu "is_tuple" = true)
    (kTu : PySem.W.keepIn K (.ref fTu) = true)
    (aPa : PySem.W.nsIn K mainGlobals "is_pair" = some (some (.ref fPa)))
    (lPa : K.lookup fPa = some ⟨ocPa, odPa, .func (PySem.W.fnOf "is_pair" "is_pair" (defArgs sPa) (defBody sPa) (defScope sPa) .none kVPa dcPa pmPa anPa cdPa ctPa), slPa⟩)
    (dPa : PySem.W.codeIn K cdPa "is_pair" = true)
    (kPa : PySem.W.keepIn K (.ref fPa) = true)
    (aWo : PySem.W.nsIn K mainGlobals "is_word" = some (some (.ref fWo)))
    (lWo : K.lookup fWo = some ⟨ocWo, odWo, .func (PySem.W.fnOf "is_word" "is_word" (defArgs sWo) (defBody sWo) (defScope sWo) .none kVWo dcWo pmWo anWo cdWo ctWo), slWo⟩)
    (dWo : PySem.W.codeIn K cdWo "is_word" = true)
    (kWo : PySem.W.keepIn K (.ref fWo) = true)
    (aHo : PySem.W.nsIn K mainGlobals "is_house" = some (some (.ref fHo)))
    (lHo : K.lookup fHo = some ⟨ocHo, odHo, .func (PySem.W.fnOf "is_house" "is_house" (defArgs sHo) (defBody sHo) (defScope sHo) .none kVHo dcHo pmHo anHo cdHo ctHo), slHo⟩)
    (dHo : PySem.W.codeIn K cdHo "is_house" = true)
    (kHo : PySem.W.keepIn K (.ref fHo) = true)
    (aHp : PySem.W.nsIn K mainGlobals "is_house_pair" = some (some (.ref fHp)))
    (lHp : K.lookup fHp = some ⟨ocHp, odHp, .func (PySem.W.fnOf "is_house_pair" "is_house_pair" (defArgs sHp) (defBody sHp) (defScope sHp) .none kVHp dcHp pmHp anHp cdHp ctHp), slHp⟩)
    (dHp : PySem.W.codeIn K cdHp "is_house_pair" = true)
    (kHp : PySem.W.keepIn K (.ref fHp) = true)
    (aLa : PySem.W.nsIn K mainGlobals "can_be_label" = some (some (.ref fLa)))
    (lLa : K.lookup fLa = some ⟨ocLa, odLa, .func (PySem.W.fnOf "can_be_label" "can_be_label" (defArgs sLa) (defBody sLa) (defScope sLa) .none kVLa dcLa pmLa anLa cdLa ctLa), slLa⟩)
    (dLa : PySem.W.codeIn K cdLa "can_be_label" = true)
    (kLa : PySem.W.keepIn K (.ref fLa) = true)
    (aNN : PySem.W.nsIn K mainGlobals "need_net" = some (some (.ref fNN)))
    (lNN : K.lookup fNN = some ⟨ocNN, odNN, .func (PySem.W.fnOf "need_net" "need_net" (defArgs sNN) (defBody sNN) (defScope sNN) .none kVNN dcNN pmNN anNN cdNN ctNN), slNN⟩)
    (dNN : PySem.W.codeIn K cdNN "need_net" = true)
    (kNN : PySem.W.keepIn K (.ref fNN) = true)
    (aNR : PySem.W.nsIn K mainGlobals "need_roads" = some (some (.ref fNR)))
    (lNR : K.lookup fNR = some ⟨ocNR, odNR, .func (PySem.W.fnOf "need_roads" "need_roads" (defArgs sNR) (defBody sNR) (defScope sNR) .none kVNR dcNR pmNR anNR cdNR ctNR), slNR⟩)
    (dNR : PySem.W.codeIn K cdNR "need_roads" = true)
    (kNR : PySem.W.keepIn K (.ref fNR) = true)
    (aNL : PySem.W.nsIn K mainGlobals "need_labels" = some (some (.ref fNL)))
    (lNL : K.lookup fNL = some ⟨ocNL, odNL, .func (PySem.W.fnOf "need_labels" "need_labels" (defArgs sNL) (defBody sNL) (defScope sNL) .none kVNL dcNL pmNL anNL cdNL ctNL), slNL⟩)
    (dNL : PySem.W.codeIn K cdNL "need_labels" = true)
    (kNL : PySem.W.keepIn K (.ref fNL) = true)
    (aNW : PySem.W.nsIn K mainGlobals "need_rows" = some (some (.ref fNW)))
    (lNW : K.lookup fNW = some ⟨ocNW, odNW, .func (PySem.W.fnOf "need_rows" "need_rows" (defArgs sNW) (defBody sNW) (defScope sNW) .none kVNW dcNW pmNW anNW cdNW ctNW), slNW⟩)
    (dNW : PySem.W.codeIn K cdNW "need_rows" = true)
    (kNW : PySem.W.keepIn K (.ref fNW) = true)
    (aNE : PySem.W.nsIn K mainGlobals "NetError" = some (some (.ref cNE)))
    (aC0 : PySem.W.nsIn K mainGlobals "BadNet" = some (some (.ref c0)))
    (xL0 : K.lookup c0 = some (excClassObj nm0 q0 c0 N0 bs0 [.ref cNE, .type "ValueError", .type "Exception", .type "BaseException", .type "object"] true sn0 sub0 ab0 col0 dd0 m00 m10 m20 m30 m50 "ValueError.__new__"))
    (sa0 : PySem.W.findIn K (.ref c0) "__setattr__" = some (some (.builtin "object.__setattr__")))
    (ga0 : PySem.W.findIn K (.ref c0) "__getattribute__" = some (some (.builtin "BaseException.__getattribute__")))
    (gg0 : PySem.W.findIn K (.ref c0) "__getattr__" = some none)
    (ex0 : PySem.W.subIn K (.ref c0) (.type "BaseException") = some true)
    (kp0 : PySem.W.keepIn K (.ref c0) = true)
    (hd0 : PySem.W.hasDictIn K c0 = true)
    (ha0 : PySem.W.findIn K (.ref c0) "__class__" = some (some (.builtin "object.__class__")))
    (hm0 : PySem.W.mroIn K c0 (.type "object") = some true)
    (ai0 : PySem.W.findIn K (.ref c0) "__init__" = some (some (.ref f0)))
    (ti0 : PySem.W.typeIn K (.ref f0) = some (.type "function"))
    (l0 : K.lookup f0 = some ⟨oc0, od0, .func (PySem.W.fnOf "__init__" "BadNet.__init__" (defArgs sI0) (defBody sI0) (defScope sI0) .none kV0 dc0 pm0 an0 cd0 ct0), sl0⟩)
    (d0 : PySem.W.codeIn K cd0 "BadNet.__init__" = true)
    (k0 : PySem.W.keepIn K (.ref f0) = true)
    (fr0 : PySem.W.findIn K (.ref c0) "place" = some none)
    (aC1 : PySem.W.nsIn K mainGlobals "BadNumber" = some (some (.ref c1)))
    (xL1 : K.lookup c1 = some (excClassObj nm1 q1 c1 N1 bs1 [.ref cNE, .type "ValueError", .type "Exception", .type "BaseException", .type "object"] true sn1 sub1 ab1 col1 dd1 m01 m11 m21 m31 m51 "ValueError.__new__"))
    (sa1 : PySem.W.findIn K (.ref c1) "__setattr__" = some (some (.builtin "object.__setattr__")))
    (ga1 : PySem.W.findIn K (.ref c1) "__getattribute__" = some (some (.builtin "BaseException.__getattribute__")))
    (gg1 : PySem.W.findIn K (.ref c1) "__getattr__" = some none)
    (ex1 : PySem.W.subIn K (.ref c1) (.type "BaseException") = some true)
    (kp1 : PySem.W.keepIn K (.ref c1) = true)
    (hd1 : PySem.W.hasDictIn K c1 = true)
    (ha1 : PySem.W.findIn K (.ref c1) "__class__" = some (some (.builtin "object.__class__")))
    (hm1 : PySem.W.mroIn K c1 (.type "object") = some true)
    (ai1 : PySem.W.findIn K (.ref c1) "__init__" = some (some (.ref f1)))
    (ti1 : PySem.W.typeIn K (.ref f1) = some (.type "function"))
    (l1 : K.lookup f1 = some ⟨oc1, od1, .func (PySem.W.fnOf "__init__" "BadNumber.__init__" (defArgs sI1) (defBody sI1) (defScope sI1) .none kV1 dc1 pm1 an1 cd1 ct1), sl1⟩)
    (d1 : PySem.W.codeIn K cd1 "BadNumber.__init__" = true)
    (k1 : PySem.W.keepIn K (.ref f1) = true)
    (fr1 : PySem.W.findIn K (.ref c1) "value" = some none)
    (aC2 : PySem.W.nsIn K mainGlobals "BadRoad" = some (some (.ref c2)))
    (xL2 : K.lookup c2 = some (excClassObj nm2 q2 c2 N2 bs2 [.ref cNE, .type "ValueError", .type "Exception", .type "BaseException", .type "object"] true sn2 sub2 ab2 col2 dd2 m02 m12 m22 m32 m52 "ValueError.__new__"))
    (sa2 : PySem.W.findIn K (.ref c2) "__setattr__" = some (some (.builtin "object.__setattr__")))
    (ga2 : PySem.W.findIn K (.ref c2) "__getattribute__" = some (some (.builtin "BaseException.__getattribute__")))
    (gg2 : PySem.W.findIn K (.ref c2) "__getattr__" = some none)
    (ex2 : PySem.W.subIn K (.ref c2) (.type "BaseException") = some true)
    (kp2 : PySem.W.keepIn K (.ref c2) = true)
    (hd2 : PySem.W.hasDictIn K c2 = true)
    (ha2 : PySem.W.findIn K (.ref c2) "__class__" = some (some (.builtin "object.__class__")))
    (hm2 : PySem.W.mroIn K c2 (.type "object") = some true)
    (ai2 : PySem.W.findIn K (.ref c2) "__init__" = some (some (.ref f2)))
    (ti2 : PySem.W.typeIn K (.ref f2) = some (.type "function"))
    (l2 : K.lookup f2 = some ⟨oc2, od2, .func (PySem.W.fnOf "__init__" "BadRoad.__init__" (defArgs sI2) (defBody sI2) (defScope sI2) .none kV2 dc2 pm2 an2 cd2 ct2), sl2⟩)
    (d2 : PySem.W.codeIn K cd2 "BadRoad.__init__" = true)
    (k2 : PySem.W.keepIn K (.ref f2) = true)
    (fr2 : PySem.W.findIn K (.ref c2) "value" = some none)
    (aC3 : PySem.W.nsIn K mainGlobals "BadHead" = some (some (.ref c3)))
    (xL3 : K.lookup c3 = some (excClassObj nm3 q3 c3 N3 bs3 [.ref cNE, .type "ValueError", .type "Exception", .type "BaseException", .type "object"] true sn3 sub3 ab3 col3 dd3 m03 m13 m23 m33 m53 "ValueError.__new__"))
    (sa3 : PySem.W.findIn K (.ref c3) "__setattr__" = some (some (.builtin "object.__setattr__")))
    (ga3 : PySem.W.findIn K (.ref c3) "__getattribute__" = some (some (.builtin "BaseException.__getattribute__")))
    (gg3 : PySem.W.findIn K (.ref c3) "__getattr__" = some none)
    (ex3 : PySem.W.subIn K (.ref c3) (.type "BaseException") = some true)
    (kp3 : PySem.W.keepIn K (.ref c3) = true)
    (hd3 : PySem.W.hasDictIn K c3 = true)
    (ha3 : PySem.W.findIn K (.ref c3) "__class__" = some (some (.builtin "object.__class__")))
    (hm3 : PySem.W.mroIn K c3 (.type "object") = some true)
    (ai3 : PySem.W.findIn K (.ref c3) "__init__" = some (some (.ref f3)))
    (ti3 : PySem.W.typeIn K (.ref f3) = some (.type "function"))
    (l3 : K.lookup f3 = some ⟨oc3, od3, .func (PySem.W.fnOf "__init__" "BadHead.__init__" (defArgs sI3) (defBody sI3) (defScope sI3) .none kV3 dc3 pm3 an3 cd3 ct3), sl3⟩)
    (d3 : PySem.W.codeIn K cd3 "BadHead.__init__" = true)
    (k3 : PySem.W.keepIn K (.ref f3) = true)
    (fr3 : PySem.W.findIn K (.ref c3) "value" = some none)
    (aC4 : PySem.W.nsIn K mainGlobals "BadFailed" = some (some (.ref c4)))
    (xL4 : K.lookup c4 = some (excClassObj nm4 q4 c4 N4 bs4 [.ref cNE, .type "ValueError", .type "Exception", .type "BaseException", .type "object"] true sn4 sub4 ab4 col4 dd4 m04 m14 m24 m34 m54 "ValueError.__new__"))
    (sa4 : PySem.W.findIn K (.ref c4) "__setattr__" = some (some (.builtin "object.__setattr__")))
    (ga4 : PySem.W.findIn K (.ref c4) "__getattribute__" = some (some (.builtin "BaseException.__getattribute__")))
    (gg4 : PySem.W.findIn K (.ref c4) "__getattr__" = some none)
    (ex4 : PySem.W.subIn K (.ref c4) (.type "BaseException") = some true)
    (kp4 : PySem.W.keepIn K (.ref c4) = true)
    (hd4 : PySem.W.hasDictIn K c4 = true)
    (ha4 : PySem.W.findIn K (.ref c4) "__class__" = some (some (.builtin "object.__class__")))
    (hm4 : PySem.W.mroIn K c4 (.type "object") = some true)
    (ai4 : PySem.W.findIn K (.ref c4) "__init__" = some (some (.ref f4)))
    (ti4 : PySem.W.typeIn K (.ref f4) = some (.type "function"))
    (l4 : K.lookup f4 = some ⟨oc4, od4, .func (PySem.W.fnOf "__init__" "BadFailed.__init__" (defArgs sI4) (defBody sI4) (defScope sI4) .none kV4 dc4 pm4 an4 cd4 ct4), sl4⟩)
    (d4 : PySem.W.codeIn K cd4 "BadFailed.__init__" = true)
    (k4 : PySem.W.keepIn K (.ref f4) = true)
    (fr4 : PySem.W.findIn K (.ref c4) "value" = some none)
    (aC5 : PySem.W.nsIn K mainGlobals "BadParcel" = some (some (.ref c5)))
    (xL5 : K.lookup c5 = some (excClassObj nm5 q5 c5 N5 bs5 [.ref cNE, .type "ValueError", .type "Exception", .type "BaseException", .type "object"] true sn5 sub5 ab5 col5 dd5 m05 m15 m25 m35 m55 "ValueError.__new__"))
    (sa5 : PySem.W.findIn K (.ref c5) "__setattr__" = some (some (.builtin "object.__setattr__")))
    (ga5 : PySem.W.findIn K (.ref c5) "__getattribute__" = some (some (.builtin "BaseException.__getattribute__")))
    (gg5 : PySem.W.findIn K (.ref c5) "__getattr__" = some none)
    (ex5 : PySem.W.subIn K (.ref c5) (.type "BaseException") = some true)
    (kp5 : PySem.W.keepIn K (.ref c5) = true)
    (hd5 : PySem.W.hasDictIn K c5 = true)
    (ha5 : PySem.W.findIn K (.ref c5) "__class__" = some (some (.builtin "object.__class__")))
    (hm5 : PySem.W.mroIn K c5 (.type "object") = some true)
    (ai5 : PySem.W.findIn K (.ref c5) "__init__" = some (some (.ref f5)))
    (ti5 : PySem.W.typeIn K (.ref f5) = some (.type "function"))
    (l5 : K.lookup f5 = some ⟨oc5, od5, .func (PySem.W.fnOf "__init__" "BadParcel.__init__" (defArgs sI5) (defBody sI5) (defScope sI5) .none kV5 dc5 pm5 an5 cd5 ct5), sl5⟩)
    (d5 : PySem.W.codeIn K cd5 "BadParcel.__init__" = true)
    (k5 : PySem.W.keepIn K (.ref f5) = true)
    (fr5 : PySem.W.findIn K (.ref c5) "value" = some none)
    (aC6 : PySem.W.nsIn K mainGlobals "BadChoices" = some (some (.ref c6)))
    (xL6 : K.lookup c6 = some (excClassObj nm6 q6 c6 N6 bs6 [.ref cNE, .type "ValueError", .type "Exception", .type "BaseException", .type "object"] true sn6 sub6 ab6 col6 dd6 m06 m16 m26 m36 m56 "ValueError.__new__"))
    (sa6 : PySem.W.findIn K (.ref c6) "__setattr__" = some (some (.builtin "object.__setattr__")))
    (ga6 : PySem.W.findIn K (.ref c6) "__getattribute__" = some (some (.builtin "BaseException.__getattribute__")))
    (gg6 : PySem.W.findIn K (.ref c6) "__getattr__" = some none)
    (ex6 : PySem.W.subIn K (.ref c6) (.type "BaseException") = some true)
    (kp6 : PySem.W.keepIn K (.ref c6) = true)
    (hd6 : PySem.W.hasDictIn K c6 = true)
    (ha6 : PySem.W.findIn K (.ref c6) "__class__" = some (some (.builtin "object.__class__")))
    (hm6 : PySem.W.mroIn K c6 (.type "object") = some true)
    (ai6 : PySem.W.findIn K (.ref c6) "__init__" = some (some (.ref f6)))
    (ti6 : PySem.W.typeIn K (.ref f6) = some (.type "function"))
    (l6 : K.lookup f6 = some ⟨oc6, od6, .func (PySem.W.fnOf "__init__" "BadChoices.__init__" (defArgs sI6) (defBody sI6) (defScope sI6) .none kV6 dc6 pm6 an6 cd6 ct6), sl6⟩)
    (d6 : PySem.W.codeIn K cd6 "BadChoices.__init__" = true)
    (k6 : PySem.W.keepIn K (.ref f6) = true)
    (fr6 : PySem.W.findIn K (.ref c6) "place" = some none)
    (aC7 : PySem.W.nsIn K mainGlobals "BadShape" = some (some (.ref c7)))
    (xL7 : K.lookup c7 = some (excClassObj nm7 q7 c7 N7 bs7 [.ref cNE, .type "ValueError", .type "Exception", .type "BaseException", .type "object"] true sn7 sub7 ab7 col7 dd7 m07 m17 m27 m37 m57 "ValueError.__new__"))
    (sa7 : PySem.W.findIn K (.ref c7) "__setattr__" = some (some (.builtin "object.__setattr__")))
    (ga7 : PySem.W.findIn K (.ref c7) "__getattribute__" = some (some (.builtin "BaseException.__getattribute__")))
    (gg7 : PySem.W.findIn K (.ref c7) "__getattr__" = some none)
    (ex7 : PySem.W.subIn K (.ref c7) (.type "BaseException") = some true)
    (kp7 : PySem.W.keepIn K (.ref c7) = true)
    (hd7 : PySem.W.hasDictIn K c7 = true)
    (ha7 : PySem.W.findIn K (.ref c7) "__class__" = some (some (.builtin "object.__class__")))
    (hm7 : PySem.W.mroIn K c7 (.type "object") = some true)
    (ai7 : PySem.W.findIn K (.ref c7) "__init__" = some (some (.ref f7)))
    (ti7 : PySem.W.typeIn K (.ref f7) = some (.type "function"))
    (l7 : K.lookup f7 = some ⟨oc7, od7, .func (PySem.W.fnOf "__init__" "BadShape.__init__" (defArgs sI7) (defBody sI7) (defScope sI7) .none kV7 dc7 pm7 an7 cd7 ct7), sl7⟩)
    (d7 : PySem.W.codeIn K cd7 "BadShape.__init__" = true)
    (k7 : PySem.W.keepIn K (.ref f7) = true)
    (fr7 : PySem.W.findIn K (.ref c7) "value" = some none)
    (aC8 : PySem.W.nsIn K mainGlobals "BadGoal" = some (some (.ref c8)))
    (xL8 : K.lookup c8 = some (excClassObj nm8 q8 c8 N8 bs8 [.ref cNE, .type "ValueError", .type "Exception", .type "BaseException", .type "object"] true sn8 sub8 ab8 col8 dd8 m08 m18 m28 m38 m58 "ValueError.__new__"))
    (sa8 : PySem.W.findIn K (.ref c8) "__setattr__" = some (some (.builtin "object.__setattr__")))
    (ga8 : PySem.W.findIn K (.ref c8) "__getattribute__" = some (some (.builtin "BaseException.__getattribute__")))
    (gg8 : PySem.W.findIn K (.ref c8) "__getattr__" = some none)
    (ex8 : PySem.W.subIn K (.ref c8) (.type "BaseException") = some true)
    (kp8 : PySem.W.keepIn K (.ref c8) = true)
    (hd8 : PySem.W.hasDictIn K c8 = true)
    (ha8 : PySem.W.findIn K (.ref c8) "__class__" = some (some (.builtin "object.__class__")))
    (hm8 : PySem.W.mroIn K c8 (.type "object") = some true)
    (ai8 : PySem.W.findIn K (.ref c8) "__init__" = some (some (.ref f8)))
    (ti8 : PySem.W.typeIn K (.ref f8) = some (.type "function"))
    (l8 : K.lookup f8 = some ⟨oc8, od8, .func (PySem.W.fnOf "__init__" "BadGoal.__init__" (defArgs sI8) (defBody sI8) (defScope sI8) .none kV8 dc8 pm8 an8 cd8 ct8), sl8⟩)
    (d8 : PySem.W.codeIn K cd8 "BadGoal.__init__" = true)
    (k8 : PySem.W.keepIn K (.ref f8) = true)
    (fr8 : PySem.W.findIn K (.ref c8) "value" = some none)
    (aC9 : PySem.W.nsIn K mainGlobals "BadPaper" = some (some (.ref c9)))
    (xL9 : K.lookup c9 = some (excClassObj nm9 q9 c9 N9 bs9 [.ref cNE, .type "ValueError", .type "Exception", .type "BaseException", .type "object"] true sn9 sub9 ab9 col9 dd9 m09 m19 m29 m39 m59 "ValueError.__new__"))
    (sa9 : PySem.W.findIn K (.ref c9) "__setattr__" = some (some (.builtin "object.__setattr__")))
    (ga9 : PySem.W.findIn K (.ref c9) "__getattribute__" = some (some (.builtin "BaseException.__getattribute__")))
    (gg9 : PySem.W.findIn K (.ref c9) "__getattr__" = some none)
    (ex9 : PySem.W.subIn K (.ref c9) (.type "BaseException") = some true)
    (kp9 : PySem.W.keepIn K (.ref c9) = true)
    (hd9 : PySem.W.hasDictIn K c9 = true)
    (ha9 : PySem.W.findIn K (.ref c9) "__class__" = some (some (.builtin "object.__class__")))
    (hm9 : PySem.W.mroIn K c9 (.type "object") = some true)
    (ai9 : PySem.W.findIn K (.ref c9) "__init__" = some (some (.ref f9)))
    (ti9 : PySem.W.typeIn K (.ref f9) = some (.type "function"))
    (l9 : K.lookup f9 = some ⟨oc9, od9, .func (PySem.W.fnOf "__init__" "BadPaper.__init__" (defArgs sI9) (defBody sI9) (defScope sI9) .none kV9 dc9 pm9 an9 cd9 ct9), sl9⟩)
    (d9 : PySem.W.codeIn K cd9 "BadPaper.__init__" = true)
    (k9 : PySem.W.keepIn K (.ref f9) = true)
    (fr9 : PySem.W.findIn K (.ref c9) "word" = some none)
    (aC10 : PySem.W.nsIn K mainGlobals "TooGreat" = some (some (.ref c10)))
    (xL10 : K.lookup c10 = some (excClassObj nm10 q10 c10 N10 bs10 [.type "OverflowError", .type "ArithmeticError", .type "Exception", .type "BaseException", .type "object"] true sn10 sub10 ab10 col10 dd10 m010 m110 m210 m310 m510 "OverflowError.__new__"))
    (sa10 : PySem.W.findIn K (.ref c10) "__setattr__" = some (some (.builtin "object.__setattr__")))
    (ga10 : PySem.W.findIn K (.ref c10) "__getattribute__" = some (some (.builtin "BaseException.__getattribute__")))
    (gg10 : PySem.W.findIn K (.ref c10) "__getattr__" = some none)
    (ex10 : PySem.W.subIn K (.ref c10) (.type "BaseException") = some true)
    (kp10 : PySem.W.keepIn K (.ref c10) = true)
    (hd10 : PySem.W.hasDictIn K c10 = true)
    (ha10 : PySem.W.findIn K (.ref c10) "__class__" = some (some (.builtin "object.__class__")))
    (hm10 : PySem.W.mroIn K c10 (.type "object") = some true)
    (ai10 : PySem.W.findIn K (.ref c10) "__init__" = some (some (.ref f10)))
    (ti10 : PySem.W.typeIn K (.ref f10) = some (.type "function"))
    (l10 : K.lookup f10 = some ⟨oc10, od10, .func (PySem.W.fnOf "__init__" "TooGreat.__init__" (defArgs sI10) (defBody sI10) (defScope sI10) .none kV10 dc10 pm10 an10 cd10 ct10), sl10⟩)
    (d10 : PySem.W.codeIn K cd10 "TooGreat.__init__" = true)
    (k10 : PySem.W.keepIn K (.ref f10) = true)
    (fr10 : PySem.W.findIn K (.ref c10) "most" = some none)
    (hn : PySem.W.specialIn K (.builtin "object.__class__") "__get__" = some (some (.builtin "getset_descriptor.__get__")))
    (ht : PySem.W.takesIn K (.builtin "object.__class__") = some true)
    (z_int : PySem.W.nsIn K mainGlobals "int" = some none)
    (z_range : PySem.W.nsIn K mainGlobals "range" = some none)
    (z_enumerate : PySem.W.nsIn K mainGlobals "enumerate" = some none)
    (z_len : PySem.W.nsIn K mainGlobals "len" = some none)
    (z_isinstance : PySem.W.nsIn K mainGlobals "isinstance" = some none)
    (z_repr : PySem.W.nsIn K mainGlobals "repr" = some none)
    (z_ValueError : PySem.W.nsIn K mainGlobals "ValueError" = some none)
    (z_OverflowError : PySem.W.nsIn K mainGlobals "OverflowError" = some none)
    (z_all : PySem.W.nsIn K mainGlobals "all" = some none)
    (z_bool : PySem.W.nsIn K mainGlobals "bool" = some none)
    (z_str : PySem.W.nsIn K mainGlobals "str" = some none)
    (z_tuple : PySem.W.nsIn K mainGlobals "tuple" = some none)
    (m_MOST_HOUSE : PySem.W.nsIn K mainGlobals "MOST_HOUSE" = some (some (.int 7 t_MOST_HOUSE)))
    (m_MOST_LETTERS : PySem.W.nsIn K mainGlobals "MOST_LETTERS" = some (some (.int 8 t_MOST_LETTERS)))
    (m_MOST_ROADS : PySem.W.nsIn K mainGlobals "MOST_ROADS" = some (some (.int 10 t_MOST_ROADS)))
    (m_MOST_LABELS : PySem.W.nsIn K mainGlobals "MOST_LABELS" = some (some (.int 4 t_MOST_LABELS)))
    (kt0 : Kits K c0 [c0, c1, c2, c3, c4, c5, c6, c7, c8, c9, c10] [true, false, false, false, false, false, false, false, false, false, false])
    (iN0 : PySem.W.kitOne K (.ref c0) (.ref cNE) = some true)
    (iV0 : PySem.W.kitOne K (.ref c0) (.type "ValueError") = some true)
    (iO0 : PySem.W.kitOne K (.ref c0) (.type "OverflowError") = some false)
    (kt1 : Kits K c1 [c0, c1, c2, c3, c4, c5, c6, c7, c8, c9, c10] [false, true, false, false, false, false, false, false, false, false, false])
    (iN1 : PySem.W.kitOne K (.ref c1) (.ref cNE) = some true)
    (iV1 : PySem.W.kitOne K (.ref c1) (.type "ValueError") = some true)
    (iO1 : PySem.W.kitOne K (.ref c1) (.type "OverflowError") = some false)
    (kt2 : Kits K c2 [c0, c1, c2, c3, c4, c5, c6, c7, c8, c9, c10] [false, false, true, false, false, false, false, false, false, false, false])
    (iN2 : PySem.W.kitOne K (.ref c2) (.ref cNE) = some true)
    (iV2 : PySem.W.kitOne K (.ref c2) (.type "ValueError") = some true)
    (iO2 : PySem.W.kitOne K (.ref c2) (.type "OverflowError") = some false)
    (kt3 : Kits K c3 [c0, c1, c2, c3, c4, c5, c6, c7, c8, c9, c10] [false, false, false, true, false, false, false, false, false, false, false])
    (iN3 : PySem.W.kitOne K (.ref c3) (.ref cNE) = some true)
    (iV3 : PySem.W.kitOne K (.ref c3) (.type "ValueError") = some true)
    (iO3 : PySem.W.kitOne K (.ref c3) (.type "OverflowError") = some false)
    (kt4 : Kits K c4 [c0, c1, c2, c3, c4, c5, c6, c7, c8, c9, c10] [false, false, false, false, true, false, false, false, false, false, false])
    (iN4 : PySem.W.kitOne K (.ref c4) (.ref cNE) = some true)
    (iV4 : PySem.W.kitOne K (.ref c4) (.type "ValueError") = some true)
    (iO4 : PySem.W.kitOne K (.ref c4) (.type "OverflowError") = some false)
    (kt5 : Kits K c5 [c0, c1, c2, c3, c4, c5, c6, c7, c8, c9, c10] [false, false, false, false, false, true, false, false, false, false, false])
    (iN5 : PySem.W.kitOne K (.ref c5) (.ref cNE) = some true)
    (iV5 : PySem.W.kitOne K (.ref c5) (.type "ValueError") = some true)
    (iO5 : PySem.W.kitOne K (.ref c5) (.type "OverflowError") = some false)
    (kt6 : Kits K c6 [c0, c1, c2, c3, c4, c5, c6, c7, c8, c9, c10] [false, false, false, false, false, false, true, false, false, false, false])
    (iN6 : PySem.W.kitOne K (.ref c6) (.ref cNE) = some true)
    (iV6 : PySem.W.kitOne K (.ref c6) (.type "ValueError") = some true)
    (iO6 : PySem.W.kitOne K (.ref c6) (.type "OverflowError") = some false)
    (kt7 : Kits K c7 [c0, c1, c2, c3, c4, c5, c6, c7, c8, c9, c10] [false, false, false, false, false, false, false, true, false, false, false])
    (iN7 : PySem.W.kitOne K (.ref c7) (.ref cNE) = some true)
    (iV7 : PySem.W.kitOne K (.ref c7) (.type "ValueError") = some true)
    (iO7 : PySem.W.kitOne K (.ref c7) (.type "OverflowError") = some false)
    (kt8 : Kits K c8 [c0, c1, c2, c3, c4, c5, c6, c7, c8, c9, c10] [false, false, false, false, false, false, false, false, true, false, false])
    (iN8 : PySem.W.kitOne K (.ref c8) (.ref cNE) = some true)
    (iV8 : PySem.W.kitOne K (.ref c8) (.type "ValueError") = some true)
    (iO8 : PySem.W.kitOne K (.ref c8) (.type "OverflowError") = some false)
    (kt9 : Kits K c9 [c0, c1, c2, c3, c4, c5, c6, c7, c8, c9, c10] [false, false, false, false, false, false, false, false, false, true, false])
    (iN9 : PySem.W.kitOne K (.ref c9) (.ref cNE) = some true)
    (iV9 : PySem.W.kitOne K (.ref c9) (.type "ValueError") = some true)
    (iO9 : PySem.W.kitOne K (.ref c9) (.type "OverflowError") = some false)
    (kt10 : Kits K c10 [c0, c1, c2, c3, c4, c5, c6, c7, c8, c9, c10] [false, false, false, false, false, false, false, false, false, false, true])
    (iN10 : PySem.W.kitOne K (.ref c10) (.ref cNE) = some false)
    (iV10 : PySem.W.kitOne K (.ref c10) (.type "ValueError") = some false)
    (iO10 : PySem.W.kitOne K (.ref c10) (.type "OverflowError") = some true) :
    ∃ fd : FuncData, (∀ (s : Shared) (v : Value), BindsTo s fd ⟨[v], []⟩ [("script", v)]) ∧ ∀ base : Heap, K.In base → base.Ns mainGlobals mg → FnG l.prog w K mg base CX0 6 fa fd ["script"] (spLaw K) := by
  have e := hfa.symm.trans (PySem.W.mg_of X G aW)
  cases e
  have FM := fun_mk (st := sMix) lM dM kM
  have bM := FM.binds (ps := ["cell", "n"]) fun _ _ _ _ _ _ us hl => match us, hl with | [_, _], _ => rfl
  have CM : Cal K mg "_law_mixed" fM _ ["cell", "n"] := ⟨PySem.W.mg_of X G aM, kM, bM⟩
  have FF := fun_mk (st := sFol) lF dF kF
  have bF := FF.binds (ps := ["script"]) fun _ _ _ _ _ _ us hl => match us, hl with | [_], _ => rfl
  have CF : Cal K mg "_law_folded" fF _ ["script"] := ⟨PySem.W.mg_of X G aF, kF, bF⟩
  have FD := fun_mk (st := sDra) lD dD kD
  have bD := FD.binds (ps := ["m", "limit"]) fun _ _ _ _ _ _ us hl => match us, hl with | [_, _], _ => rfl
  have CD : Cal K mg "_law_draw" fD _ ["m", "limit"] := ⟨PySem.W.mg_of X G aD, kD, bD⟩
  have FB := fun_mk (st := sBeg) lB dB kB
  have bB := FB.binds (ps := ["script"]) fun _ _ _ _ _ _ us hl => match us, hl with | [_], _ => rfl
  have CB : Cal K mg "_law_begun" fB _ ["script"] := ⟨PySem.W.mg_of X G aB, kB, bB⟩
  have FE := fun_mk (st := sEac) lE dE kE
  have bE := FE.binds (ps := ["q"]) fun _ _ _ _ _ _ us hl => match us, hl with | [_], _ => rfl
  have CE : Cal K mg "_law_each_right" fE _ ["q"] := ⟨PySem.W.mg_of X G aE, kE, bE⟩
  have FW := fun_mk (st := sLaw) lW dW kW
  have FNu := fun_mk (st := sNu) lNu dNu kNu
  have bNu := FNu.binds (ps := ["value", "least", "greatest"]) fun _ _ _ _ _ _ us hl => match us, hl with | [_, _, _], _ => rfl
  have CNu : Cal K mg "is_number" fNu _ ["value", "least", "greatest"] := ⟨PySem.W.mg_of X G aNu, kNu, bNu⟩
  have FTu := fun_mk (st := sTu) lTu dTu kTu
  have bTu := FTu.binds (ps := ["value", "least", "greatest"]) fun _ _ _ _ _ _ us hl => match us, hl with | [_, _, _], _ => rfl
  have CTu : Cal K mg "is_tuple" fTu _ ["value", "least", "greatest"] := ⟨PySem.W.mg_of X G aTu, kTu, bTu⟩
  have FPa := fun_mk (st := sPa) lPa dPa kPa
  have bPa := FPa.binds (ps := ["value"]) fun _ _ _ _ _ _ us hl => match us, hl with | [_], _ => rfl
  have CPa : Cal K mg "is_pair" fPa _ ["value"] := ⟨PySem.W.mg_of X G aPa, kPa, bPa⟩
  have FWo := fun_mk (st := sWo) lWo dWo kWo
  have bWo := FWo.binds (ps := ["value"]) fun _ _ _ _ _ _ us hl => match us, hl with | [_], _ => rfl
  have CWo : Cal K mg "is_word" fWo _ ["value"] := ⟨PySem.W.mg_of X G aWo, kWo, bWo⟩
  have FHo := fun_mk (st := sHo) lHo dHo kHo
  have bHo := FHo.binds (ps := ["value"]) fun _ _ _ _ _ _ us hl => match us, hl with | [_], _ => rfl
  have CHo : Cal K mg "is_house" fHo _ ["value"] := ⟨PySem.W.mg_of X G aHo, kHo, bHo⟩
  have FHp := fun_mk (st := sHp) lHp dHp kHp
  have bHp := FHp.binds (ps := ["value"]) fun _ _ _ _ _ _ us hl => match us, hl with | [_], _ => rfl
  have CHp : Cal K mg "is_house_pair" fHp _ ["value"] := ⟨PySem.W.mg_of X G aHp, kHp, bHp⟩
  have FLa := fun_mk (st := sLa) lLa dLa kLa
  have bLa := FLa.binds (ps := ["value"]) fun _ _ _ _ _ _ us hl => match us, hl with | [_], _ => rfl
  have CLa : Cal K mg "can_be_label" fLa _ ["value"] := ⟨PySem.W.mg_of X G aLa, kLa, bLa⟩
  have FNN := fun_mk (st := sNN) lNN dNN kNN
  have bNN := FNN.binds (ps := ["net"]) fun _ _ _ _ _ _ us hl => match us, hl with | [_], _ => rfl
  have CNN : Cal K mg "need_net" fNN _ ["net"] := ⟨PySem.W.mg_of X G aNN, kNN, bNN⟩
  have FNR := fun_mk (st := sNR) lNR dNR kNR
  have bNR := FNR.binds (ps := ["roads"]) fun _ _ _ _ _ _ us hl => match us, hl with | [_], _ => rfl
  have CNR : Cal K mg "need_roads" fNR _ ["roads"] := ⟨PySem.W.mg_of X G aNR, kNR, bNR⟩
  have FNL := fun_mk (st := sNL) lNL dNL kNL
  have bNL := FNL.binds (ps := ["labels"]) fun _ _ _ _ _ _ us hl => match us, hl with | [_], _ => rfl
  have CNL : Cal K mg "need_labels" fNL _ ["labels"] := ⟨PySem.W.mg_of X G aNL, kNL, bNL⟩
  have FNW := fun_mk (st := sNW) lNW dNW kNW
  have bNW := FNW.binds (ps := ["roads", "labels", "rows"]) fun _ _ _ _ _ _ us hl => match us, hl with | [_, _, _], _ => rfl
  have CNW : Cal K mg "need_rows" fNW _ ["roads", "labels", "rows"] := ⟨PySem.W.mg_of X G aNW, kNW, bNW⟩
  have F0 := fun_mk (st := sI0) l0 d0 k0
  have X0 : XT K "ValueError" "ValueError.__new__" "ValueError.__init__" [.type "ValueError", .type "Exception", .type "BaseException", .type "object"] c0 :=
    { F := PySem.F.excBase_ValueError, SF := PySem.F.store_ValueError, te := rfl, cls := ⟨nm0, q0, N0, bs0, [cNE], sn0, sub0, ab0, col0, dd0, m00, m10, m20, m30, m50, xL0⟩, sa := sa0, ga := ga0, gg := gg0, ex := ex0, kp := kp0, hd := hd0, ha := ha0, hn := hn, ht := ht, hm := hm0 }
  have b0 := F0.binds (ps := ["self", "place"]) fun _ _ _ _ _ _ us hl => match us, hl with | [_, _], _ => rfl
  have O0 : Own K mg "BadNet" "ValueError" "ValueError.__new__" "ValueError.__init__" PySem.HandSPX.veTail c0 f0 _ ["self", "place"] := ⟨X0, PySem.W.mg_of X G aC0, ai0, ti0, b0⟩
  have w0 := Fun.kwb (ps := ["self", "place"]) (ks := ["place"]) (ord := fun zs => zs) F0 fun _ _ _ _ _ _ a zs hl => match zs, hl with | [_], _ => rfl
  have F1 := fun_mk (st := sI1) l1 d1 k1
  have X1 : XT K "ValueError" "ValueError.__new__" "ValueError.__init__" [.type "ValueError", .type "Exception", .type "BaseException", .type "object"] c1 :=
    { F := PySem.F.excBase_ValueError, SF := PySem.F.store_ValueError, te := rfl, cls := ⟨nm1, q1, N1, bs1, [cNE], sn1, sub1, ab1, col1, dd1, m01, m11, m21, m31, m51, xL1⟩, sa := sa1, ga := ga1, gg := gg1, ex := ex1, kp := kp1, hd := hd1, ha := ha1, hn := hn, ht := ht, hm := hm1 }
  have b1 := F1.binds (ps := ["self", "value"]) fun _ _ _ _ _ _ us hl => match us, hl with | [_, _], _ => rfl
  have O1 : Own K mg "BadNumber" "ValueError" "ValueError.__new__" "ValueError.__init__" PySem.HandSPX.veTail c1 f1 _ ["self", "value"] := ⟨X1, PySem.W.mg_of X G aC1, ai1, ti1, b1⟩
  have w1 := Fun.kwb (ps := ["self", "value"]) (ks := ["value"]) (ord := fun zs => zs) F1 fun _ _ _ _ _ _ a zs hl => match zs, hl with | [_], _ => rfl
  have F2 := fun_mk (st := sI2) l2 d2 k2
  have X2 : XT K "ValueError" "ValueError.__new__" "ValueError.__init__" [.type "ValueError", .type "Exception", .type "BaseException", .type "object"] c2 :=
    { F := PySem.F.excBase_ValueError, SF := PySem.F.store_ValueError, te := rfl, cls := ⟨nm2, q2, N2, bs2, [cNE], sn2, sub2, ab2, col2, dd2, m02, m12, m22, m32, m52, xL2⟩, sa := sa2, ga := ga2, gg := gg2, ex := ex2, kp := kp2, hd := hd2, ha := ha2, hn := hn, ht := ht, hm := hm2 }
  have b2 := F2.binds (ps := ["self", "value"]) fun _ _ _ _ _ _ us hl => match us, hl with | [_, _], _ => rfl
  have O2 : Own K mg "BadRoad" "ValueError" "ValueError.__new__" "ValueError.__init__" PySem.HandSPX.veTail c2 f2 _ ["self", "value"] := ⟨X2, PySem.W.mg_of X G aC2, ai2, ti2, b2⟩
  have w2 := Fun.kwb (ps := ["self", "value"]) (ks := ["value"]) (ord := fun zs => zs) F2 fun _ _ _ _ _ _ a zs hl => match zs, hl with | [_], _ => rfl
  have F3 := fun_mk (st := sI3) l3 d3 k3
  have X3 : XT K "ValueError" "ValueError.__new__" "ValueError.__init__" [.type "ValueError", .type "Exception", .type "BaseException", .type "object"] c3 :=
    { F := PySem.F.excBase_ValueError, SF := PySem.F.store_ValueError, te := rfl, cls := ⟨nm3, q3, N3, bs3, [cNE], sn3, sub3, ab3, col3, dd3, m03, m13, m23, m33, m53, xL3⟩, sa := sa3, ga := ga3, gg := gg3, ex := ex3, kp := kp3, hd := hd3, ha := ha3, hn := hn, ht := ht, hm := hm3 }
  have b3 := F3.binds (ps := ["self", "value"]) fun _ _ _ _ _ _ us hl => match us, hl with | [_, _], _ => rfl
  have O3 : Own K mg "BadHead" "ValueError" "ValueError.__new__" "ValueError.__init__" PySem.HandSPX.veTail c3 f3 _ ["self", "value"] := ⟨X3, PySem.W.mg_of X G aC3, ai3, ti3, b3⟩
  have w3 := Fun.kwb (ps := ["self", "value"]) (ks := ["value"]) (ord := fun zs => zs) F3 fun _ _ _ _ _ _ a zs hl => match zs, hl with | [_], _ => rfl
  have F4 := fun_mk (st := sI4) l4 d4 k4
  have X4 : XT K "ValueError" "ValueError.__new__" "ValueError.__init__" [.type "ValueError", .type "Exception", .type "BaseException", .type "object"] c4 :=
    { F := PySem.F.excBase_ValueError, SF := PySem.F.store_ValueError, te := rfl, cls := ⟨nm4, q4, N4, bs4, [cNE], sn4, sub4, ab4, col4, dd4, m04, m14, m24, m34, m54, xL4⟩, sa := sa4, ga := ga4, gg := gg4, ex := ex4, kp := kp4, hd := hd4, ha := ha4, hn := hn, ht := ht, hm := hm4 }
  have b4 := F4.binds (ps := ["self", "value"]) fun _ _ _ _ _ _ us hl => match us, hl with | [_, _], _ => rfl
  have O4 : Own K mg "BadFailed" "ValueError" "ValueError.__new__" "ValueError.__init__" PySem.HandSPX.veTail c4 f4 _ ["self", "value"] := ⟨X4, PySem.W.mg_of X G aC4, ai4, ti4, b4⟩
  have w4 := Fun.kwb (ps := ["self", "value"]) (ks := ["value"]) (ord := fun zs => zs) F4 fun _ _ _ _ _ _ a zs hl => match zs, hl with | [_], _ => rfl
  have F5 := fun_mk (st := sI5) l5 d5 k5
  have X5 : XT K "ValueError" "ValueError.__new__" "ValueError.__init__" [.type "ValueError", .type "Exception", .type "BaseException", .type "object"] c5 :=
    { F := PySem.F.excBase_ValueError, SF := PySem.F.store_ValueError, te := rfl, cls := ⟨nm5, q5, N5, bs5, [cNE], sn5, sub5, ab5, col5, dd5, m05, m15, m25, m35, m55, xL5⟩, sa := sa5, ga := ga5, gg := gg5, ex := ex5, kp := kp5, hd := hd5, ha := ha5, hn := hn, ht := ht, hm := hm5 }
  have b5 := F5.binds (ps := ["self", "value"]) fun _ _ _ _ _ _ us hl => match us, hl with | [_, _], _ => rfl
  have O5 : Own K mg "BadParcel" "ValueError" "ValueError.__new__" "ValueError.__init__" PySem.HandSPX.veTail c5 f5 _ ["self", "value"] := ⟨X5, PySem.W.mg_of X G aC5, ai5, ti5, b5⟩
  have w5 := Fun.kwb (ps := ["self", "value"]) (ks := ["value"]) (ord := fun zs => zs) F5 fun _ _ _ _ _ _ a zs hl => match zs, hl with | [_], _ => rfl
  have F6 := fun_mk (st := sI6) l6 d6 k6
  have X6 : XT K "ValueError" "ValueError.__new__" "ValueError.__init__" [.type "ValueError", .type "Exception", .type "BaseException", .type "object"] c6 :=
    { F := PySem.F.excBase_ValueError, SF := PySem.F.store_ValueError, te := rfl, cls := ⟨nm6, q6, N6, bs6, [cNE], sn6, sub6, ab6, col6, dd6, m06, m16, m26, m36, m56, xL6⟩, sa := sa6, ga := ga6, gg := gg6, ex := ex6, kp := kp6, hd := hd6, ha := ha6, hn := hn, ht := ht, hm := hm6 }
  have b6 := F6.binds (ps := ["self", "place"]) fun _ _ _ _ _ _ us hl => match us, hl with | [_, _], _ => rfl
  have O6 : Own K mg "BadChoices" "ValueError" "ValueError.__new__" "ValueError.__init__" PySem.HandSPX.veTail c6 f6 _ ["self", "place"] := ⟨X6, PySem.W.mg_of X G aC6, ai6, ti6, b6⟩
  have w6 := Fun.kwb (ps := ["self", "place"]) (ks := ["place"]) (ord := fun zs => zs) F6 fun _ _ _ _ _ _ a zs hl => match zs, hl with | [_], _ => rfl
  have F7 := fun_mk (st := sI7) l7 d7 k7
  have X7 : XT K "ValueError" "ValueError.__new__" "ValueError.__init__" [.type "ValueError", .type "Exception", .type "BaseException", .type "object"] c7 :=
    { F := PySem.F.excBase_ValueError, SF := PySem.F.store_ValueError, te := rfl, cls := ⟨nm7, q7, N7, bs7, [cNE], sn7, sub7, ab7, col7, dd7, m07, m17, m27, m37, m57, xL7⟩, sa := sa7, ga := ga7, gg := gg7, ex := ex7, kp := kp7, hd := hd7, ha := ha7, hn := hn, ht := ht, hm := hm7 }
  have b7 := F7.binds (ps := ["self", "value"]) fun _ _ _ _ _ _ us hl => match us, hl with | [_, _], _ => rfl
  have O7 : Own K mg "BadShape" "ValueError" "ValueError.__new__" "ValueError.__init__" PySem.HandSPX.veTail c7 f7 _ ["self", "value"] := ⟨X7, PySem.W.mg_of X G aC7, ai7, ti7, b7⟩
  have w7 := Fun.kwb (ps := ["self", "value"]) (ks := ["value"]) (ord := fun zs => zs) F7 fun _ _ _ _ _ _ a zs hl => match zs, hl with | [_], _ => rfl
  have F8 := fun_mk (st := sI8) l8 d8 k8
  have X8 : XT K "ValueError" "ValueError.__new__" "ValueError.__init__" [.type "ValueError", .type "Exception", .type "BaseException", .type "object"] c8 :=
    { F := PySem.F.excBase_ValueError, SF := PySem.F.store_ValueError, te := rfl, cls := ⟨nm8, q8, N8, bs8, [cNE], sn8, sub8, ab8, col8, dd8, m08, m18, m28, m38, m58, xL8⟩, sa := sa8, ga := ga8, gg := gg8, ex := ex8, kp := kp8, hd := hd8, ha := ha8, hn := hn, ht := ht, hm := hm8 }
  have b8 := F8.binds (ps := ["self", "value"]) fun _ _ _ _ _ _ us hl => match us, hl with | [_, _], _ => rfl
  have O8 : Own K mg "BadGoal" "ValueError" "ValueError.__new__" "ValueError.__init__" PySem.HandSPX.veTail c8 f8 _ ["self", "value"] := ⟨X8, PySem.W.mg_of X G aC8, ai8, ti8, b8⟩
  have w8 := Fun.kwb (ps := ["self", "value"]) (ks := ["value"]) (ord := fun zs => zs) F8 fun _ _ _ _ _ _ a zs hl => match zs, hl with | [_], _ => rfl
  have F9 := fun_mk (st := sI9) l9 d9 k9
  have X9 : XT K "ValueError" "ValueError.__new__" "ValueError.__init__" [.type "ValueError", .type "Exception", .type "BaseException", .type "object"] c9 :=
    { F := PySem.F.excBase_ValueError, SF := PySem.F.store_ValueError, te := rfl, cls := ⟨nm9, q9, N9, bs9, [cNE], sn9, sub9, ab9, col9, dd9, m09, m19, m29, m39, m59, xL9⟩, sa := sa9, ga := ga9, gg := gg9, ex := ex9, kp := kp9, hd := hd9, ha := ha9, hn := hn, ht := ht, hm := hm9 }
  have b9 := F9.binds (ps := ["self", "word"]) fun _ _ _ _ _ _ us hl => match us, hl with | [_, _], _ => rfl
  have O9 : Own K mg "BadPaper" "ValueError" "ValueError.__new__" "ValueError.__init__" PySem.HandSPX.veTail c9 f9 _ ["self", "word"] := ⟨X9, PySem.W.mg_of X G aC9, ai9, ti9, b9⟩
  have w9 := Fun.kwb (ps := ["self", "word"]) (ks := ["word"]) (ord := fun zs => zs) F9 fun _ _ _ _ _ _ a zs hl => match zs, hl with | [_], _ => rfl
  have F10 := fun_mk (st := sI10) l10 d10 k10
  have X10 : XT K "OverflowError" "OverflowError.__new__" "OverflowError.__init__" [.type "OverflowError", .type "ArithmeticError", .type "Exception", .type "BaseException", .type "object"] c10 :=
    { F := PySem.F.excBase_OverflowError, SF := PySem.F.store_OverflowError, te := rfl, cls := ⟨nm10, q10, N10, bs10, [], sn10, sub10, ab10, col10, dd10, m010, m110, m210, m310, m510, xL10⟩, sa := sa10, ga := ga10, gg := gg10, ex := ex10, kp := kp10, hd := hd10, ha := ha10, hn := hn, ht := ht, hm := hm10 }
  have b10 := F10.binds (ps := ["self", "most"]) fun _ _ _ _ _ _ us hl => match us, hl with | [_, _], _ => rfl
  have O10 : Own K mg "TooGreat" "OverflowError" "OverflowError.__new__" "OverflowError.__init__" [.type "OverflowError", .type "ArithmeticError", .type "Exception", .type "BaseException", .type "object"] c10 f10 _ ["self", "most"] := ⟨X10, PySem.W.mg_of X G aC10, ai10, ti10, b10⟩
  have w10 := Fun.kwb (ps := ["self", "most"]) (ks := ["most"]) (ord := fun zs => zs) F10 fun _ _ _ _ _ _ a zs hl => match zs, hl with | [_], _ => rfl
  have T : Tx mg := ⟨PySem.W.mg_none_of X G z_int, PySem.W.mg_none_of X G z_range, PySem.W.mg_none_of X G z_enumerate, PySem.W.mg_none_of X G z_len⟩
  have TD : TxD K mg fM := { toTx := T, gM := PySem.W.mg_of X G aM, kM := kM }
  have TB : Bt mg := ⟨PySem.W.mg_none_of X G z_isinstance, PySem.W.mg_none_of X G z_len, PySem.W.mg_none_of X G z_all, PySem.W.mg_none_of X G z_int, PySem.W.mg_none_of X G z_bool, PySem.W.mg_none_of X G z_str, PySem.W.mg_none_of X G z_tuple, PySem.W.mg_none_of X G z_enumerate, ⟨_, PySem.W.mg_of X G m_MOST_HOUSE⟩, ⟨_, PySem.W.mg_of X G m_MOST_LETTERS⟩, ⟨_, PySem.W.mg_of X G m_MOST_ROADS⟩, ⟨_, PySem.W.mg_of X G m_MOST_LABELS⟩⟩
  have TE : Elv K mg cNE c0 c1 c2 c3 c4 c5 c6 c7 c8 c9 c10 f0 f1 f2 f3 f4 f5 f6 f7 f8 f9 f10 _ _ _ _ _ _ _ _ _ _ _ :=
    { isi := PySem.W.mg_none_of X G z_isinstance, rep := PySem.W.mg_none_of X G z_repr, range := PySem.W.mg_none_of X G z_range, enum := PySem.W.mg_none_of X G z_enumerate, ve := PySem.W.mg_none_of X G z_ValueError, oe := PySem.W.mg_none_of X G z_OverflowError, gNE := PySem.W.mg_of X G aNE, o0 := O0, r0 := fr0, w0 := w0, k0 := kt0, n0 := iN0, v0 := iV0, y0 := iO0, o1 := O1, r1 := fr1, w1 := w1, k1 := kt1, n1 := iN1, v1 := iV1, y1 := iO1, o2 := O2, r2 := fr2, w2 := w2, k2 := kt2, n2 := iN2, v2 := iV2, y2 := iO2, o3 := O3, r3 := fr3, w3 := w3, k3 := kt3, n3 := iN3, v3 := iV3, y3 := iO3, o4 := O4, r4 := fr4, w4 := w4, k4 := kt4, n4 := iN4, v4 := iV4, y4 := iO4, o5 := O5, r5 := fr5, w5 := w5, k5 := kt5, n5 := iN5, v5 := iV5, y5 := iO5, o6 := O6, r6 := fr6, w6 := w6, k6 := kt6, n6 := iN6, v6 := iV6, y6 := iO6, o7 := O7, r7 := fr7, w7 := w7, k7 := kt7, n7 := iN7, v7 := iV7, y7 := iO7, o8 := O8, r8 := fr8, w8 := w8, k8 := kt8, n8 := iN8, v8 := iV8, y8 := iO8, o9 := O9, r9 := fr9, w9 := w9, k9 := kt9, n9 := iN9, v9 := iV9, y9 := iO9, o10 := O10, r10 := fr10, w10 := w10, k10 := kt10, n10 := iN10, v10 := iV10, y10 := iO10 }
  refine ⟨PySem.W.fnOf "law" "law" (defArgs sLaw) (defBody sLaw) (defScope sLaw) .none kVW dcW pmW anW cdW ctW, ?_, fun base _ _ => ?_⟩
  · exact fun s v => .of_eq rfl
  have GTu : FnOk l.prog w K mg base CX0 1 fTu _ ["value", "least", "greatest"] spTu := ok_Tu FTu TB
  have GNu : FnOk l.prog w K mg base CX0 1 fNu _ ["value", "least", "greatest"] spNu := ok_Nu FNu TB
  have GPa : FnOk l.prog w K mg base CX0 2 fPa _ ["value"] spPa := ok_Pa FPa TB CTu GTu
  have GHo : FnOk l.prog w K mg base CX0 2 fHo _ ["value"] spHo := ok_Ho FHo TB CNu GNu
  have GHp : FnOk l.prog w K mg base CX0 3 fHp _ ["value"] spHp := ok_Hp FHp TB CPa GPa CHo GHo
  have GWo : FnOk l.prog w K mg base CX0 1 fWo _ ["value"] spWo := ok_Wo FWo TB
  have GLa : FnOk l.prog w K mg base CX0 2 fLa _ ["value"] spWo := ok_La FLa TB CWo GWo
  have GNR : FnOk l.prog w K mg base CX0 4 fNR _ ["roads"] spNR := ok_NR FNR TB CTu GTu CHp GHp
  have GNL : FnOk l.prog w K mg base CX0 3 fNL _ ["labels"] spNL := ok_NL FNL TB CTu GTu CLa GLa
  have GNW : FnOk l.prog w K mg base CX0 2 fNW _ ["roads", "labels", "rows"] spNW := ok_NW FNW TB CTu GTu
  have GNN : FnOk l.prog w K mg base CX0 5 fNN _ ["net"] spNN := ok_NN FNN TB CTu GTu CNR GNR CNL GNL CNW GNW
  exact ok_law FW (PySem.W.mg_none_of X G z_range) CB (ok_beg FB T (PySem.W.mg_of X G aF) kF FF bF) CD (ok_dra FD TD FM bM) CE (ok_eac FE TE ⟨ok_I0 F0 X0 fr0, ok_I1 F1 X1 fr1, ok_I2 F2 X2 fr2, ok_I3 F3 X3 fr3, ok_I4 F4 X4 fr4, ok_I5 F5 X5 fr5, ok_I6 F6 X6 fr6, ok_I7 F7 X7 fr7, ok_I8 F8 X8 fr8, ok_I9 F9 X9 fr9, ok_I10 F10 X10 fr10⟩) CNN GNN
end Lr
open PySem PySem.W PyProof.Rows
set_option maxRecDepth 100000 in
set_option maxHeartbeats 0 in
theorem PySem.Challenge.cw_labelroads_k30_exceptions_of_the_first_p_holds : PySem.Challenge.rw_labelroads_k30_exceptions_of_the_first_p.Holds := by
  w_on; o_law; k_head; (case hw => w_witness2)
  k_fill
  refine L2.walk_ofG (l := PySem.Challenge.rw_labelroads_k30_exceptions_of_the_first_p) (n := 63) (k := 6) (x := "script") (sp := Lr.spLaw) rfl (by decide) rfl ⟨rfl, by decide, by decide⟩ (fun w h Y => PySem.W.kIn_of Y) ?F (fun _ _ a ns hl _ hS => ⟨a, ns, rfl, hS, hl, fun _ => rfl⟩)
  case F =>
    intro w mg fa h KX G hmg
    refine' Lr.all_mk KX G hmg ?aM ?lM ?dM ?kM ?aF ?lF ?dF ?kF ?aD ?lD ?dD ?kD ?aB ?lB ?dB ?kB ?aE ?lE ?dE ?kE ?aW ?lW ?dW ?kW ?aNu ?lNu ?dNu ?kNu ?aTu ?lTu ?dTu ?kTu ?aPa ?lPa ?dPa ?kPa ?aWo ?lWo ?dWo ?kWo ?aHo ?lHo ?dHo ?kHo ?aHp ?lHp ?dHp ?kHp ?aLa ?lLa ?dLa ?kLa ?aNN ?lNN ?dNN ?kNN ?aNR ?lNR ?dNR ?kNR ?aNL ?lNL ?dNL ?kNL ?aNW ?lNW ?dNW ?kNW ?aNE ?aC0 ?xL0 ?sa0 ?ga0 ?gg0 ?ex0 ?kp0 ?hd0 ?ha0 ?hm0 ?ai0 ?ti0 ?l0 ?d0 ?k0 ?fr0 ?aC1 ?xL1 ?sa1 ?ga1 ?gg1 ?ex1 ?kp1 ?hd1 ?ha1 ?hm1 ?ai1 ?ti1 ?l1 ?d1 ?k1 ?fr1 ?aC2 ?xL2 ?sa2 ?ga2 ?gg2 ?ex2 ?kp2 ?hd2 ?ha2 ?hm2 ?ai2 ?ti2 ?l2 ?d2 ?k2 ?fr2 ?aC3 ?xL3 ?sa3 ?ga3 ?gg3 ?ex3 ?kp3 ?hd3 ?ha3 ?hm3 ?ai3 ?ti3 ?l3 ?d3 ?k3 ?fr3 ?aC4 ?xL4 ?sa4 ?ga4 ?gg4 ?ex4 ?kp4 ?hd4 ?ha4 ?hm4 ?ai4 ?ti4 ?l4 ?d4 ?k4 ?fr4 ?aC5 ?xL5 ?sa5 ?ga5 ?gg5 ?ex5 ?kp5 ?hd5 ?ha5 ?hm5 ?ai5 ?ti5 ?l5 ?d5 ?k5 ?fr5 ?aC6 ?xL6 ?sa6 ?ga6 ?gg6 ?ex6 ?kp6 ?hd6 ?ha6 ?hm6 ?ai6 ?ti6 ?l6 ?d6 ?k6 ?fr6 ?aC7 ?xL7 ?sa7 ?ga7 ?gg7 ?ex7 ?kp7 ?hd7 ?ha7 ?hm7 ?ai7 ?ti7 ?l7 ?d7 ?k7 ?fr7 ?aC8 ?xL8 ?sa8 ?ga8 ?gg8 ?ex8 ?kp8 ?hd8 ?ha8 ?hm8 ?ai8 ?ti8 ?l8 ?d8 ?k8 ?fr8 ?aC9 ?xL9 ?sa9 ?ga9 ?gg9 ?ex9 ?kp9 ?hd9 ?ha9 ?hm9 ?ai9 ?ti9 ?l9 ?d9 ?k9 ?fr9 ?aC10 ?xL10 ?sa10 ?ga10 ?gg10 ?ex10 ?kp10 ?hd10 ?ha10 ?hm10 ?ai10 ?ti10 ?l10 ?d10 ?k10 ?fr10 ?hn ?ht ?z_int ?z_range ?z_enumerate ?z_len ?z_isinstance ?z_repr ?z_ValueError ?z_OverflowError ?z_all ?z_bool ?z_str ?z_tuple ?m_MOST_HOUSE ?m_MOST_LETTERS ?m_MOST_ROADS ?m_MOST_LABELS ?kt0 ?iN0 ?iV0 ?iO0 ?kt1 ?iN1 ?iV1 ?iO1 ?kt2 ?iN2 ?iV2 ?iO2 ?kt3 ?iN3 ?iV3 ?iO3 ?kt4 ?iN4 ?iV4 ?iO4 ?kt5 ?iN5 ?iV5 ?iO5 ?kt6 ?iN6 ?iV6 ?iO6 ?kt7 ?iN7 ?iV7 ?iO7 ?kt8 ?iN8 ?iV8 ?iO8 ?kt9 ?iN9 ?iV9 ?iO9 ?kt10 ?iN10 ?iV10 ?iO10
    (case aM => k_is)
    (case lM => k_is)
    (case dM => k_is)
    (case kM => k_is)
    (case aF => k_is)
    (case lF => k_is)
    (case dF => k_is)
    (case kF => k_is)
    (case aD => k_is)
    (case lD => k_is)
    (case dD => k_is)
    (case kD => k_is)
    (case aB => k_is)
    (case lB => k_is)
    (case dB => k_is)
    (case kB => k_is)
    (case aE => k_is)
    (case lE => k_is)
    (case dE => k_is)
    (case kE => k_is)
    (case aW => k_is)
    (case lW => k_is)
    (case dW => k_is)
    (case kW => k_is)
    (case aNu => k_is)
    (case lNu => k_is)
    (case dNu => k_is)
    (case kNu => k_is)
    (case aTu => k_is)
    (case lTu => k_is)
    (case dTu => k_is)
    (case kTu => k_is)
    (case aPa => k_is)
    (case lPa => k_is)
    (case dPa => k_is)
    (case kPa => k_is)
    (case aWo => k_is)
    (case lWo => k_is)
    (case dWo => k_is)
    (case kWo => k_is)
    (case aHo => k_is)
    (case lHo => k_is)
    (case dHo => k_is)
    (case kHo => k_is)
    (case aHp => k_is)
    (case lHp => k_is)
    (case dHp => k_is)
    (case kHp => k_is)
    (case aLa => k_is)
    (case lLa => k_is)
    (case dLa => k_is)
    (case kLa => k_is)
    (case aNN => k_is)
    (case lNN => k_is)
    (case dNN => k_is)
    (case kNN => k_is)
    (case aNR => k_is)
    (case lNR => k_is)
    (case dNR => k_is)
    (case kNR => k_is)
    (case aNL => k_is)
    (case lNL => k_is)
    (case dNL => k_is)
    (case kNL => k_is)
    (case aNW => k_is)
    (case lNW => k_is)
    (case dNW => k_is)
    (case kNW => k_is)
    (case aNE => k_is)
    (case aC0 => k_is)
    (case xL0 => k_is)
    (case sa0 => k_is)
    (case ga0 => k_is)
    (case gg0 => k_is)
    (case ex0 => k_is)
    (case kp0 => k_is)
    (case hd0 => k_is)
    (case ha0 => k_is)
    (case hm0 => k_is)
    (case ai0 => k_is)
    (case ti0 => k_is)
    (case l0 => k_is)
    (case d0 => k_is)
    (case k0 => k_is)
    (case fr0 => k_is)
    (case aC1 => k_is)
    (case xL1 => k_is)
    (case sa1 => k_is)
    (case ga1 => k_is)
    (case gg1 => k_is)
    (case ex1 => k_is)
    (case kp1 => k_is)
    (case hd1 => k_is)
    (case ha1 => k_is)
    (case hm1 => k_is)
    (case ai1 => k_is)
    (case ti1 => k_is)
    (case l1 => k_is)
    (case d1 => k_is)
    (case k1 => k_is)
    (case fr1 => k_is)
    (case aC2 => k_is)
    (case xL2 => k_is)
    (case sa2 => k_is)
    (case ga2 => k_is)
    (case gg2 => k_is)
    (case ex2 => k_is)
    (case kp2 => k_is)
    (case hd2 => k_is)
    (case ha2 => k_is)
    (case hm2 => k_is)
    (case ai2 => k_is)
    (case ti2 => k_is)
    (case l2 => k_is)
    (case d2 => k_is)
    (case k2 => k_is)
    (case fr2 => k_is)
    (case aC3 => k_is)
    (case xL3 => k_is)
    (case sa3 => k_is)
    (case ga3 => k_is)
    (case gg3 => k_is)
    (case ex3 => k_is)
    (case kp3 => k_is)
    (case hd3 => k_is)
    (case ha3 => k_is)
    (case hm3 => k_is)
    (case ai3 => k_is)
    (case ti3 => k_is)
    (case l3 => k_is)
    (case d3 => k_is)
    (case k3 => k_is)
    (case fr3 => k_is)
    (case aC4 => k_is)
    (case xL4 => k_is)
    (case sa4 => k_is)
    (case ga4 => k_is)
    (case gg4 => k_is)
    (case ex4 => k_is)
    (case kp4 => k_is)
    (case hd4 => k_is)
    (case ha4 => k_is)
    (case hm4 => k_is)
    (case ai4 => k_is)
    (case ti4 => k_is)
    (case l4 => k_is)
    (case d4 => k_is)
    (case k4 => k_is)
    (case fr4 => k_is)
    (case aC5 => k_is)
    (case xL5 => k_is)
    (case sa5 => k_is)
    (case ga5 => k_is)
    (case gg5 => k_is)
    (case ex5 => k_is)
    (case kp5 => k_is)
    (case hd5 => k_is)
    (case ha5 => k_is)
    (case hm5 => k_is)
    (case ai5 => k_is)
    (case ti5 => k_is)
    (case l5 => k_is)
    (case d5 => k_is)
    (case k5 => k_is)
    (case fr5 => k_is)
    (case aC6 => k_is)
    (case xL6 => k_is)
    (case sa6 => k_is)
    (case ga6 => k_is)
    (case gg6 => k_is)
    (case ex6 => k_is)
    (case kp6 => k_is)
    (case hd6 => k_is)
    (case ha6 => k_is)
    (case hm6 => k_is)
    (case ai6 => k_is)
    (case ti6 => k_is)
    (case l6 => k_is)
    (case d6 => k_is)
    (case k6 => k_is)
    (case fr6 => k_is)
    (case aC7 => k_is)
    (case xL7 => k_is)
    (case sa7 => k_is)
    (case ga7 => k_is)
    (case gg7 => k_is)
    (case ex7 => k_is)
    (case kp7 => k_is)
    (case hd7 => k_is)
    (case ha7 => k_is)
    (case hm7 => k_is)
    (case ai7 => k_is)
    (case ti7 => k_is)
    (case l7 => k_is)
    (case d7 => k_is)
    (case k7 => k_is)
    (case fr7 => k_is)
    (case aC8 => k_is)
    (case xL8 => k_is)
    (case sa8 => k_is)
    (case ga8 => k_is)
    (case gg8 => k_is)
    (case ex8 => k_is)
    (case kp8 => k_is)
    (case hd8 => k_is)
    (case ha8 => k_is)
    (case hm8 => k_is)
    (case ai8 => k_is)
    (case ti8 => k_is)
    (case l8 => k_is)
    (case d8 => k_is)
    (case k8 => k_is)
    (case fr8 => k_is)
    (case aC9 => k_is)
    (case xL9 => k_is)
    (case sa9 => k_is)
    (case ga9 => k_is)
    (case gg9 => k_is)
    (case ex9 => k_is)
    (case kp9 => k_is)
    (case hd9 => k_is)
    (case ha9 => k_is)
    (case hm9 => k_is)
    (case ai9 => k_is)
    (case ti9 => k_is)
    (case l9 => k_is)
    (case d9 => k_is)
    (case k9 => k_is)
    (case fr9 => k_is)
    (case aC10 => k_is)
    (case xL10 => k_is)
    (case sa10 => k_is)
    (case ga10 => k_is)
    (case gg10 => k_is)
    (case ex10 => k_is)
    (case kp10 => k_is)
    (case hd10 => k_is)
    (case ha10 => k_is)
    (case hm10 => k_is)
    (case ai10 => k_is)
    (case ti10 => k_is)
    (case l10 => k_is)
    (case d10 => k_is)
    (case k10 => k_is)
    (case fr10 => k_is)
    (case hn => k_is)
    (case ht => k_is)
    (case z_int => k_is)
    (case z_range => k_is)
    (case z_enumerate => k_is)
    (case z_len => k_is)
    (case z_isinstance => k_is)
    (case z_repr => k_is)
    (case z_ValueError => k_is)
    (case z_OverflowError => k_is)
    (case z_all => k_is)
    (case z_bool => k_is)
    (case z_str => k_is)
    (case z_tuple => k_is)
    (case m_MOST_HOUSE => k_is)
    (case m_MOST_LETTERS => k_is)
    (case m_MOST_ROADS => k_is)
    (case m_MOST_LABELS => k_is)
    (case kt0 => (unfold Lr.Kits; kernel_rfl))
    (case iN0 => kernel_rfl)
    (case iV0 => kernel_rfl)
    (case iO0 => kernel_rfl)
    (case kt1 => (unfold Lr.Kits; kernel_rfl))
    (case iN1 => kernel_rfl)
    (case iV1 => kernel_rfl)
    (case iO1 => kernel_rfl)
    (case kt2 => (unfold Lr.Kits; kernel_rfl))
    (case iN2 => kernel_rfl)
    (case iV2 => kernel_rfl)
    (case iO2 => kernel_rfl)
    (case kt3 => (unfold Lr.Kits; kernel_rfl))
    (case iN3 => kernel_rfl)
    (case iV3 => kernel_rfl)
    (case iO3 => kernel_rfl)
    (case kt4 => (unfold Lr.Kits; kernel_rfl))
    (case iN4 => kernel_rfl)
    (case iV4 => kernel_rfl)
    (case iO4 => kernel_rfl)
    (case kt5 => (unfold Lr.Kits; kernel_rfl))
    (case iN5 => kernel_rfl)
    (case iV5 => kernel_rfl)
    (case iO5 => kernel_rfl)
    (case kt6 => (unfold Lr.Kits; kernel_rfl))
    (case iN6 => kernel_rfl)
    (case iV6 => kernel_rfl)
    (case iO6 => kernel_rfl)
    (case kt7 => (unfold Lr.Kits; kernel_rfl))
    (case iN7 => kernel_rfl)
    (case iV7 => kernel_rfl)
    (case iO7 => kernel_rfl)
    (case kt8 => (unfold Lr.Kits; kernel_rfl))
    (case iN8 => kernel_rfl)
    (case iV8 => kernel_rfl)
    (case iO8 => kernel_rfl)
    (case kt9 => (unfold Lr.Kits; kernel_rfl))
    (case iN9 => kernel_rfl)
    (case iV9 => kernel_rfl)
    (case iO9 => kernel_rfl)
    (case kt10 => (unfold Lr.Kits; kernel_rfl))
    (case iN10 => kernel_rfl)
    (case iV10 => kernel_rfl)
    (case iO10 => kernel_rfl)
#print axioms PySem.Challenge.cw_labelroads_k30_exceptions_of_the_first_p_holds
