import PyProof.Rows.All
import Wide.All
import OpenK.AllK
import Wide.FinOn
import HandS.ForMost
import HandS.ForExc
import HandS.ExcInit
import HandS.IsInst
import HandS.ExcIs
import HandS.ExcValue
import HandS.Walk
import KE.KExcInit
import KE.KExcIs
import PyProof.ReprReads
import PyProof.ExcBaseAll.OverflowError
import PySem.Challenge.RW_labelroads_k78_exceptions_of_the_second
set_option Elab.async false
set_option linter.all false
set_option maxRecDepth 100000
set_option maxHeartbeats 4000000
namespace L2
open PySem PySem.Spec PyProof.Rows

/-! data as repr reads it: None, bools, ints, texts, lists, tuples, empty dicts. b says whether a dict may stand in it: then no list is where the interpreter's own table of modules stands -/
mutual
inductive Da (K : PySem.W.Frag) (H : Hp) (b : Bool) : V → PyData → Prop
  | non : Da K H b .non .none
  | bl (z : Bool) : Da K H b (.bl z) (.bool z)
  | int (i : Int) : Da K H b (.int i) (.int i)
  | str (x : Str) : Da K H b (.str x) (.str x)
  | lst {a : Addr} {xs : List V} {ds : List PyData} (h : SqL K H a xs) (all : DaAll K H b xs ds) (ok : b = true → a ≠ sysModules) : Da K H b (.ref a) (.list ds)
  | tup {a : Addr} {xs : List V} {ds : List PyData} (h : SqT K H a xs) (all : DaAll K H b xs ds) : Da K H b (.ref a) (.tuple ds)
  | dic {a : Addr} (h : H a = some (.dK [])) (ok : b = true) : Da K H b (.ref a) (.dict [])
inductive DaAll (K : PySem.W.Frag) (H : Hp) (b : Bool) : List V → List PyData → Prop
  | nil : DaAll K H b [] []
  | cons {v : V} {vs : List V} {d : PyData} {ds : List PyData} (h : Da K H b v d) (t : DaAll K H b vs ds) : DaAll K H b (v :: vs) (d :: ds)
end

section
variable {X : Cx} {pins : List (Addr × Obj)} {σ : L2.St} {H : Hp} {s : Shared} {b : Bool}
mutual
theorem Da.reads (I : Inv X pins σ H s) : ∀ (d : PyData) (v : V) (u : Value), Da X.K H b v d → RelV v u → ∃ as, Reads s.heap u d as ∧ (b = true → sysModules ∉ as) ∧ (b = false → d.hasDict = false)
  | .none, _, _, h, r => by
    cases h
    cases r
    exact ⟨[], .none, fun _ => by simp, fun _ => by simp [PyData.hasDict]⟩
  | .bool z, _, _, h, r => by
    cases h
    cases r
    exact ⟨[], .bool z, fun _ => by simp, fun _ => by simp [PyData.hasDict]⟩
  | .int i, _, _, h, r => by
    cases h
    obtain ⟨t, rfl⟩ := r
    exact ⟨[], .int i t, fun _ => by simp, fun _ => by simp [PyData.hasDict]⟩
  | .str x, _, _, h, r => by
    cases h
    obtain ⟨t, rfl⟩ := r
    exact ⟨[], .str x t, fun _ => by simp, fun _ => by simp [PyData.hasDict]⟩
  | .list ds, _, _, h, r => by
    cases h with
    | @lst a xs _ hs ha ok =>
      cases r
      obtain ⟨its, rv, ⟨o, n, ho, hc, _, hd⟩, _⟩ := I.list hs
      obtain ⟨as, hr, no, nd⟩ := Da.readsAll I ds _ its ha rv
      refine ⟨_, Reads.list ho hc hd hr, fun hb mem => ?_, fun hb => by simp only [PyData.hasDict]; exact nd hb⟩
      rcases List.mem_cons.mp mem with e | mem
      · exact ok hb e.symm
      · exact no hb mem
  | .tuple ds, _, _, h, r => by
    cases h with
    | tup hs ha =>
      cases r
      obtain ⟨its, rv, ⟨o, ho, hc, n, hd⟩, _⟩ := I.tuple hs
      obtain ⟨as, hr, no, nd⟩ := Da.readsAll I ds _ its ha rv
      exact ⟨_, Reads.tuple ho hc hd hr, no, fun hb => by simp only [PyData.hasDict]; exact nd hb⟩
  | .dict kvs, _, _, h, r => by
    cases h with
    | @dic a ea ok =>
      cases r
      obtain ⟨_, hsys, vs, kv, o, es, ep, h1, h2, h3, h4⟩ : ([] : List (Key × V)).length ≤ sizeLine ∧ (a == sysModules) = false ∧ ∃ vs, KV ([] : List (Key × V)) vs ∧ s.heap.DictOf (mixKind X.prog X.w) a vs := I.hok a _ ea
      cases kv
      obtain ⟨_, pr, _⟩ := h4
      have e0 : es.toList = [] := by
        cases z : es.toList with
        | nil => rfl
        | cons x l =>
          rw [z] at pr
          cases pr
      refine ⟨_, Reads.dict (kvs := []) (as := []) (bs := []) h1 h2.1 h3 ?_ ?_, fun _ mem => ?_, fun hb => ?_⟩
      · rw [e0]
        exact .nil
      · rw [e0]
        exact .nil
      · have z : sysModules = a := by simpa using mem
        rw [z] at hsys
        simp at hsys
      · rw [ok] at hb
        cases hb
theorem Da.readsAll (I : Inv X pins σ H s) : ∀ (ds : List PyData) (vs : List V) (us : List Value), DaAll X.K H b vs ds → Vals vs us → ∃ as, ReadsAll s.heap us ds as ∧ (b = true → sysModules ∉ as) ∧ (b = false → PyData.hasDictAll ds = false)
  | [], _, _, h, r => by
    cases h
    cases r
    exact ⟨[], .nil, fun _ => by simp, fun _ => by simp [PyData.hasDictAll]⟩
  | d :: ds, _, _, h, r => by
    cases h with
    | cons h1 h2 =>
      cases r with
      | cons r1 r2 =>
        obtain ⟨as, q1, n1, m1⟩ := Da.reads I d _ _ h1 r1
        obtain ⟨bs, q2, n2, m2⟩ := Da.readsAll I ds _ _ h2 r2
        exact ⟨_, .cons q1 q2, fun hb z => (List.mem_append.mp z).elim (n1 hb) (n2 hb), fun hb => by simp only [PyData.hasDictAll]; rw [m1 hb, m2 hb]; rfl⟩
end
end

/-- repr(x), x data; it tells the text of the data -/
def rRepr (K : PySem.W.Frag) : List V → Hp → VK → Prop := fun xs H Q => ∃ (x : V) (d : PyData) (b : Bool), xs = [x] ∧ Da K H b x d ∧ d.showable = true ∧ d.shown.length ≤ sizeLine ∧ d.depth ≤ 60 ∧ Q (.str d.shown) H
theorem call_repr {X : Cx} (hg : X.A.guards = some []) (hu : X.A.units + 100 < cLine) : CallR X (.builtin "repr") (rRepr X.K) := by
  intro pins s σ H xs us Q I r h
  obtain ⟨x, d, b, rfl, hd, sh, sz, dep, q⟩ := h
  obtain ⟨u, rfl, rx⟩ := vals1 r
  obtain ⟨as, rd, no, nd⟩ := Da.reads I d x u hd rx
  have hsm : d.hasDict = true → sysModules ∉ as := fun z => by
    cases b with
    | true => exact no rfl
    | false =>
      rw [nd rfl] at z
      cases z
  cases rd with
  | none => exact PySem.P.repr_of_none ⟨.str _, H, I.tok _, ⟨_, rfl⟩, q⟩
  | bool b => exact PySem.P.repr_of_bool ⟨.str _, H, I.tok _, ⟨_, rfl⟩, q⟩
  | int i t => exact PySem.P.repr_of_int (by simpa [PyData.showable] using sh) ⟨.str _, H, I.tok _, ⟨_, rfl⟩, q⟩
  | str z t => exact PySem.P.repr_of_str ⟨.str _, H, I.tok _, ⟨_, rfl⟩, q⟩ (by simpa [PyData.shown] using sz)
  | list h1 h2 h3 h4 => exact repr_of_reads' (.list h1 h2 h3 h4) sh hsm hg (by omega) (fun _ _ z => z) (fun h' u tk k => ⟨.str _, H, I.kept (t' := tk) k, ⟨_, rfl⟩, q⟩) sz
  | tuple h1 h2 h3 h4 => exact repr_of_reads' (.tuple h1 h2 h3 h4) sh hsm hg (by omega) (fun _ _ z => z) (fun h' u tk k => ⟨.str _, H, I.kept (t' := tk) k, ⟨_, rfl⟩, q⟩) sz
  | dict h1 h2 h3 h4 h5 => exact repr_of_reads' (.dict h1 h2 h3 h4 h5) sh hsm hg (by omega) (fun _ _ z => z) (fun h' u tk k => ⟨.str _, H, I.kept (t' := tk) k, ⟨_, rfl⟩, q⟩) sz
/-- [e, ..]: a new list, not where the table of modules stands -/
def tLstN (t : TA) : TE := fun σ H Q => t σ H fun xs H1 => xs.length ≤ sizeLine ∧ ∀ p, H1 p = none → p ≠ sysModules → Q (.ref p) (upd H1 p (.lst xs))
theorem pe_lstN {X : Cx} {es : List Expr} {t : TA} {pos : Pos} (h : PA X es t) : PE X (.List es pos) (tLstN t) := by
  refine ⟨fun pins s σ H Q I want => wpAny_List_spliced (thn (h.run pos pins s σ H _ I want) fun us s1 hu => ?_)⟩
  obtain ⟨xs, H1, I1, r, few, q⟩ := hu
  refine ⟨by rw [← r.length]; exact few, ?_⟩
  have free : H1 s1.heap.objs.size = none := I1.hok.fresh (Nat.le_refl _)
  have big : s1.heap.objs.size ≠ sysModules := Nat.ne_of_gt I1.big
  refine ⟨.ref s1.heap.objs.size, upd H1 s1.heap.objs.size (.lst xs), I1.laid (t' := s1.toks) (fun b u z => Heap.get?_push_of_some _ z) (Nat.le_refl _) ?_, rfl, q _ free big⟩
  exact ⟨few, us, 0, r, Heap.get?_push_size _ rfl⟩
mutual
theorem Da.mono {K : PySem.W.Frag} {H H' : Hp} {b : Bool} (sm : Same H H') : ∀ (d : PyData) (v : V), Da K H b v d → Da K H' b v d
  | .none, _, h => by
    cases h
    exact .non
  | .bool b, _, h => by
    cases h
    exact .bl b
  | .int i, _, h => by
    cases h
    exact .int i
  | .str x, _, h => by
    cases h
    exact .str x
  | .list ds, _, h => by
    cases h with
    | lst hs ha ok => exact .lst (sm.seq hs) (DaAll.mono sm ds _ ha) ok
  | .tuple ds, _, h => by
    cases h with
    | tup hs ha =>
      refine .tup ?_ (DaAll.mono sm ds _ ha)
      rcases hs with (e | ⟨o, e⟩) | z
      · exact .inl (.inl (sm _ _ e))
      · exact .inl (.inr ⟨o, sm _ _ e⟩)
      · exact .inr z
  | .dict ds, _, h => by
    cases h with
    | dic e ok => exact .dic (sm _ _ e) ok
theorem DaAll.mono {K : PySem.W.Frag} {H H' : Hp} {b : Bool} (sm : Same H H') : ∀ (ds : List PyData) (vs : List V), DaAll K H b vs ds → DaAll K H' b vs ds
  | [], _, h => by
    cases h
    exact .nil
  | d :: ds, _, h => by
    cases h with
    | cons h1 h2 => exact .cons (Da.mono sm d _ h1) (DaAll.mono sm ds _ h2)
end

/-! ### promises of defs that are called while no repr runs -/
structure FnG (P : Program) (w : World) (K : PySem.W.Frag) (mg : Str → Option Value) (base : Heap) (CX : CXT) (k : Nat) (f : Addr) (fd : FuncData) (ps : List Str) (sp : Sp) : Prop where
  len : ∀ vs H Q E, sp vs H Q E → vs.length = ps.length
  go : ∀ (A : Around) (outer : List Env) (s : Shared) (H : Hp) (args : Args) (us : List Value) (vs : List V) (Q : VK) (E : XK), A.guards = some [] → Room k A →
    Env0 P w K mg base A outer s H → BindsTo s fd args (ps.zip us) → Vals vs us → sp vs H Q E → codeAny (model P w) A (.call (.ref f) args) (CR CX outer P w H s Q E) s

theorem fnG_of {CX : CXT} {P : Program} {w : World} {K : PySem.W.Frag} {mg : Str → Option Value} {base : Heap} {k : Nat} {f : Addr} {name qual : Str} {params : Arguments} {body : List Stmt} {scope : Scope} {dV kV doc pm cdv ct oc : Value} {an od : Option Addr}
    {osl : Array (Option Value)} {N ps : List Str} {sp : Sp} (at_f : K.lookup f = some ⟨oc, od, .func (PySem.W.fnOf name qual params body scope dV kV doc pm an cdv ct), osl⟩) (code : PySem.W.codeIn K cdv qual = true) (S : FnScope N ps scope)
    (len : ∀ vs H Q E, sp vs H Q E → vs.length = ps.length)
    (walk : ∀ (A : Around) (outer : List Env) (s : Shared) (H : Hp) (vs : List V) (Q : VK) (E : XK), A.guards = some [] → Room k (A.deeper (envOfC qual scope s.heap.objs.size f cdv)) → sp vs H Q E →
      ∃ t, PSs (cxOf CX P w K mg base N qual scope f cdv A outer s H E) body t ∧ t { nx := fun _ H' => Q .non H', rt := Q } (start N vs) H) :
    FnG P w K mg base CX (k + 1) f (PySem.W.fnOf name qual params body scope dV kV doc pm an cdv ct) ps sp := by
  refine ⟨len, fun A outer s H args us vs Q E gd hr env0 bind r want => ?_⟩
  have n_args := len _ _ _ _ want
  have kin : K.In s.heap := env0.mod.kin.keeps fun b o z => (env0.bs b o z).1
  have nolim : s.heap.NoLimit := env0.mod.nolimit.keeps fun b o z => (env0.bs b o z).1
  have kinds : ∀ y ∈ ps.zip us, scope.names.lookup y.1 = some .local ∨ (scope.names.lookup y.1 = some .cell ∧ ((cellsFrom (s.heap.objs.size + 1) scope.names []).lookup y.1).isSome = true) := by
    rintro ⟨n, v⟩ hy
    rcases S.par n (List.of_mem_zip hy).1 with z | z
    · exact .inl z
    · exact .inr ⟨z, PySem.W.cellsFrom_some _ _ _ (.inl z)⟩
  refine codeAny_call_function hr.depth (kin _ _ at_f) rfl S.co S.gen rfl (PySem.W.codeRec_of kin code) (bind _ _ _ _ ?_)
  refine wpAny_newFunctionEnv_cells S.kind kinds fun env env_is s1 made => ?_
  subst env_is
  refine ⟨nolim.keeps made.toInCall.keep, codeAny_func ?_⟩
  obtain ⟨t, ht, hq⟩ := walk A outer s H vs Q E gd (hr.deeper _) want
  have I : Inv (cxOf CX P w K mg base N qual scope f cdv A outer s H E) [] (start N vs) H s1 := inv_start S hr.hd env0 n_args r made
  refine wpAny_mono (ht.run [] s1 (start N vs) H _ I hq) (fun fl s' last => ?_) fun e s' z => z
  have out : ∀ {σ' : L2.St} {H' : Hp} {v : V} {u : Value}, Inv (cxOf CX P w K mg base N qual scope f cdv A outer s H E) [] σ' H' s' → RelV v u → Q v H' → CE outer P w H s Q u s' :=
    fun {σ' H' v u} J rv q => ⟨v, H', J.os, J.bare, J.base, J.hok, rv, q⟩
  match fl, last with
  | .ret u, ⟨v, σ', H', J, rv, q⟩ => exact out J rv q
  | .next, ⟨σ', H', J, q⟩ => exact out (v := V.non) (u := Value.none) J rfl q
  | .brk, ⟨_, _, _, q⟩ => exact False.elim q
  | .cont, ⟨_, _, _, q⟩ => exact False.elim q

section
variable {P : Program} {w : World} {K : PySem.W.Frag} {mg : Str → Option Value} {base : Heap}
/-- a def whose body says that nothing leaves it -/
theorem Fun.okG {x qual : Str} {st : Stmt} {f : Addr} {fd : FuncData} {N ps : List Str} {k : Nat} {sp : Sp} (F : Fun K x qual st f fd) (S : FnScope N ps (defScope st)) (len : ∀ vs H Q E, sp vs H Q E → vs.length = ps.length)
    (walk : ∀ (cdv : Value) (A : Around) (outer : List Env) (s : Shared) (H : Hp) (vs : List V) (Q : VK) (E : XK), A.guards = some [] → Room k (A.deeper (envOfC qual (defScope st) s.heap.objs.size f cdv)) → sp vs H Q E →
      ∃ t, PSs (cxOf CX0 P w K mg base N qual (defScope st) f cdv A outer s H E).nox (defBody st) t ∧ t { nx := fun _ H' => Q .non H', rt := Q } (start N vs) H) : FnG P w K mg base CX0 (k + 1) f fd ps sp := by
  obtain ⟨oc, od, kV, doc, pm, an, cdv, ct, osl, rfl, at_f, code⟩ := F.ex
  refine fnG_of at_f code S len fun A outer s H vs Q E gd hr want => ?_
  obtain ⟨t, h, q⟩ := walk cdv A outer s H vs Q E gd hr want
  exact ⟨t, h.nox, q⟩
end
section
variable {X : Cx} {CX : CXT} {k : Nat} {f : Addr} {fd : FuncData} {ps : List Str} {sp : Sp} {E : XK} {x : Str} {p pos : Pos} {e : Expr} {es : List Expr} {t : TA}
theorem pe_callG (G : FnG X.prog X.w X.K X.mg X.base CX k f fd ps sp) (gd : X.A.guards = some []) (hr : Room k X.A) (hg : Gl X x) (hm : X.mg x = some (.ref f)) (hk : PySem.W.keepIn X.K (.ref f) = true) (hb : Binds X.K fd ps []) (hx : Passes CX X E)
    (ha : PA X (e :: es) t) (hdb : (x == ("__debug__" : Str)) = false := by decide) (he : starEach (e :: es) X.env = (false, eval e X.env) :: starEach es X.env := by rfl) (hpl : (backTo pos (starEach es X.env)).any (·.1) = false := by rfl) :
    PE X (.Call (.Name x p) (e :: es) [] pos) (tCall sp [] E t) := by
  refine ⟨fun pins s σ H Q I h => wpAny_Call_Name_kw (ld_glob I hg hm ?_ hdb)⟩
  refine PySem.W.callWith_K (h₀ := X.base) I.ok.mod.kin hk (thn (ha.run pos pins s σ H _ I h) fun us s1 hu => ?_) he hpl
  obtain ⟨vs, H1, I1, r, want⟩ := hu
  refine ⟨I1.kIn, ?_⟩
  show wpAny _ _ (call (.ref f) us) _ _ _
  have want' : sp vs H1 Q E := by
    have z := want
    simp only [List.append_nil] at z
    exact z
  have n_args : us.length = ps.length := by
    rw [← r.length]
    exact G.len _ _ _ _ want'
  have bind : BindsTo s1 fd ⟨us, []⟩ (ps.zip us) := by
    have z := hb s1 us I1.kIn (by simpa using n_args)
    simpa using z
  refine wpAny_call (codeAny_mono (G.go X.A X.stack s1 H1 ⟨us, []⟩ us vs Q E gd hr I1.env0 bind r want') fun r s' back => ?_)
  match r, back with
  | .error er, back => exact hx pins σ H1 s1 er s' I1 back
  | .ok (.ret u), back => exact I1.after back
  | .ok .next, back => exact False.elim back
  | .ok .brk, back => exact False.elim back
  | .ok .cont, back => exact False.elim back
end
end L2

namespace L2
open PySem PySem.Spec PyProof.Rows

/-- the law's call at the heap behind the top: no repr runs there -/
theorem law_callG {P : Program} {w : World} {K : PySem.W.Frag} {mg mb : Str → Option Value} {CX : CXT} {k : Nat} {fa a : Addr} {fd : FuncData} {x : Str} {sp : Sp} {s : Shared} {vs : List Value} {ns : List Int}
    (kin : K.In s.heap) (glob : s.heap.Ns mainGlobals mg) (blt : s.heap.Ns builtinsNs mb) (boot : ∀ x : Str, x ≠ "__name__" → mb x = bootBuiltins x) (nolim : s.heap.NoLimit) (nogen : s.gens = #[])
    (at_a : s.heap.get? a = some { cls := .type "list", data := .seq vs.toArray }) (inums : IntsAre vs ns) (few : ns.length ≤ sizeLine) (hr : Room k callerA)
    (G : ∀ base : Heap, K.In base → base.Ns mainGlobals mg → FnG P w K mg base CX k fa fd [x] sp) (bind : ∀ (s : Shared) (u : Value), BindsTo s fd ⟨[u], []⟩ [(x, u)])
    (want : ∀ H : Hp, Only H → SqL K H a (ns.map V.int) → sp [.ref a] H (fun v _ => v = .bl true) fun _ _ _ => False) (calm : ∀ H e s', CX [] H s (fun _ _ _ => False) e s' → False) :
    codeAny (model P w) callerA (.call (.ref fa) ⟨[.ref a], []⟩) (fun r s' => r = .ok (.ret (.bool true)) ∧ OldK s.heap s'.heap ∧ s'.os = s.os ∧ AllBare s'.gens) s := by
  have rel := vals_ints inums
  have same_len := inums.length
  -- H tells of the script alone, if of anything
  have main : ∀ H : Hp, Only H → SqL K H a (ns.map V.int) → HOk P w H s.heap → (∀ b, H b ≠ none → b = a) → (H a ≠ none → K.lookup a = none) →
      codeAny (model P w) callerA (.call (.ref fa) ⟨[.ref a], []⟩) (fun r s' => r = .ok (.ret (.bool true)) ∧ OldK s.heap s'.heap ∧ s'.os = s.os ∧ AllBare s'.gens) s := by
    intro H only seq hok just_a not_K
    have hid : ∀ {b : Addr} {o : Obj}, s.heap.get? b = some o → H b = none → (hidT s.heap H).get? b = some o := fun z n => hidT_get z n
    have is_a : ∀ {b : Addr} {u : HO}, H b = some u → b = a := fun {b u} z => just_a b (by
      rw [z]
      simp)
    have dict_free : ∀ {b : Addr} {o : Obj} {es : Array DictEntry} {ep : Nat}, s.heap.get? b = some o → o.data = .dict es ep → H b = none := fun {b o es ep} z dz => by
      cases q : H b with
      | none => rfl
      | some u =>
        have e := is_a q
        subst e
        rw [at_a] at z
        cases z
        exact absurd (show Data.seq vs.toArray _ = Data.dict es ep from dz) (fun e => by cases e)
    have ns_hid : ∀ {b : Addr} {m : Str → Option Value}, s.heap.Ns b m → (hidT s.heap H).Ns b m := fun {b m} n => by
      obtain ⟨o, es, ep, z, dz, r⟩ := n
      exact ⟨o, es, ep, hid z (dict_free z dz), dz, r⟩
    have kin_hid : K.In (hidT s.heap H) := fun b o z => hid (kin b o z) (by
      cases q : H b with
      | none => rfl
      | some u =>
        have e := is_a q
        subst e
        rw [not_K (by rw [q]; simp)] at z
        cases z)
    have mod : Mod K mg (hidT s.heap H) := by
      obtain ⟨mc, l1, l2⟩ := nolim
      exact ⟨kin_hid, ns_hid glob, ⟨mb, ns_hid blt, boot⟩, ⟨mc, ns_hid l1, l2⟩⟩
    have env0 : Env0 P w K mg (hidT s.heap H) callerA [] s H := ⟨rfl, mod, fun b o z => of_hidT z, Nat.le_of_eq (hidT_size _ _), trivial, (fun b hb => absurd hb (by simp [frs])), hok, .of_eq nogen⟩
    have run := (G _ kin_hid (ns_hid glob)).go callerA [] s H ⟨[.ref a], []⟩ [.ref a] [.ref a] _ _ rfl hr env0 (bind s (.ref a)) (.cons rfl .nil) (want H only seq)
    refine codeAny_mono run fun r s' back => ?_
    match r, back with
    | .error er, back => exact (calm H er s' back).elim
    | .ok .next, back => exact False.elim back
    | .ok .brk, back => exact False.elim back
    | .ok .cont, back => exact False.elim back
    | .ok (.ret u), ⟨v, H', os, bare, un, hok', ru, q⟩ =>
      have vt : v = .bl true := q
      subst vt
      obtain rfl : u = Value.bool true := ru
      refine ⟨rfl, OldK.of_keep fun b o z => ?_, os, bare⟩
      cases q : H b with
      | none => exact un.keep b o z q (fun z => nomatch z) (by simp)
      | some u =>
        rcases only b with n | ⟨ob, xs, e⟩
        · rw [q] at n
          cases n
        · have e' := un.frzs b ob _ e
          obtain ⟨z1, _⟩ := hok b _ e
          obtain ⟨z2, _⟩ := hok' b _ e'
          rw [z] at z1
          cases z1
          exact z2
  have its_len : (ns.map V.int).length ≤ sizeLine := by
    rw [List.length_map]
    exact few
  cases in_K : K.lookup a with
  | some o =>
    have z := kin a o in_K
    rw [at_a] at z
    cases z
    refine main (fun _ => none) (fun _ => .inl rfl) (.inr ⟨_, vs.toArray, _, in_K, rfl, rfl, rfl, ?_, by simpa using rel⟩) (fun b u z => nomatch (show (none : Option HO) = some u from z)) (fun b z => absurd rfl z) fun z => absurd rfl z
    rw [List.size_toArray, same_len]
    exact few
  | none =>
    refine main (fun b => if b = a then some (.frz { cls := .type "list", data := .seq vs.toArray } (.lst (ns.map V.int))) else none) (fun b => ?_) (.inl (.inr ⟨_, if_pos rfl⟩)) (fun b u z => ?_) (fun b z => ?_) fun _ => in_K
    · by_cases e : b = a
      · exact .inr ⟨_, _, if_pos e⟩
      · exact .inl (if_neg e)
    · by_cases e : b = a
      · have z2 := (if_pos e).symm.trans z
        cases z2
        subst e
        exact ⟨at_a, its_len, vs, _, rel, at_a⟩
      · exact nomatch (if_neg e).symm.trans z
    · by_cases e : b = a
      · exact e
      · exact absurd (if_neg e) z

/-- what the head leaves (case hc), from such a promise of the law -/
theorem walk_ofG {l : PySem.W.OpenLaw} {n k : Nat} {q : Program} {loose : List Str} {XP : (Str → Option Value) → Heap → Prop} {YP : World → Heap → Prop} {d : DefRec} {K : Params → PySem.W.Frag} {sp : PySem.W.Frag → Sp} {x : Str}
    (most : l.most = some n) (low : n ≤ sizeLine) (plain : d.params.defaults = []) (hr : Room k callerA) (hY : ∀ (w : World) (h : Heap), YP w h → (K w.params).In h)
    (F : ∀ (w : World) (mg : Str → Option Value) (fa : Addr) (h : Heap), (K w.params).In h → h.Ns mainGlobals mg → mg d.name = some (.ref fa) →
      ∃ fd : FuncData, (∀ (s : Shared) (u : Value), BindsTo s fd ⟨[u], []⟩ [(x, u)]) ∧ ∀ base : Heap, (K w.params).In base → base.Ns mainGlobals mg → FnG l.prog w (K w.params) mg base CX0 k fa fd [x] (sp (K w.params)))
    (want : ∀ (K : PySem.W.Frag) (H : Hp) (a : Addr) (ns : List Int), ns.length ≤ n → Only H → SqL K H a (ns.map V.int) → sp K [.ref a] H (fun v _ => v = .bl true) fun _ _ _ => False) :
    PySem.W.WalkO q loose XP YP l.row.toRowW d [] (fun f vs => PySem.call f vs) := by
  refine Att.attach_call most plain fun w s₀ s₁ mg mb fa o pm cd doc a vs ns G Y ho hd hcd hmg at_a inums few nogen => ?_
  have kin := hY w _ Y
  obtain ⟨fd, bind, hF⟩ := F w mg fa _ kin G.T.g hmg
  exact law_callG kin G.T.g G.T.b G.T.builtins G.T.nolimit nogen at_a inums (Nat.le_trans few low) hr hF bind (fun H only seq => want _ H a ns few only seq) fun H e s' z => z
end L2

namespace PySem
namespace Ev
open PySem.W PySem.Calls PyProof.Rows PySem.HandSPX
section
open Builtin Builtin.ObjectAttr
variable {prog : Program} {w : World} {A : Around} {R : Result → Shared → Prop}
variable {hp : Heap} {g : Array GenState} {d : Drawn} {t : Nat} {os : OsState}
variable {K : W.Frag} {name : Str} {tk : Tok} {v : Value} {x C : Addr} {fv : Array Value} {cd : ClassData}

/-- what the store into an own exception asks of its class's chain -/
structure Chain (l : List Value) : Prop where
  ne : l.isEmpty = false
  ob : l.contains (.type "object") = true
  pass : ∀ self : Value, refuseLoop self "__setattr__" l = pure ()

theorem first_store (X : K.In hp) (at_x : hp.get? x = some { cls := .ref C, data := .fields fv })
    (of_C : W.clsIn K C = some cd) (ch : Chain cd.mro) (dict_so : cd.hasDict = true)
    (free : W.findIn K (.ref C) name = some none)
    (then_ : ∀ h' tk' dx, (∀ b o, b ≠ x → hp.get? b = some o → h'.get? b = some o) → hp.objs.size ≤ dx → dx ≠ x →
      h'.get? x = some { cls := .ref C, dict := some dx, data := .fields fv } →
      h'.Ns1 dx (fun y => if y = name then some v else none) →
      R (.ok (.ret .none)) ⟨h', g, d, tk', os⟩) :
    codeAny (model prog w) A (.call (.builtin "object.__setattr__") ⟨[.ref x, .str name tk, v], []⟩) R ⟨hp, g, d, t, os⟩ := by
  have inst : W.InstAt hp x { cls := .ref C, data := .fields fv } C none := ⟨at_x, rfl, rfl, trivial⟩
  have S := F.store_object
  have apart : x ≠ hp.objs.size := Nat.ne_of_lt (Heap.lt_size at_x)
  have under : W.Looks (model prog w) hp (isInstance (.ref x) (.type "object")) true :=
    inst.type.andThen (W.looks_mroIn X (by
      unfold W.mroIn
      rw [of_C, Option.bind_some, if_neg (by rw [ch.ne]; decide), ch.ob]))
  refine codeAny_call_builtin S.slot.plain S.entry ?_
  refine @W.check_slot (model prog w) _ _ ⟨hp, g, d, t, os⟩ "object.__setattr__" "object" "__setattr__" (.ref x)
    [.str name tk, v] [] _ S.kind S.split under (S.args (.ref x) (.str name tk) v) ?_
  have look_mro : W.Looks (model prog w) hp (mroOf (.ref C)) cd.mro := (W.looks_clsIn X of_C).andThen .now
  have no_taker : W.Looks (model prog w) hp (storeTaker? none) none := .now
  have look_cls : W.Looks (model prog w) hp (classData C) cd := W.looks_clsIn X of_C
  rw [W.osa_eq, refuse_eq]
  refine wpAny_bind (wpAny_bind (inst.type.at (wpAny_bind (look_mro.at ?_))))
  rw [ch.pass]
  refine wpAny_pure (wpAny_bind (inst.type.at (wpAny_bind ((W.looks_findIn X free).at ?_))))
  refine wpAny_bind (no_taker.at ?_)
  show wpAny _ _ (storeInOwnDict (.ref x) (.ref C) (.str name tk) name v false) _ _ _
  obtain ⟨c1, c2, c3, c4, c5, c6, c7, c8, c9, c10, c11⟩ := cd
  dsimp only at dict_so
  subst dict_so
  unfold storeInOwnDict ownDictForStores
  repeat (first
    | with_reducible refine store_in_new ?_ ?_
    | with_reducible refine wpAny_loadPart_at at_x ?_
    | with_reducible refine look_cls.at ?_
    | wp_step)
  · exact ⟨_, #[], _, (Heap.get?_update_ne _ _ _ _ apart.symm).trans (Heap.get?_push_at rfl rfl), rfl,
      fun e he => absurd he (by simp), fun _ => rfl⟩
  · intro h' tk' ns' same
    have still : (hp.push { cls := .type "dict", data := .dict #[] }).get? x = some { cls := .ref C, data := .fields fv } :=
      Heap.get?_push_of_some _ at_x
    refine then_ h' tk' hp.objs.size (fun b o hb ho => ?_) (Nat.le_refl _) apart.symm ?_ ns'
    · refine (same.2 b (Nat.ne_of_lt (Heap.lt_size ho))).trans ?_
      exact (Heap.get?_update_ne _ _ _ _ hb).trans (Heap.get?_push_of_some _ ho)
    · exact (same.2 x apart).trans (Heap.get?_update_self _ still rfl)

theorem next_store {dx : Addr} {m0 : Str → Option Value} {nl : List Str} (X : K.In hp)
    (at_x : hp.get? x = some { cls := .ref C, dict := some dx, data := .fields fv })
    (ns : hp.Ns1 dx m0) (wi : Within m0 nl) (few : nl.length ≤ 1000)
    (of_C : W.clsIn K C = some cd) (ch : Chain cd.mro) (dict_so : cd.hasDict = true)
    (free : W.findIn K (.ref C) name = some none)
    (then_ : ∀ h' tk', (∀ b o, b ≠ dx → hp.get? b = some o → h'.get? b = some o) →
      h'.Ns1 dx (fun y => if y = name then some v else m0 y) → R (.ok (.ret .none)) ⟨h', g, d, tk', os⟩) :
    codeAny (model prog w) A (.call (.builtin "object.__setattr__") ⟨[.ref x, .str name tk, v], []⟩) R ⟨hp, g, d, t, os⟩ := by
  obtain ⟨oD, esD, epD, hoD, hdD, _⟩ := ns.count wi
  have inst : W.InstAt hp x { cls := .ref C, dict := some dx, data := .fields fv } C (some oD) := ⟨at_x, rfl, rfl, hoD⟩
  have S := F.store_object
  have under : W.Looks (model prog w) hp (isInstance (.ref x) (.type "object")) true :=
    inst.type.andThen (W.looks_mroIn X (by
      unfold W.mroIn
      rw [of_C, Option.bind_some, if_neg (by rw [ch.ne]; decide), ch.ob]))
  refine codeAny_call_builtin S.slot.plain S.entry ?_
  refine @W.check_slot (model prog w) _ _ ⟨hp, g, d, t, os⟩ "object.__setattr__" "object" "__setattr__" (.ref x)
    [.str name tk, v] [] _ S.kind S.split under (S.args (.ref x) (.str name tk) v) ?_
  have look_mro : W.Looks (model prog w) hp (mroOf (.ref C)) cd.mro := (W.looks_clsIn X of_C).andThen .now
  have no_taker : W.Looks (model prog w) hp (storeTaker? none) none := .now
  have look_cls : W.Looks (model prog w) hp (classData C) cd := W.looks_clsIn X of_C
  rw [W.osa_eq, refuse_eq]
  refine wpAny_bind (wpAny_bind (inst.type.at (wpAny_bind (look_mro.at ?_))))
  rw [ch.pass]
  refine wpAny_pure (wpAny_bind (inst.type.at (wpAny_bind ((W.looks_findIn X free).at ?_))))
  refine wpAny_bind (no_taker.at ?_)
  show wpAny _ _ (storeInOwnDict (.ref x) (.ref C) (.str name tk) name v false) _ _ _
  obtain ⟨c1, c2, c3, c4, c5, c6, c7, c8, c9, c10, c11⟩ := cd
  dsimp only at dict_so
  subst dict_so
  unfold storeInOwnDict ownDictForStores
  repeat (first
    | with_reducible refine OEX.store_in_old ns wi few ?_
    | with_reducible refine wpAny_loadPart_at at_x ?_
    | with_reducible refine look_cls.at ?_
    | wp_step)
  intro h' tk' ns' same
  exact then_ h' tk' (fun b o hb ho => (same.2 b hb).trans ho) ns'
end

section
variable {prog : Program} {w : World} {A : Around} {E : Value → Shared → Prop} {R : Result → Shared → Prop} {h : Heap} {g : Array GenState}
variable {d : Drawn} {t : Nat} {os : OsState} {M : Model}
variable {nm q : Str} {C N : Addr} {bs bm bmB : List Value} {sn : List Str} {sub : List Value} {ab : Bool} {col : Option Bool} {dd : Option Addr}
variable {k0 k1 k2 k3 k5 : Option Value} {B newId initId : String} {rest : List Value} {kw : List (Str × Value)}

theorem check_new_kw (F : ExcBaseFacts B newId initId bmB) (hT : ∀ X : String, bm.contains (.type X) = bmB.contains (.type X)) {Q : Unit → Shared → Prop}
    (at_C : h.get? C = some (excClassObj nm q C N bs bm true sn sub ab col dd k0 k1 k2 k3 k5 newId)) (done : Q () ⟨h, g, d, t, os⟩) :
    wpAny M A (checkBuiltinCall newId ⟨.ref C :: rest, kw⟩) Q E ⟨h, g, d, t, os⟩ := by
  have has : (Value.ref C :: bm).contains (.type B) = true := by rw [List.contains_cons, hT, F.hasB, Bool.or_true]
  have st := F.noStar
  simp only [checkBuiltinCall, F.newKind, F.newSplit, F.newRow]
  repeat (first
    | refine wpAny_loadPart_at at_C ?_
    | (refine wpAny_isSubtype_exc at_C ?_; rw [has])
    | refine wpAny_staticBase_exc at_C ?_
    | refine wpAny_madeBy_exc at_C ?_
    | simp only [bne_self_eq_false, Bool.false_eq_true, if_false]
    | wp_step)
  exact done
end
end Ev
end PySem

namespace PySem
namespace Ev
open PySem.W PySem.Calls PyProof.Rows PySem.HandSPX
section
variable {prog : Program} {w : World} {A : Around} {E : Value → Shared → Prop} {R : Result → Shared → Prop} {h : Heap} {g : Array GenState}
variable {d : Drawn} {t : Nat} {os : OsState}
variable {nm q : Str} {C N : Addr} {bs bm bmB : List Value} {sn : List Str} {sub : List Value} {ab : Bool} {col : Option Bool} {dd : Option Addr}
variable {k0 k1 k2 k3 k5 : Option Value} {B newId initId : String} {rest : List Value} {kw : List (Str × Value)}

theorem new_kw (F : ExcBaseFacts B newId initId bmB) (hT : ∀ X : String, bm.contains (.type X) = bmB.contains (.type X))
    (at_C : h.get? C = some (excClassObj nm q C N bs bm true sn sub ab col dd k0 k1 k2 k3 k5 newId))
    (done : R (.ok (.ret (.ref (h.objs.size + 1)))) ⟨(h.push (W.kdv_tup rest)).push (excO C h.objs.size), g, d, t, os⟩)
    (few : rest.length ≤ sizeLine) :
    codeAny (model prog w) A (.builtin newId ⟨.ref C :: rest, kw⟩) R ⟨h, g, d, t, os⟩ := by
  have ends := F.ends
  have inB : (Value.ref C :: bm).contains (.type B) = true := by rw [List.contains_cons, hT, F.hasB, Bool.or_true]
  have notA : (Value.ref C :: bm).contains (.type "AttributeError") = false := by
    rw [List.contains_cons, hT, F.noAttr]
    rfl
  have notN : (Value.ref C :: bm).contains (.type "NameError") = false := by
    rw [List.contains_cons, hT, F.noName]
    rfl
  refine codeAny_builtinAt F.entry ?_
  unfold Builtin.«BaseException.__new__»
  refine wpAt_bind ?_
  show wpAt _ _ _ (stack >>= _) _ _ _
  refine wpAt_bind (wpAt_stack fun p below => wpAt_of_wpAny ?_)
  wp_walk
  refine wpAt_of_wpAny ?_
  rw [F.owner]
  repeat (first
    | with_reducible refine wpAny_madeHere_exc F.canon at_C ?_
    | with_reducible refine wpAny_loadPart_at at_C ?_
    | (with_reducible refine wpAny_isSubtype_exc at_C ?_; first | rw [inB] | rw [notA] | rw [notN])
    | wp_step)
  show R _ _
  rw [Heap.size_push]
  exact done

theorem type_call_kw (F : ExcBaseFacts B newId initId bmB) (hT : ∀ X : String, bm.contains (.type X) = bmB.contains (.type X)) {fI : Addr} {Q : Fin → Shared → Prop}
    (at_C : h.get? C = some (excClassObj nm q C N bs bm true sn sub ab col dd k0 k1 k2 k3 k5 newId))
    (hi : W.Looks (model prog w) h (typeLookup (.ref C) "__init__") (some (.ref fI)))
    (hb : ∀ self, W.Looks (model prog w) h (bindSpecial (.ref fI) self) (.ref fI, [self])) (few : rest.length ≤ sizeLine)
    (go : codeAny (model prog w) A (.call (.ref fI) ⟨.ref (h.objs.size + 1) :: rest, kw⟩)
      (fun r s' => match r with
        | .ok (.ret v) => v = .none ∧ Q (.done (.ret (.ref (h.objs.size + 1)))) s'
        | .ok _ => False
        | .error e => E e s')
      ⟨(h.push (W.kdv_tup rest)).push (excO C h.objs.size), g, d, t, os⟩) :
    wpAny (model prog w) A (Builtin.«type.__call__» ⟨.ref C :: rest, kw⟩) Q E ⟨h, g, d, t, os⟩ := by
  repeat (first
    | with_reducible refine wpAny_loadPart_at at_C ?_
    | with_reducible refine wpAny_madeBy_exc at_C ?_
    | wp_step)
  refine codeAny_call_builtin_code (Code.quiet_builtin _ F.quiet) (check_new_kw F hT at_C ?_)
  refine new_kw F hT at_C ?_ few
  show wpAny _ _ _ _ _ _
  have old : ∀ b o, h.get? b = some o → ((h.push (W.kdv_tup rest)).push (excO C h.objs.size)).get? b = some o :=
    fun b o e => Heap.get?_push_of_some _ (Heap.get?_push_of_some _ e)
  have at_C2 := old _ _ at_C
  have at_e : ((h.push (W.kdv_tup rest)).push (excO C h.objs.size)).get? (h.objs.size + 1) = some (excO C h.objs.size) := by heap_get
  have selfC : (Value.ref C :: bm).contains (.ref C) = true := by simp
  have i1 := hi.keeps old
  have b1 := (hb (.ref (h.objs.size + 1))).keeps old
  unfold isInstance
  repeat (first
    | with_reducible refine wpAny_loadPart_at at_e ?_
    | (with_reducible refine wpAny_isSubtype_exc at_C2 ?_; rw [selfC])
    | wp_step)
  show wpAny _ _ (typeLookup (.ref C) _) _ _ _
  refine i1.at ?_
  refine wpAny_holding (wpAny_bind (b1.at ?_))
  refine wpAny_bind (wpAny_call (codeAny_mono go fun r s' z => ?_))
  rcases r with e | (v | _ | _ | _) <;> first | exact z | exact z.elim | skip
  obtain ⟨rfl, z⟩ := z
  first
    | exact wpAny_pure (wpAny_pure z)
    | (wp_walk; exact z)

theorem check_call_kw {Q : Unit → Shared → Prop} (at_C : h.get? C = some (excClassObj nm q C N bs bm true sn sub ab col dd k0 k1 k2 k3 k5 newId))
    (done : Q () ⟨h, g, d, t, os⟩) : wpAny (model prog w) A (checkBuiltinCall "type.__call__" ⟨.ref C :: rest, kw⟩) Q E ⟨h, g, d, t, os⟩ := by
  have f3 := tc_sub
  have ty : (⟨h, g, d, t, os⟩ : Shared).TypeIs (.ref C) "type" := ⟨_, at_C, rfl⟩
  simp only [checkBuiltinCall, tc_kind, tc_split]
  repeat (any_goals (first
    | assumption
    | with_reducible refine wpAny_loadPart_at at_C ?_
    | with_reducible refine wpAny_onRaise ?_
    | with_reducible refine wpAny_map ?_
    | wp_step))

theorem call_kw (F : ExcBaseFacts B newId initId bmB) (hT : ∀ X : String, bm.contains (.type X) = bmB.contains (.type X)) {fI : Addr}
    (at_C : h.get? C = some (excClassObj nm q C N bs bm true sn sub ab col dd k0 k1 k2 k3 k5 newId))
    (hi : W.Looks (model prog w) h (typeLookup (.ref C) "__init__") (some (.ref fI)))
    (hb : ∀ self, W.Looks (model prog w) h (bindSpecial (.ref fI) self) (.ref fI, [self])) (few : rest.length ≤ sizeLine)
    (go : codeAny (model prog w) (A.under (.builtin "type.__call__" ⟨.ref C :: rest, kw⟩)) (.call (.ref fI) ⟨.ref (h.objs.size + 1) :: rest, kw⟩)
      (W.InitBack (h.objs.size + 1) R) ⟨(h.push (W.kdv_tup rest)).push (excO C h.objs.size), g, d, t, os⟩) :
    codeAny (model prog w) A (.call (.ref C) ⟨rest, kw⟩) R ⟨h, g, d, t, os⟩ := by
  have f1 := tc_lookup
  have f2 := tc_bind (.ref C)
  have ty : (⟨h, g, d, t, os⟩ : Shared).TypeIs (.ref C) "type" := ⟨_, at_C, rfl⟩
  refine codeAny_of_tree ?_
  show wpAny _ _ (callAny (.ref C) _) _ _ _
  repeat (any_goals (first
    | assumption
    | with_reducible refine wpAny_loadPart_at at_C ?_
    | wp_step))
  refine ⟨rfl, ?_⟩
  refine codeAny_call_builtin_at (Code.quiet_builtin _ (by decide +kernel)) entry_typeCall ?_
  refine check_call_kw at_C (type_call_kw F hT at_C hi hb few ?_)
  refine codeAny_mono go fun r s' z => ?_
  rcases r with e | (v | _ | _ | _) <;> exact z
end
end Ev
end PySem

namespace L2
open PySem PySem.Spec PyProof.Rows

/-- what the written part says of an own exception class at C: its chain is own classes, then tail (that of the built-in B) -/
structure XT (K : PySem.W.Frag) (B newId initId : String) (tail : List Value) (C : Addr) : Prop where
  F : ExcBaseFacts B newId initId tail
  SF : StoreFacts B tail "object.__setattr__" "object"
  te : tail.isEmpty = false
  cls : ∃ nm q N bs, ∃ cs : List Addr, ∃ sn sub ab col dd k0 k1 k2 k3 k5,
    K.lookup C = some (excClassObj nm q C N bs (cs.map Value.ref ++ tail) true sn sub ab col dd k0 k1 k2 k3 k5 newId)
  sa : PySem.W.findIn K (.ref C) "__setattr__" = some (some (.builtin "object.__setattr__"))
  ga : PySem.W.findIn K (.ref C) "__getattribute__" = some (some (.builtin "BaseException.__getattribute__"))
  gg : PySem.W.findIn K (.ref C) "__getattr__" = some none
  ex : PySem.W.subIn K (.ref C) (.type "BaseException") = some true
  kp : PySem.W.keepIn K (.ref C) = true
  hd : PySem.W.hasDictIn K C = true
  ha : PySem.W.findIn K (.ref C) "__class__" = some (some (.builtin "object.__class__"))
  hn : PySem.W.specialIn K (.builtin "object.__class__") "__get__" = some (some (.builtin "getset_descriptor.__get__"))
  ht : PySem.W.takesIn K (.builtin "object.__class__") = some true
  hm : PySem.W.mroIn K C (.type "object") = some true

theorem own_contains (X : String) (tail : List Value) : ∀ cs : List Addr, (cs.map Value.ref ++ tail).contains (.type X) = tail.contains (.type X)
  | [] => rfl
  | c :: cs => by
    show (Value.ref c :: (cs.map Value.ref ++ tail)).contains (.type X) = _
    rw [List.contains_cons, own_contains X tail cs]
    rfl
theorem own_pass {B sa ow : String} {tail : List Value} (S : StoreFacts B tail sa ow) (self : Value) : ∀ cs : List Addr, refuseLoop self "__setattr__" (cs.map Value.ref ++ tail) = pure ()
  | [] => S.passes self
  | c :: cs => by
    show refuseLoop self "__setattr__" (Value.ref c :: (cs.map Value.ref ++ tail)) = _
    rw [refuseLoop_ref]
    exact own_pass S self cs

section
variable {X : Cx} {pins : List (Addr × Obj)} {σ : L2.St} {H : Hp} {s : Shared} {a C dx : Addr} {f : Str} {y : V} {u : Value} {fs : List (Str × V)} {Q : Unit → Shared → Prop} {E : Value → Shared → Prop} {A : Around}
variable {B newId initId : String} {tail : List Value}

theorem XT.chain {K : PySem.W.Frag} (T : XT K B newId initId tail C) (cs : List Addr) : Ev.Chain (.ref C :: (cs.map Value.ref ++ tail)) where
  ne := rfl
  ob := by
    rw [List.contains_cons, own_contains, T.SF.hasOwner]
    rfl
  pass := fun self => by
    rw [refuseLoop_ref]
    exact own_pass T.SF self cs

/-- self.f = y, the first field -/
theorem fx_first (T : XT X.K B newId initId tail C) (I : Inv X pins σ H s) (e : H a = some (exo a C none)) (free : PySem.W.findIn X.K (.ref C) f = some none) (ry : RelV y u)
    (h : ∀ dx s', H dx = none → dx ≠ a → Inv X pins σ (upd (upd H dx (exd dx [(f, y)])) a (exo a C (some dx))) s' → Q () s') :
    wpAny (model X.prog X.w) A (setAttr (.ref a) f u) Q E s := by
  obtain ⟨nm, q, N, bs, cs, sn, sub, ab, col, dd, k0, k1, k2, k3, k5, atC⟩ := T.cls
  have look : PySem.W.clsIn X.K C = some { name := nm, bases := bs, mro := .ref C :: (cs.map Value.ref ++ tail), ns := N, qualname := q, hasDict := true, slotNames := sn, subclasses := sub, abstract := ab, collection := col, hasDel := false } := by
    unfold PySem.W.clsIn
    rw [atC] <;> rfl
  obtain ⟨t1, ho⟩ := exo_at I.hok e
  obtain ⟨hp, g, d, t, os⟩ := s
  refine PySem.W.set_plain I.kIn (ox := { cls := .ref C, dict := none, data := .fields #[.ref t1, .none, .none, .none, .bool false, .none] }) (od := none) ⟨ho, rfl, rfl, trivial⟩ T.sa ?_
  refine Ev.first_store I.kIn ho look (T.chain cs) rfl free fun h' tk' dx k dn dne hx hn => ?_
  have none_d : H dx = none := I.hok.fresh dn
  have notD : ∀ {b : Addr} {o : Obj}, hp.get? b = some o → b ≠ dx := fun {b o} z => Nat.ne_of_lt (Nat.lt_of_lt_of_le (Heap.lt_size z) dn)
  have notA : ∀ {b : Addr}, H b = none → b ≠ a := fun {b} n z => by
    rw [z, e] at n
    cases n
  have un : Un X.fs [] H (upd (upd H dx (exd dx [(f, y)])) a (exo a C (some dx))) hp h' :=
    { keep := fun b o z n _ _ => k b o (notA n) z
      slot := fun b o z n _ _ => ⟨o.slots, k b o (notA n) z⟩
      free := fun b o z n _ => by
        rw [upd_ne (notA n), upd_ne (notD z)]
        exact n
      there := fun b o z _ => by
        by_cases hb : b = a
        · subst hb
          exact ⟨_, hx⟩
        · exact ⟨o, k b o hb z⟩
      tups := fun b xs z => by
        rw [upd_ne (at_ne e z exo_tup), upd_ne (ne_of_none z none_d)]
        exact z
      frzs := fun b o v z => by
        rw [upd_ne (at_ne e z exo_frz), upd_ne (ne_of_none z none_d)]
        exact z
      tbls := fun b ps z => ⟨#[], by
        rw [upd_ne (at_ne e z exo_tbl), upd_ne (ne_of_none z none_d), z]
        simp⟩ }
  refine h dx _ none_d dne (I.un (t' := tk') un fun b o z => ?_)
  by_cases hb : b = a
  · subst hb
    rw [upd_same] at z
    cases z
    exact exo_ok hx
  rw [upd_ne hb] at z
  by_cases hd : b = dx
  · subst hd
    rw [upd_same] at z
    cases z
    exact exd_ok hn (relO_put (fs := []) ry fun g => True.intro)
  rw [upd_ne hd] at z
  have own_ne : ∀ {c : Addr}, H c = some (.own b) → c ≠ a := fun hc => at_ne e hc exo_own
  refine (I.hok b o z).stay (fun c v hc y => k c v ?_ y) (fun c hc => ?_) fun c xs hc => ?_
  · rcases hc with hc | hc
    · exact hc ▸ hb
    · exact own_ne hc
  · rw [upd_ne (own_ne hc), upd_ne (ne_of_none hc none_d)]
    exact hc
  · rw [upd_ne (at_ne e hc exo_tup), upd_ne (ne_of_none hc none_d)]
    exact hc

/-- self.f = y, a field more -/
theorem fx_next (T : XT X.K B newId initId tail C) (I : Inv X pins σ H s) (e : H a = some (exo a C (some dx))) (ed : H dx = some (exd dx fs)) (few : fs.length ≤ 900)
    (free : PySem.W.findIn X.K (.ref C) f = some none) (ry : RelV y u) (h : ∀ s', Inv X pins σ (upd H dx (exd dx ((f, y) :: fs))) s' → Q () s') :
    wpAny (model X.prog X.w) A (setAttr (.ref a) f u) Q E s := by
  obtain ⟨nm, q, N, bs, cs, sn, sub, ab, col, dd, k0, k1, k2, k3, k5, atC⟩ := T.cls
  have look : PySem.W.clsIn X.K C = some { name := nm, bases := bs, mro := .ref C :: (cs.map Value.ref ++ tail), ns := N, qualname := q, hasDict := true, slotNames := sn, subclasses := sub, abstract := ab, collection := col, hasDel := false } := by
    unfold PySem.W.clsIn
    rw [atC] <;> rfl
  obtain ⟨t1, ho⟩ := exo_at I.hok e
  obtain ⟨mA, hns, rel⟩ := exd_at I.hok ed
  have wi := within_of rel
  obtain ⟨hp, g, d, t, os⟩ := s
  obtain ⟨oD, _, _, hoD, _, _⟩ := hns.count wi
  refine PySem.W.set_plain I.kIn (ox := { cls := .ref C, dict := some dx, data := .fields #[.ref t1, .none, .none, .none, .bool false, .none] }) (od := some oD) ⟨ho, rfl, rfl, hoD⟩ T.sa ?_
  refine Ev.next_store I.kIn ho hns wi ?_ look (T.chain cs) rfl free fun h' tk' k hn => ?_
  · rw [List.length_map]
    omega
  have there : ∃ o, h'.get? dx = some o := by
    obtain ⟨o, _, _, z, _⟩ := hn
    exact ⟨o, z⟩
  refine h _ (I.write (t' := tk') (x := dx) (e := dx) (o := exd dx ((f, y) :: fs)) ?_ (.inl rfl) k there (exd_ok hn (relO_put ry rel)))
  rw [ed]
  exact True.intro
end

/-- self.f = e in an __init__ -/
def tFx (K : PySem.W.Frag) (f : Str) (to te : TE) : TS := fun D σ H => te σ H fun y H1 => to σ H1 fun x H2 => ∃ (B newId initId : String) (tail : List Value) (a C : Addr), x = .ref a ∧ XT K B newId initId tail C ∧ PySem.W.findIn K (.ref C) f = some none ∧
  ((H2 a = some (exo a C none) ∧ ∀ dx, H2 dx = none → dx ≠ a → D.nx σ (upd (upd H2 dx (exd dx [(f, y)])) a (exo a C (some dx)))) ∨
    ∃ (dx : Addr) (fs : List (Str × V)), H2 a = some (exo a C (some dx)) ∧ H2 dx = some (exd dx fs) ∧ fs.length ≤ 900 ∧ D.nx σ (upd H2 dx (exd dx ((f, y) :: fs))))
theorem ps_fx {X : Cx} {o e : Expr} {to te : TE} {f : Str} {p' pos : Pos} (ho : PE X o to) (he : PE X e te) (hs : swapsWith e (some (.Attribute o f p')) pos.line X.env = pure false := by rfl) :
    PS X (.Assign [.Attribute o f p'] e pos) (tFx X.K f to te) := by
  refine ⟨fun pins s σ H D I h => ?_⟩
  refine plainObj_wpAny_Assign_Attribute (thn (he.run pins s σ H _ I h) fun v s1 hv => ?_) hs
  obtain ⟨y, H1, I1, r1, q1⟩ := hv
  refine thn (ho.run pins s1 σ H1 _ I1 q1) fun u s2 hu => ?_
  obtain ⟨x, H2, I2, r2, B, newId, initId, tail, a, C, ex, T, free, q⟩ := hu
  subst ex
  obtain rfl : u = Value.ref a := r2
  rcases q with ⟨ea, q⟩ | ⟨dx, fs, ea, ed, few, q⟩
  · exact fx_first T I2 ea free r1 fun dx s' n ne J => ⟨σ, _, J, q dx n ne⟩
  · exact fx_next T I2 ea ed few free r1 fun s' J => ⟨σ, _, J, q⟩
end L2

namespace L2
open PySem PySem.Spec PyProof.Rows
section
variable {X : Cx} {pins : List (Addr × Obj)} {σ : L2.St} {H : Hp} {s : Shared} {C fI : Addr} {Q : VK} {E : XK} {CX : CXT} {k : Nat} {fd : FuncData} {ps ks : List Str} {sp : Sp}
variable {B newId initId : String} {tail : List Value} {x : Str} {p pos : Pos} {e : Expr} {es : List Expr} {kws : List Keyword} {t tk te : TA}

/-- a call of the class, whatever way its arguments come -/
theorem run_mkx {us zs : List Value} {kw : List (Str × Value)} {vs : List V} (T : XT X.K B newId initId tail C) (iC : PySem.W.findIn X.K (.ref C) "__init__" = some (some (.ref fI))) (tI : PySem.W.typeIn X.K (.ref fI) = some (.type "function"))
    (G : FnOk X.prog X.w X.K X.mg X.base CX k fI fd ps sp) (hr : Room (k + 1) X.A) (hx : Passes CX X E)
    (bind : ∀ (s : Shared) (a : Value), X.K.In s.heap → (a :: zs).length = ps.length → BindsTo s fd ⟨a :: us, kw⟩ (ps.zip (a :: zs))) (I : Inv X pins σ H s) (r : Vals vs zs) (few : us.length ≤ sizeLine)
    (h : ∀ a, H a = none → sp (.ref a :: vs) (upd H a (exo a C none)) (fun v H2 => v = .non ∧ Q (.ref a) H2) E) :
    wpAny (model X.prog X.w) X.A (call (.ref C) us kw) (EP X pins σ Q) X.xe s := by
  obtain ⟨nm, q, N, bs, cs, sn, sub, ab, col, dd, k0, k1, k2, k3, k5, atC⟩ := T.cls
  obtain ⟨hp, g, dr, tk, os⟩ := s
  have le : hp.objs.size ≤ hp.objs.size + 1 := Nat.le_succ _
  have want := h (hp.objs.size + 1) (I.hok.fresh le)
  have old : ∀ b o, hp.get? b = some o → ((hp.push (PySem.W.kdv_tup us)).push (PySem.HandSPX.excO C hp.objs.size)).get? b = some o :=
    fun b o z => Heap.get?_push_of_some _ (Heap.get?_push_of_some _ z)
  have new : ((hp.push (PySem.W.kdv_tup us)).push (PySem.HandSPX.excO C hp.objs.size)).get? (hp.objs.size + 1) = some (PySem.HandSPX.excO C hp.objs.size) := by heap_get
  have I2 : Inv X pins σ (upd H (hp.objs.size + 1) (exo (hp.objs.size + 1) C none)) ⟨(hp.push (PySem.W.kdv_tup us)).push (PySem.HandSPX.excO C hp.objs.size), g, dr, tk, os⟩ :=
    I.laid (t' := tk) (a := hp.objs.size + 1) (o := exo (hp.objs.size + 1) C none) (h' := (hp.push (PySem.W.kdv_tup us)).push (PySem.HandSPX.excO C hp.objs.size)) old le (exo_ok new)
  have r2 : Vals (V.ref (hp.objs.size + 1) :: vs) (Value.ref (hp.objs.size + 1) :: zs) := .cons rfl r
  have len : (Value.ref (hp.objs.size + 1) :: zs).length = ps.length := by
    have z := r2.length
    rw [G.len _ _ _ _ want] at z
    exact z.symm
  refine wpAny_call (Ev.call_kw T.F (fun Y => own_contains Y tail cs) (I.kIn _ _ atC) (PySem.W.looks_findIn I.kIn iC) (fun self => PySem.W.bind_fn I.kIn self tI) few ?_)
  refine codeAny_mono (G.run _ X.stack _ _ ⟨Value.ref (hp.objs.size + 1) :: us, kw⟩ (Value.ref (hp.objs.size + 1) :: zs) _ _ E (hr.make C us kw) (I2.env0.make C us kw) (bind _ _ I2.kIn len) r2 want) fun r s' back => ?_
  cases r with
  | error er => exact hx pins σ _ _ er s' I2 back
  | ok fl =>
    cases fl with
    | ret u =>
      obtain ⟨v, H', I3, rv, ev, q3⟩ := I2.after back
      subst ev
      exact ⟨rv, ⟨V.ref (hp.objs.size + 1), H', I3, rfl, q3⟩⟩
    | next => exact False.elim back
    | brk => exact False.elim back
    | cont => exact False.elim back

/-- C(e, ..) as a value: a new exception object whose own __init__ keeps sp -/
def tMkx (C : Addr) (sp : Sp) (E : XK) (t : TA) : TE := fun σ H Q => t σ H fun vs H1 => vs.length ≤ 1000 ∧ ∀ a, H1 a = none → sp (.ref a :: vs) (upd H1 a (exo a C none)) (fun v H2 => v = .non ∧ Q (.ref a) H2) E
theorem pe_mkx (T : XT X.K B newId initId tail C) (iC : PySem.W.findIn X.K (.ref C) "__init__" = some (some (.ref fI))) (tI : PySem.W.typeIn X.K (.ref fI) = some (.type "function"))
    (G : FnOk X.prog X.w X.K X.mg X.base CX k fI fd ps sp) (hr : Room (k + 1) X.A) (hb : Binds X.K fd ps []) (hx : Passes CX X E) (hg : Gl X x) (hm : X.mg x = some (.ref C)) (ha : PA X (e :: es) t)
    (hdb : (x == ("__debug__" : Str)) = false := by decide) (he : starEach (e :: es) X.env = (false, eval e X.env) :: starEach es X.env := by rfl) (hpl : (backTo pos (starEach es X.env)).any (·.1) = false := by rfl) :
    PE X (.Call (.Name x p) (e :: es) [] pos) (tMkx C sp E t) := by
  refine ⟨fun pins s σ H Q I h => wpAny_Call_Name_kw (ld_glob I hg hm ?_ hdb)⟩
  refine PySem.W.callWith_K (h₀ := X.base) I.ok.mod.kin T.kp (thn (ha.run pos pins s σ H _ I h) fun us s1 hu => ?_) he hpl
  obtain ⟨vs, H1, I1, r1, few, q1⟩ := hu
  refine ⟨I1.kIn, run_mkx (kw := []) (zs := us) T iC tI G hr hx (fun s a kin hl => ?_) I1 r1 ?_ q1⟩
  · have z := hb s (a :: us) kin (by simpa using hl)
    simpa using z
  · show us.length ≤ sizeLine
    rw [← Paired.length r1, sizeLine_eq]
    omega
/-- C(f=e): one keyword, no other argument -/
theorem pe_mkxK {f : Str} (T : XT X.K B newId initId tail C) (iC : PySem.W.findIn X.K (.ref C) "__init__" = some (some (.ref fI))) (tI : PySem.W.typeIn X.K (.ref fI) = some (.type "function"))
    (G : FnOk X.prog X.w X.K X.mg X.base CX k fI fd ps sp) (hr : Room (k + 1) X.A) (hx : Passes CX X E) (hg : Gl X x) (hm : X.mg x = some (.ref C)) (order : List Value → List Value) (orderV : List V → List V)
    (hb : ∀ (s : Shared) (a : Value) (zs : List Value), X.K.In s.heap → (a :: order zs).length = ps.length → BindsTo s fd ⟨[a], ks.zip zs⟩ (ps.zip (a :: order zs))) (hv : ∀ {vs : List V} {zs : List Value}, Vals vs zs → Vals (orderV vs) (order zs))
    (hkw : PK X kws t) (hall : (backToKw pos (keywordEach kws X.env)).all (·.1.isSome) = true := by rfl) (hks : (backToKw pos (keywordEach kws X.env)).filterMap (·.1) = ks := by rfl) (hdb : (x == ("__debug__" : Str)) = false := by decide)
    (hpl : ((backTo pos (starEach [] X.env)).any (·.1) || (backToKw pos (keywordEach kws X.env)).any (·.1.isNone)) = false := by rfl) :
    PE X (.Call (.Name x p) [] kws pos) (fun σ H Q => t σ H fun vs H1 => ∀ a, H1 a = none → sp (.ref a :: orderV vs) (upd H1 a (exo a C none)) (fun v H2 => v = .non ∧ Q (.ref a) H2) E) := by
  refine ⟨fun pins s σ H Q I h => wpAny_Call_Name_kw (ld_glob I hg hm ?_ hdb)⟩
  refine PySem.W.callWith_KW0 (h₀ := X.base) I.ok.mod.kin T.kp hall (thn (hkw.run pos pins s σ H _ I h) fun ws s1 hw => ?_) hpl
  obtain ⟨vs, H1, I1, r1, q1⟩ := hw
  refine ⟨I1.kIn, ?_⟩
  rw [hks]
  exact run_mkx (us := []) (zs := order ws) T iC tI G hr hx (fun s a kin hl => hb s a ws kin hl) I1 (hv r1) (by rw [sizeLine_eq]; exact Nat.zero_le _) q1
/-- C(), without an own __init__ and without arguments -/
theorem pe_mkx0 {tl : List Value} (F : ExcBaseFacts B newId initId tl) (q : PySem.W.excIn X.K C tl newId = true) (kp : PySem.W.keepIn X.K (.ref C) = true) (hg : Gl X x) (hm : X.mg x = some (.ref C)) (hdb : (x == ("__debug__" : Str)) = false := by decide) :
    PE X (.Call (.Name x p) [] [] pos) (fun σ H Q => ∀ a, H a = none → Q (.ref a) (upd H a (exo a C none))) := by
  refine ⟨fun pins s σ H Q I h => wpAny_Call_Name_kw (ld_glob I hg hm ?_ hdb)⟩
  refine PySem.W.callWith_K0 I.kIn kp ?_
  obtain ⟨bm, N, nm, qn, bs, hdct, sn, sub, ab, col, dd, k0, k1, k2, k3, k5, mN, hC, hN, hni, T⟩ := exc_obj I.kIn q
  show wpAny _ _ (call (.ref C) []) _ _ _
  refine wpAny_call_exc_subT F T hC hN hni (fun h' a made => ?_) (by show 0 ≤ sizeLine; exact Nat.zero_le _)
  have free : H a = none := I.hok.gone made.new
  obtain ⟨tt, ht, _, _⟩ := made.there
  exact ⟨.ref a, upd H a (exo a C none), I.laidN made.keeps made.new free (exo_ok ht), rfl, h a free⟩
end

/-- a made exception: its object, of the class at C, and its fields -/
def ExAt (H : Hp) (a C : Addr) (fs : List (Str × V)) : Prop := (H a = some (exo a C none) ∧ fs = []) ∨ ∃ d, H a = some (exo a C (some d)) ∧ H d = some (exd d fs)
theorem ExAt.inst {X : Cx} {pins : List (Addr × Obj)} {σ : L2.St} {H : Hp} {s : Shared} {a C : Addr} {fs : List (Str × V)} (I : Inv X pins σ H s) (h : ExAt H a C fs) :
    ∃ (oe : Obj) (od : Option Obj), PySem.W.InstAt s.heap a oe C od := by
  rcases h with ⟨e, _⟩ | ⟨d, e, ed⟩
  · obtain ⟨t1, ho⟩ := exo_at I.hok e
    exact ⟨_, none, ho, rfl, rfl, trivial⟩
  · obtain ⟨t1, ho⟩ := exo_at I.hok e
    obtain ⟨mA, hns, rel⟩ := exd_at I.hok ed
    obtain ⟨od, h1, h2⟩ := lookIn_ns hns
    exact ⟨_, some od, ho, rfl, rfl, h1⟩
theorem ExAt.same {H H' : Hp} {a C : Addr} {fs : List (Str × V)} (sm : ∀ b o, H b = some o → H' b = some o) (h : ExAt H a C fs) : ExAt H' a C fs := by
  rcases h with ⟨e, z⟩ | ⟨d, e, ed⟩
  · exact .inl ⟨sm _ _ e, z⟩
  · exact .inr ⟨d, sm _ _ e, sm _ _ ed⟩
/-- isinstance(x, c), x a made exception -/
def rIsX (K : PySem.W.Frag) : List V → Hp → VK → Prop := fun xs H Q => ∃ (B newId initId : String) (tail : List Value) (a D : Addr) (fs : List (Str × V)) (c : V) (cv : Value) (b : Bool), xs = [.ref a, c] ∧
  XT K B newId initId tail D ∧ ExAt H a D fs ∧ ClsV c cv ∧ PySem.W.kitOne K (.ref D) cv = some b ∧ Q (.bl b) H
theorem call_isX {X : Cx} : CallR X (.builtin "isinstance") (rIsX X.K) := by
  intro pins s σ H xs us Q I r h
  obtain ⟨B, newId, initId, tail, a, D, fs, c, cv, b, rfl, T, ea, hc, e, q⟩ := h
  obtain ⟨u1, u2, rfl, r1, r2⟩ := vals2 r
  cases (show u1 = Value.ref a from r1)
  have z := hc.eq r2
  subst z
  obtain ⟨oe, od, J⟩ := ea.inst I
  have some_cls : (PySem.W.clsIn X.K D).isSome = true := by
    obtain ⟨cd, z, _⟩ := PySem.W.any_some T.hd
    rw [z]
    rfl
  exact PySem.W.kia_one (PySem.W.kitx_exc some_cls T.ga T.gg T.ex T.ha T.hn T.ht T.hm) I.kIn J e (fun z => nomatch z) fun tk => ⟨.bl b, H, I.tok tk, rfl, q⟩
/-- x.f, x a made exception that has the field -/
def tXa (K : PySem.W.Frag) (f : Str) (te : TE) : TE := fun σ H Q => te σ H fun x H1 => ∃ (B newId initId : String) (tail : List Value) (a D d : Addr) (fs : List (Str × V)) (v : V), x = .ref a ∧ XT K B newId initId tail D ∧
  PySem.W.findIn K (.ref D) f = some none ∧ H1 a = some (exo a D (some d)) ∧ H1 d = some (exd d fs) ∧ fs.lookup f = some v ∧ Q v H1
theorem pe_xa {X : Cx} {e : Expr} {te : TE} {pos : Pos} {f : Str} (he : PE X e te) (hb : attributeBase e f X.env (eval e X.env) = eval e X.env := by rfl) : PE X (.Attribute e f pos) (tXa X.K f te) := by
  refine ⟨fun pins s σ H Q I h => attr_of hb (thn (he.run pins s σ H _ I h) fun u s1 hh => ?_)⟩
  obtain ⟨x, H1, I1, rx, B, newId, initId, tail, a, D, d, fs, v, ex, T, free, ea, ed, l, q⟩ := hh
  subst ex
  obtain rfl : u = Value.ref a := rx
  obtain ⟨t1, ho⟩ := exo_at I1.hok ea
  obtain ⟨mA, hns, rel⟩ := exd_at I1.hok ed
  obtain ⟨od, h1, h2⟩ := lookIn_ns hns
  obtain ⟨u, hu, ru⟩ := RelO.some_of (v := v) (o := mA f) (by rw [← l]; exact rel f)
  have J : PySem.W.InstAt s1.heap a _ D (some od) := ⟨ho, rfl, rfl, h1⟩
  exact HandSPX.exc_get I1.kIn J T.ga T.gg T.ex (PySem.W.findObj_own T.hd free rfl (by rw [h2, hu])) (handed_of ru) ⟨v, H1, I1.tok _, ru, q⟩
end L2

namespace Lr
open PySem PySem.Spec PyProof.Rows L2
/-- what isinstance says of one of class D to each class -/
def Kits (K : PySem.W.Frag) (D : Addr) (cs : List Addr) (bs : List Bool) : Prop := (cs.map fun c => PySem.W.kitOne K (.ref D) (.ref c)) = bs.map some
/-- a pair of a word and a bool at t -/
def Pw (H : Hp) (t : Addr) (w : Str × Bool) : Prop := H t = some (.tup [.str w.1, .bl w.2])
/-- at p: a list of new pairs of a word and a bool -/
def PairsAt (H : Hp) (p : Addr) (ws : List (Str × Bool)) : Prop := ∃ ts : List Addr, H p = some (.lst (ts.map V.ref)) ∧ Paired (Pw H) ts ws
theorem paired_mono {α β : Type} {R S : α → β → Prop} (h : ∀ a b, R a b → S a b) : ∀ {as : List α} {bs : List β}, Paired R as bs → Paired S as bs
  | _, _, .nil => .nil
  | _, _, .cons x t => .cons (h _ _ x) (paired_mono h t)
theorem paired_app {α β : Type} {R : α → β → Prop} : ∀ {as : List α} {bs : List β} {as' : List α} {bs' : List β}, Paired R as bs → Paired R as' bs' → Paired R (as ++ as') (bs ++ bs')
  | _, _, _, _, .nil, q => q
  | _, _, _, _, .cons x t, q => .cons x (paired_app t q)
theorem paired_len {α β : Type} {R : α → β → Prop} : ∀ {as : List α} {bs : List β}, Paired R as bs → as.length = bs.length
  | _, _, .nil => rfl
  | _, _, .cons x t => by rw [List.length_cons, List.length_cons, paired_len t]
theorem same_upd {H : Hp} {p : Addr} {o : HO} (n : H p = none) : Same H (upd H p o) := fun b u e => by
  rw [upd_ne (ne_of_none e n)]
  exact e
theorem pw_same {H H' : Hp} (sm : Same H H') : ∀ (t : Addr) (w : Str × Bool), Pw H t w → Pw H' t w := fun t w e => sm _ _ e
/-- the heap behind a list of two new pairs -/
abbrev two2 (H : Hp) (t1 t2 l : Addr) (x1 x2 : Str) (y1 y2 : Bool) : Hp := upd (upd (upd H t1 (.tup [.str x1, .bl y1])) t2 (.tup [.str x2, .bl y2])) l (.lst [.ref t1, .ref t2])
theorem new2 {H : Hp} {t1 t2 l : Addr} {x1 x2 : Str} {y1 y2 : Bool} (n1 : H t1 = none) (n2 : (upd H t1 (.tup [.str x1, .bl y1])) t2 = none) (nl : (upd (upd H t1 (.tup [.str x1, .bl y1])) t2 (.tup [.str x2, .bl y2])) l = none) :
    Same H (two2 H t1 t2 l x1 x2 y1 y2) ∧ Paired (Pw (two2 H t1 t2 l x1 x2 y1 y2)) [t1, t2] [(x1, y1), (x2, y2)] ∧ (two2 H t1 t2 l x1 x2 y1 y2) l = some (.lst ([t1, t2].map V.ref)) :=
  ⟨((same_upd n1).trans (same_upd n2)).trans (same_upd nl), .cons ((same_upd nl) _ _ ((same_upd n2) _ _ upd_same)) (.cons ((same_upd nl) _ _ upd_same) .nil), upd_same⟩
theorem pairs_two {H : Hp} {t1 t2 l : Addr} {x1 x2 : Str} {y1 y2 : Bool} (n1 : H t1 = none) (n2 : (upd H t1 (.tup [.str x1, .bl y1])) t2 = none) (nl : (upd (upd H t1 (.tup [.str x1, .bl y1])) t2 (.tup [.str x2, .bl y2])) l = none) :
    PairsAt (two2 H t1 t2 l x1 x2 y1 y2) l [(x1, y1), (x2, y2)] := ⟨_, (new2 n1 n2 nl).2.2, (new2 n1 n2 nl).2.1⟩
/-- some = some + [(..), (..)] -/
theorem pairs_cat {H : Hp} {p t1 t2 l p' : Addr} {x1 x2 : Str} {y1 y2 : Bool} {ts : List Addr} {ws : List (Str × Bool)} (all : Paired (Pw H) ts ws) (n1 : H t1 = none) (n2 : (upd H t1 (.tup [.str x1, .bl y1])) t2 = none)
    (nl : (upd (upd H t1 (.tup [.str x1, .bl y1])) t2 (.tup [.str x2, .bl y2])) l = none) (np : (two2 H t1 t2 l x1 x2 y1 y2) p' = none) :
    Same H (upd (two2 H t1 t2 l x1 x2 y1 y2) p' (.lst (ts.map V.ref ++ [t1, t2].map V.ref))) ∧ PairsAt (upd (two2 H t1 t2 l x1 x2 y1 y2) p' (.lst (ts.map V.ref ++ [t1, t2].map V.ref))) p' (ws ++ [(x1, y1), (x2, y2)]) := by
  obtain ⟨s2, q2, _⟩ := new2 n1 n2 nl
  have s3 : Same (two2 H t1 t2 l x1 x2 y1 y2) (upd (two2 H t1 t2 l x1 x2 y1 y2) p' (.lst (ts.map V.ref ++ [t1, t2].map V.ref))) := same_upd np
  refine ⟨s2.trans s3, ts ++ [t1, t2], ?_, paired_app (paired_mono (pw_same (s2.trans s3)) all) (paired_mono (pw_same s3) q2)⟩
  rw [upd_same, List.map_append]
/-- some.append((..)) -/
theorem pairs_push {H : Hp} {p t1 : Addr} {x1 : Str} {y1 : Bool} {ts : List Addr} {ws : List (Str × Bool)} (at_p : H p = some (.lst (ts.map V.ref))) (all : Paired (Pw H) ts ws) (n1 : H t1 = none) :
    (∀ b o, H b = some o → b ≠ p → (upd (upd H t1 (.tup [.str x1, .bl y1])) p (.lst (ts.map V.ref ++ [V.ref t1]))) b = some o) ∧ PairsAt (upd (upd H t1 (.tup [.str x1, .bl y1])) p (.lst (ts.map V.ref ++ [V.ref t1]))) p (ws ++ [(x1, y1)]) := by
  have keep : ∀ b o, H b = some o → b ≠ p → (upd (upd H t1 (.tup [.str x1, .bl y1])) p (.lst (ts.map V.ref ++ [V.ref t1]))) b = some o := fun b o e n => by
    rw [upd_ne n]
    exact same_upd n1 _ _ e
  have ntp : t1 ≠ p := fun e => by
    rw [e, at_p] at n1
    cases n1
  refine ⟨keep, ts ++ [t1], ?_, paired_app (paired_mono (fun t w e => keep t _ e (ne_of e at_p (by intro z; cases z))) all) (.cons ?_ .nil)⟩
  · rw [upd_same, List.map_append]
    rfl
  · show (upd (upd H t1 (.tup [.str x1, .bl y1])) p (.lst (ts.map V.ref ++ [V.ref t1]))) t1 = _
    rw [upd_ne ntp, upd_same]
theorem ifF {c : Bool} {A B : Prop} (hc : c = false) (h : B) : if c = true then A else B := by
  rw [hc, if_neg Bool.false_ne_true]
  exact h
theorem ifT {c : Bool} {A B : Prop} (hc : c = true) (h : A) : if c = true then A else B := by
  rw [if_pos hc]
  exact h
theorem paired_get {α β : Type} {R : α → β → Prop} : ∀ {as : List α} {bs : List β}, Paired R as bs → ∀ (i : Nat) (a : α), as[i]? = some a → ∃ b, bs[i]? = some b ∧ R a b
  | _, _, .nil, i, a, h => by
    simp at h
  | _, _, .cons x t, 0, a, h => by
    have e := Option.some.inj h
    subst e
    exact ⟨_, rfl, x⟩
  | _, _, .cons x t, i + 1, a, h => paired_get t i a h
theorem kept_more {ws : List (Str × Bool)} {i : Nat} {w : Str × Bool} (h : ws[i]? = some w) :
    ((ws.take (i + 1)).filter (·.2)).map (·.1) = ((ws.take i).filter (·.2)).map (·.1) ++ (if w.2 = true then [w.1] else []) := by
  rw [List.take_succ, h, List.filter_append, List.map_append]
  obtain ⟨x, b⟩ := w
  cases b <;> rfl
end Lr

namespace Lr
open PySem PySem.Spec PyProof.Rows L2

def top (i : Nat) : Stmt := PySem.Challenge.pw_labelroads_k78_exceptions_of_the_second.main.body.getD i (.Pass ⟨0, 0, 0, 0⟩)
abbrev sMix : Stmt := top 14
abbrev sFol : Stmt := top 15
abbrev sDra : Stmt := top 16
abbrev sBeg : Stmt := top 17

/-- an int that a cell may hold -/
def Cell (i : Int) : Prop := 0 ≤ i ∧ i < 2147483647
/-- a list of ints at an address -/
def IntsAt (H : Hp) (a : Addr) (ns : List Int) : Prop := H a = some (.lst (ns.map V.int))

/-! the promises -/
def spMix : Sp := fun vs H Q _ => ∃ c n : Int, vs = [.int c, .int n] ∧ 0 ≤ n ∧ n < 1000000 ∧ ∀ r : Int, Q (.int r) H
def spFol (K : PySem.W.Frag) : Sp := fun vs H Q _ => ∃ (a : Addr) (ns : List Int), vs = [.ref a] ∧ SqL K H a (ns.map V.int) ∧ ns.length ≤ 63 ∧
  ∀ (H' : Hp) (p : Addr) (cs : List Int), Same H H' → H p = none → IntsAt H' p cs → cs.length = 64 → Q (.ref p) H'

structure Tx (mg : Str → Option Value) : Prop where
  int : mg "int" = none
  range : mg "range" = none
  enum : mg "enumerate" = none
  len : mg "len" = none

section
variable {P : Program} {w : World} {K : PySem.W.Frag} {mg : Str → Option Value} {base : Heap}

theorem scMix : FnScope ["cell", "n", "blend"] ["cell", "n"] (defScope sMix) := ⟨rfl, rfl, rfl, by decide +kernel, rfl, by decide +kernel, by decide +kernel⟩
theorem ok_mix {f : Addr} {fd : FuncData} (F : Fun K "_law_mixed" "_law_mixed" sMix f fd) (T : Tx mg) : FnOk P w K mg base CX0 1 f fd ["cell", "n"] spMix := by
  refine F.ok scMix (fun vs H Q E h => ?_) (fun cdv A outer s H vs Q E hr h => ?_)
  · obtain ⟨c, n, rfl, _⟩ := h
    rfl
  · obtain ⟨c, n, rfl, h0, h1, k⟩ := h
    refine ⟨_, pss_cons (ps_set (i := 2) scMix.nd rfl (.inl rfl) (pe_op op_add (pe_op op_add (pe_op op_mod (pe_callTy call_int1 (by rfl) T.int (by decide +kernel) (pa_cons
        (pe_op op_mul (pe_op op_mul (pv 0) (pe_op op_add pe_int (pe_op op_mul pe_int (pv 1)))) pe_int) pa_nil)) pe_int)
          (pe_op op_mul (pe_op op_mul pe_int (pv 1)) (pv 1))) (pe_op op_mul pe_int (pv 1))))
      (pss_one (ps_ret (pe_op op_fdiv (pe_op op_mod (pe_callTy call_int1 (by rfl) T.int (by decide +kernel) (pa_cons (pe_op op_mul (pv 2) pe_int) pa_nil)) pe_int) pe_int))), ?_⟩
    refine ⟨_, rfl, _, rfl, _, _, rfl, rfl, .inl ⟨by decide, by decide⟩, _, _, rfl, rfl, _, _, rfl, rfl, .inr ⟨by omega, by omega⟩, _, _, rfl, rfl, .inr ⟨by decide, by decide⟩, .inl ⟨_, rfl, ?_⟩⟩
    refine ⟨_, _, rfl, rfl, (by show (0 : Int) < 2147483647; decide), _, rfl, _, _, rfl, rfl, .inl ⟨by decide, by decide⟩, _, rfl, _, _, rfl, rfl, .inr ⟨by omega, by omega⟩, _, _, rfl, rfl, _, rfl, _, _, rfl, rfl, .inl ⟨by decide, by decide⟩, _, _, rfl, rfl, ?_⟩
    refine ⟨_, rfl, _, _, rfl, rfl, .inr ⟨by decide, by decide⟩, .inl ⟨_, rfl, _, _, rfl, rfl, (by show (0 : Int) < 2147483629; decide), _, _, rfl, rfl, ⟨by decide, by decide⟩, ?_⟩⟩
    exact k _
end
end Lr

namespace Lr
open PySem PySem.Spec PyProof.Rows L2

theorem ints_at {cs : List Int} {k : Int} (h0 : 0 ≤ k) (h1 : k < cs.length) : ∃ z : Int, atI (cs.map V.int) k = some (.int z) := by
  obtain ⟨n, rfl⟩ : ∃ n : Nat, k = (n : Int) := ⟨k.toNat, by omega⟩
  have hn : n < cs.length := by omega
  exact ⟨cs[n], atI_nat (by simp [List.getElem?_map, hn])⟩
theorem ints_ix {cs : List Int} {k : Int} (h0 : 0 ≤ k) (h1 : k < cs.length) : ixN (cs.map V.int).length k = some k.toNat := by
  unfold ixN
  rw [List.length_map, if_pos h0, if_pos h1]
theorem ints_set (cs : List Int) (j : Nat) (z : Int) : (cs.map V.int).set j (.int z) = (cs.set j z).map V.int := by
  rw [List.map_set]

theorem yes_of {σ : L2.St} {H : Hp} {A B : Hp → Prop} (h : A H) : tYes σ H fun b H3 => if b = true then A H3 else B H3 := by
  show if true = true then A H else B H
  exact iteT h
section
variable {P : Program} {w : World} {K : PySem.W.Frag} {mg : Str → Option Value} {base : Heap}
theorem scFol : FnScope ["script", "n", "found", "cell"] ["script"] (defScope sFol) := ⟨rfl, rfl, rfl, by decide +kernel, rfl, by decide +kernel, by decide +kernel⟩
theorem ok_fol {f : Addr} {fd : FuncData} (F : Fun K "_law_folded" "_law_folded" sFol f fd) (T : Tx mg) : FnOk P w K mg base CX0 1 f fd ["script"] (spFol K) := by
  refine F.ok scFol (fun vs H Q E h => ?_) (fun cdv A outer s H vs Q E hr h => ?_)
  · obtain ⟨a, ns, rfl, _⟩ := h
    rfl
  · obtain ⟨a, ns, rfl, hS, hlen, k⟩ := h
    refine ⟨_, pss_cons (ps_setLc (i := 2) (own := [("n", 1)]) (g := gName 1) (tt := tYes) rfl scFol.nd rfl rfl (sw_true rfl rfl rfl (by decide +kernel)) (pi_range1 (by rfl) T.range (pa_cons pe_int pa_nil))
        (blkOk_by (N := ["script", "n", "found", "cell"]) (sc := defScope sFol) (by decide +kernel)) (fun _ _ _ _ _ => pg_name (i := 1) scFol.nd rfl (.inl rfl)) (fun _ _ _ _ _ => pts_nil) (fun _ _ _ _ _ => pe_op op_add pe_int (pv 1)))
      (pss_cons (ps_for PassesOwn.never rfl (pi_enum (by rfl) T.enum (pa_cons (pv 0) pa_nil)) (pg_tup (by rfl) (pgs_cons (pg_name (i := 1) scFol.nd rfl (.inl rfl)) (pgs_cons (pg_name (i := 3) scFol.nd rfl (.inl rfl)) pgs_nil)))
        (pss_one (ps_asg (pe_op op_mod (pe_callTy call_int1 (by rfl) T.int (by decide +kernel) (pa_cons (pe_op op_add (pe_op op_mul (pe_ix ix_list (pv 2) (pe_op op_mod (pe_callTy call_int1 (by rfl) T.int (by decide +kernel) (pa_cons (pv 1) pa_nil)) pe_int) (fun _ _ => rfl)) pe_int) (pv 3)) pa_nil)) pe_int)
          (pg_sub (pv 2) (pe_op op_mod (pe_callTy call_int1 (by rfl) T.int (by decide +kernel) (pa_cons (pv 1) pa_nil)) pe_int) set_list))))
      (pss_cons (ps_for PassesOwn.never rfl (pi_range2 (by rfl) T.range (pa_cons pe_int (pa_cons pe_int pa_nil))) (pg_name (i := 1) scFol.nd rfl (.inl rfl))
        (pss_one (ps_asg (pe_op op_mod (pe_callTy call_int1 (by rfl) T.int (by decide +kernel) (pa_cons (pe_op op_add (pe_ix ix_list (pv 2) (pv 1) (fun _ _ => rfl)) (pe_op op_mul (pe_ix ix_list (pv 2) (pe_op op_sub (pv 1) pe_int) (fun _ _ => rfl)) pe_int)) pa_nil)) pe_int)
          (pg_sub (pv 2) (pv 1) set_list))))
      (pss_one (ps_ret (pv 2))))), ?_⟩
    -- found = [17 + n for n in range(64)]
    refine ⟨64, rfl, by decide, by decide, fun D hD => lc_range (lo := 0) (n := 64) (fun i H' => ∃ cs : List Int, cs.length = i ∧ IntsAt H' D cs ∧ Same H H') ⟨[], rfl, upd_same, fun b o e => by rw [upd_ne (ne_of_none e hD)]; exact e⟩ ?_ ?_⟩
    · rintro i H' hi ⟨cs, hl, hc, sm⟩
      refine ⟨rfl, yes_of ?_⟩
      refine ⟨_, rfl, _, _, rfl, rfl, _, hc, (by rw [List.length_map, hl, sizeLine_eq]; omega), cs ++ [17 + (0 + (i : Int))], by simp [hl], ?_, fun b o e => by rw [upd_ne (ne_of_none e hD)]; exact sm b o e⟩
      unfold IntsAt
      rw [upd_same, List.map_append]
      rfl
    rintro H1 ⟨cs1, hl1, hc1, sm1⟩
    -- for n, cell in enumerate(script)
    refine ⟨_, rfl, a, _, rfl, sm1.seq hS, for_it walk_enum (fun i σ H' => ∃ (cs : List Int) (u v : Option V), σ = [some (.ref a), u, some (.ref D), v] ∧ cs.length = 64 ∧ IntsAt H' D cs ∧ Same H H')
      ⟨cs1, _, _, rfl, hl1, hc1, sm1⟩ (fun i σ H' _ ⟨_, _, _, _, _, _, s2⟩ => s2.seq hS) ?_ ?_⟩
    · rintro i x σ H' H2 hi ⟨cs, u, v, rfl, hl, hc, sm⟩ ⟨t, x1, x2, rfl, nt, rfl, e1, e2⟩
      obtain ⟨z, rfl⟩ : ∃ z, x2 = V.int z := by
        have e3 : (ns.map V.int)[i]? = some x2 := e2
        rw [List.getElem?_map] at e3
        cases e : ns[i]? with
        | none =>
          rw [e] at e3
          cases e3
        | some z =>
          rw [e] at e3
          exact ⟨z, (Option.some.inj e3).symm⟩
      cases e1
      have nDt : D ≠ t := ne_of_none hc nt
      have hc' : (upd H' t (.tup [.int (i : Nat), .int z])) D = some (.lst (cs.map V.int)) := by rw [upd_ne nDt]; exact hc
      have b0 : 0 ≤ ((i : Nat) : Int) % 64 := by omega
      have b1 : ((i : Nat) : Int) % 64 < (cs.length : Int) := by rw [hl]; omega
      obtain ⟨y, hy⟩ := ints_at b0 b1
      refine ⟨t, _, rfl, SqT.of upd_same, rfl, _, _, rfl, _, _, rfl, rfl, ?_⟩
      refine ⟨_, rfl, _, rfl, .inl ⟨_, rfl, _, _, rfl, rfl, (by show (0 : Int) < 64; decide), D, _, _, _, rfl, rfl, SqL.of hc', hy, ?_⟩⟩
      refine ⟨_, _, rfl, rfl, .inr ⟨by decide, by decide⟩, _, rfl, _, _, rfl, rfl, .inl ⟨_, rfl, _, _, rfl, rfl, (by show (0 : Int) < 2147483647; decide), ?_⟩⟩
      refine ⟨_, rfl, _, rfl, .inl ⟨_, rfl, _, _, rfl, rfl, (by show (0 : Int) < 64; decide), D, _, _, _, rfl, rfl, hc', ints_ix b0 b1, ?_⟩⟩
      refine ⟨cs.set (((i : Nat) : Int) % 64).toNat ((y * 48271 + z) % 2147483647), _, _, rfl, by rw [List.length_set]; exact hl, ?_, fun b o e => ?_⟩
      · unfold IntsAt
        rw [upd_same, ints_set]
      · have n1 : b ≠ D := ne_of_none e hD
        have n2 : b ≠ t := ne_of_none (sm b o e) nt
        rw [upd_ne n1, upd_ne n2]
        exact sm b o e
    rintro σ H2 ⟨cs2, u2, v2, rfl, hl2, hc2, sm2⟩
    -- for n in range(1, 64)
    refine ⟨_, _, rfl, ⟨by decide, by decide, by decide, by decide⟩, for_range (lo := 1) (n := 63) (fun i σ H' => ∃ (cs : List Int) (u v : Option V), σ = [some (.ref a), u, some (.ref D), v] ∧ cs.length = 64 ∧ IntsAt H' D cs ∧ Same H H')
      ⟨cs2, _, _, rfl, hl2, hc2, sm2⟩ ?_ ?_⟩
    · rintro i σ H' hi ⟨cs, u, v, rfl, hl, hc, sm⟩
      have b0 : 0 ≤ 1 + ((i : Nat) : Int) := by omega
      have b1 : 1 + ((i : Nat) : Int) < (cs.length : Int) := by rw [hl]; omega
      have b2 : 0 ≤ 1 + ((i : Nat) : Int) - 1 := by omega
      have b3 : 1 + ((i : Nat) : Int) - 1 < (cs.length : Int) := by rw [hl]; omega
      obtain ⟨y, hy⟩ := ints_at b0 b1
      obtain ⟨z, hz⟩ := ints_at b2 b3
      refine ⟨_, rfl, _, rfl, D, _, _, _, rfl, rfl, SqL.of hc, hy, _, rfl, _, rfl, _, _, rfl, rfl, D, _, _, _, rfl, rfl, SqL.of hc, hz, ?_⟩
      refine ⟨_, _, rfl, rfl, .inr ⟨by decide, by decide⟩, _, _, rfl, rfl, .inl ⟨_, rfl, _, _, rfl, rfl, (by show (0 : Int) < 2147483647; decide), ?_⟩⟩
      refine ⟨_, rfl, _, rfl, D, _, _, _, rfl, rfl, hc, ints_ix b0 b1, ?_⟩
      refine ⟨cs.set (1 + ((i : Nat) : Int)).toNat ((y + z * 16807) % 2147483647), _, _, rfl, by rw [List.length_set]; exact hl, ?_, fun b o e => ?_⟩
      · unfold IntsAt
        rw [upd_same, ints_set]
      · rw [upd_ne (ne_of_none e hD)]
        exact sm b o e
    rintro σ H3 ⟨cs3, u3, v3, rfl, hl3, hc3, sm3⟩
    exact ⟨_, rfl, k H3 D cs3 sm3 hD hc3 hl3⟩
end
end Lr

namespace Lr
open PySem PySem.Spec PyProof.Rows L2

/-- the pairs of the state m -/
def kvM (c g : Addr) (n : Int) : List (Key × V) := [(.inr "cells", .ref c), (.inr "great", .ref g), (.inr "spot", .int n)]
theorem kv_spot (c g : Addr) (n : Int) : valV (kvM c g n) (.inr "spot") = some (.int n) := by rfl
theorem kv_great (c g : Addr) (n : Int) : valV (kvM c g n) (.inr "great") = some (.ref g) := by rfl
theorem kv_cells (c g : Addr) (n : Int) : valV (kvM c g n) (.inr "cells") = some (.ref c) := by rfl
theorem kv_put (c g : Addr) (n z : Int) : putK (kvM c g n) (.inr "spot") (.int z) = kvM c g z := by rfl
theorem kv_putG (c g u : Addr) (n : Int) : putK (kvM c g n) (.inr "great") (.ref u) = kvM c u n := by rfl

/-- the state from which all numbers are drawn: the dict at m, its cells at c, its great ones at g; n were drawn -/
structure Ms (H : Hp) (m c g : Addr) (n : Nat) : Prop where
  hd : H m = some (.dK (kvM c g n))
  hc : ∃ cs : List Int, cs.length = 64 ∧ IntsAt H c cs
  hg : ∃ gs : List Int, gs.length ≤ 63 ∧ IntsAt H g gs
  cg : c ≠ g

def spDra : Sp := fun vs H Q _ => ∃ (m c g : Addr) (n : Nat) (lim : Int), vs = [.ref m, .int lim] ∧ 0 < lim ∧ lim < 1000000 ∧ n < 100000 ∧ Ms H m c g n ∧
  ∀ (r : Int) (H' : Hp), 0 ≤ r → r < lim → Ms H' m c g (n + 1) → (∀ b o, H b = some o → b ≠ m → b ≠ g → H' b = some o) → Q (.int r) H'

theorem dp_ints {K : PySem.W.Frag} {H : Hp} : ∀ ns : List Int, DpAll K H (ns.map V.int) (ns.map PyData.int)
  | [] => .nil
  | n :: r => .cons (.int n) (dp_ints r)
theorem lay_ints : ∀ ns : List Int, PyData.canLayAll0 (ns.map PyData.int) = true
  | [] => rfl
  | n :: r => by
    show (PyData.canLay0 (.int n) && PyData.canLayAll0 (r.map PyData.int)) = true
    rw [lay_ints r]
    rfl
theorem depth_ints : ∀ ns : List Int, PyData.depthAll (ns.map PyData.int) ≤ 1
  | [] => by decide
  | n :: r => by
    show max (PyData.depth (.int n)) (PyData.depthAll (r.map PyData.int)) ≤ 1
    have := depth_ints r
    have e : PyData.depth (.int n) = 0 ∨ PyData.depth (.int n) = 1 := by first | exact .inl rfl | exact .inr rfl
    omega
theorem shaped_ints (ns : List Int) : SeqAt.shaped (.list (ns.map PyData.int)) = true := by
  unfold SeqAt.shaped
  rw [Bool.and_eq_true, decide_eq_true_eq]
  refine ⟨lay_ints ns, ?_⟩
  show PyData.depthAll (ns.map PyData.int) + 1 ≤ 64
  have := depth_ints ns
  omega

structure TxD (K : PySem.W.Frag) (mg : Str → Option Value) (fM : Addr) : Prop extends Tx mg where
  gM : mg "_law_mixed" = some (.ref fM)
  kM : PySem.W.keepIn K (.ref fM) = true

section
variable {P : Program} {w : World} {K : PySem.W.Frag} {mg : Str → Option Value} {base : Heap}
theorem scDra : FnScope ["m", "limit", "n", "lot", "here", "cell"] ["m", "limit"] (defScope sDra) := ⟨rfl, rfl, rfl, by decide +kernel, rfl, by decide +kernel, by decide +kernel⟩
theorem ok_dra {f fM : Addr} {fd fdM : FuncData} (F : Fun K "_law_draw" "_law_draw" sDra f fd) (T : TxD K mg fM) (FM : Fun K "_law_mixed" "_law_mixed" sMix fM fdM) (bM : Binds K fdM ["cell", "n"] []) :
    FnOk P w K mg base CX0 2 f fd ["m", "limit"] spDra := by
  have GM : FnOk P w K mg base CX0 1 fM fdM ["cell", "n"] spMix := ok_mix FM T.toTx
  refine F.ok scDra (fun vs H Q E h => ?_) (fun cdv A outer s H vs Q E hr h => ?_)
  · obtain ⟨m, c, g, n, lim, rfl, _⟩ := h
    rfl
  · obtain ⟨m, c, g, n, lim, rfl, l0, l1, hn, M, k⟩ := h
    obtain ⟨hd, ⟨cs, hcl, hc⟩, ⟨gs, hgl, hg⟩, ncg⟩ := id M
    have hu := hu_of hr
    have hu64 := hr.units
    have hr1 : Room 1 _ := hr
    refine ⟨_, pss_cons (ps_set (i := 2) scDra.nd rfl (.inl rfl) (pe_dget hu (pv 0) pe_str (fun _ _ => rfl)))
      (pss_cons (ps_dput hu (pv 0) pe_str (pe_op op_add (pv 2) pe_int) rfl)
      (pss_cons (ps_if (pt_cmpR (op_neD hu64) (pe_dget hu (pv 0) pe_str (fun _ _ => rfl)) (pe_lst pa_nil) (nomark _))
        (pss_cons (ps_set (i := 3) scDra.nd rfl (.inl rfl) (pe_dget hu (pv 0) pe_str (fun _ _ => rfl)))
        (pss_cons (ps_set (i := 4) scDra.nd rfl (.inl rfl) (pe_op op_mod (pe_callTy call_int1 (by rfl) T.int (by decide +kernel) (pa_cons (pv 2) pa_nil)) (pe_callB call_len_seq (by rfl) T.len PySem.boot_len (pa_cons (pv 3) pa_nil))))
        (pss_cons (ps_set (i := 5) scDra.nd rfl (.inl rfl) (pe_ix ix_list (pv 3) (pv 4) (fun _ _ => rfl)))
        (pss_one (ps_if (pt_cmpR op_gt (pv 5) pe_int (nomark _))
          (pss_cons (ps_asg (pe_op op_fdiv (pv 5) (pv 1)) (pg_sub (pv 3) (pv 4) set_list))
          (pss_one (ps_ret (pe_op op_mod (pe_callTy call_int1 (by rfl) T.int (by decide +kernel) (pa_cons (pv 5) pa_nil)) (pv 1))))) pss_nil)))))
        pss_nil)
      (pss_cons (ps_set (i := 3) scDra.nd rfl (.inl rfl) (pe_dget hu (pv 0) pe_str (fun _ _ => rfl)))
      (pss_one (ps_ret (pe_op op_mod (pe_callTy call_int1 (by rfl) T.int (by decide +kernel) (pa_cons
        (pe_call GM hr1 (by rfl) T.gM T.kM bM .nil pass0 (pa_cons
          (pe_call GM hr1 (by rfl) T.gM T.kM bM .nil pass0 (pa_cons (pe_op op_add (pe_ix ix_list (pv 3) (pe_op op_mod (pe_callTy call_int1 (by rfl) T.int (by decide +kernel) (pa_cons (pv 2) pa_nil)) pe_int) (fun _ _ => rfl)) (pe_op op_mul pe_int (pe_op op_fdiv (pv 2) pe_int))) (pa_cons (pv 2) pa_nil)))
          (pa_cons (pe_op op_add (pv 2) pe_int) pa_nil))) pa_nil)) (pv 1))))))), ?_⟩
    have nmc : m ≠ c := ne_of hd hc (by intro z; cases z)
    have nmg : m ≠ g := ne_of hd hg (by intro z; cases z)
    have gS : ∀ {H' : Hp} {n : Int}, H' m = some (.dK (kvM c g n)) → DGet H' m (.str "spot") (some (.int n)) := fun {H' n} e => by
      rw [← kv_spot c g n]
      exact DGet.k (k := .inr "spot") e
    have gG : ∀ {H' : Hp} {n : Int}, H' m = some (.dK (kvM c g n)) → DGet H' m (.str "great") (some (.ref g)) := fun {H' n} e => by
      rw [← kv_great c g n]
      exact DGet.k (k := .inr "great") e
    have gC : ∀ {H' : Hp} {n : Int}, H' m = some (.dK (kvM c g n)) → DGet H' m (.str "cells") (some (.ref c)) := fun {H' n} e => by
      rw [← kv_cells c g n]
      exact DGet.k (k := .inr "cells") e
    -- n = m['spot']; m['spot'] = n + 1
    refine ⟨_, rfl, m, _, rfl, gS hd, ?_⟩
    refine ⟨_, rfl, _, _, rfl, rfl, _, rfl, m, _, rfl, DPut.k (k := .inr "spot") hd (by show 3 < sizeLine; rw [sizeLine_eq]; decide), ?_⟩
    rw [kv_put]
    have e1 : (upd H m (.dK (kvM c g ((n : Int) + 1)))) m = some (.dK (kvM c g ((n : Int) + 1))) := upd_same
    have c1 : (upd H m (.dK (kvM c g ((n : Int) + 1)))) c = some (.lst (cs.map V.int)) := by rw [upd_ne nmc.symm]; exact hc
    have g1 : (upd H m (.dK (kvM c g ((n : Int) + 1)))) g = some (.lst (gs.map V.int)) := by rw [upd_ne nmg.symm]; exact hg
    have s1 : ∀ b o, H b = some o → b ≠ m → b ≠ g → (upd H m (.dK (kvM c g ((n : Int) + 1)))) b = some o := fun b o e q _ => by rw [upd_ne q]; exact e
    revert e1 c1 g1 s1
    generalize upd H m (.dK (kvM c g ((n : Int) + 1))) = H1
    intro e1 c1 g1 s1
    -- if m['great'] != []
    refine ⟨_, rfl, m, _, rfl, gG e1, (by show 0 ≤ sizeLine; exact Nat.zero_le _), fun p hp => ?_⟩
    have e2 : (upd H1 p (.lst [])) m = some (.dK (kvM c g ((n : Int) + 1))) := by rw [upd_ne (ne_of_none e1 hp)]; exact e1
    have c2 : (upd H1 p (.lst [])) c = some (.lst (cs.map V.int)) := by rw [upd_ne (ne_of_none c1 hp)]; exact c1
    have g2 : (upd H1 p (.lst [])) g = some (.lst (gs.map V.int)) := by rw [upd_ne (ne_of_none g1 hp)]; exact g1
    have p2 : (upd H1 p (.lst [])) p = some (.lst []) := upd_same
    have s2 : ∀ b o, H b = some o → b ≠ m → b ≠ g → (upd H1 p (.lst [])) b = some o := fun b o e q1 q2 => by
      rw [upd_ne (ne_of_none (s1 b o e q1 q2) hp)]
      exact s1 b o e q1 q2
    revert e2 c2 g2 p2 s2
    generalize upd H1 p (.lst []) = H2
    intro e2 c2 g2 p2 s2
    have M2 : Ms H2 m c g (n + 1) := ⟨e2, ⟨cs, hcl, c2⟩, ⟨gs, hgl, g2⟩, ncg⟩
    refine ⟨.list (gs.map PyData.int), .list [], .lst (SqL.of g2) (dp_ints gs), .lst (SqL.of p2) .nil, shaped_ints gs, by decide +kernel, _, rfl, ?_⟩
    cases gs with
    | nil =>
      refine iteF ?_
      have b0 : 0 ≤ ((n : Nat) : Int) % 64 := by omega
      have b1 : ((n : Nat) : Int) % 64 < (cs.length : Int) := by rw [hcl]; omega
      obtain ⟨y, hy⟩ := ints_at b0 b1
      refine ⟨_, rfl, m, _, rfl, gC e2, ?_⟩
      refine ⟨_, rfl, _, rfl, .inl ⟨_, rfl, _, _, rfl, rfl, (by show (0 : Int) < 64; decide), c, _, _, _, rfl, rfl, SqL.of c2, hy, ?_⟩⟩
      refine ⟨_, rfl, _, _, rfl, rfl, ⟨by decide, by decide⟩, _, _, rfl, rfl, .inl ⟨by decide, by decide⟩, _, _, rfl, rfl, _, rfl, ?_⟩
      refine ⟨_, _, rfl, by omega, by omega, fun r1 => ?_⟩
      refine ⟨_, rfl, _, _, rfl, rfl, _, _, rfl, by omega, by omega, fun r2 => .inl ⟨_, rfl, _, rfl, _, _, rfl, rfl, l0, ?_⟩⟩
      exact k _ H2 (Int.emod_nonneg _ (by omega)) (Int.emod_lt_of_pos _ l0) M2 s2
    | cons z0 gs' =>
      refine iteT ?_
      -- lot = m['great']; here = int(n) % len(lot); cell = lot[here]
      have d0 : (0 : Int) < (((z0 :: gs').map V.int).length : Int) := by rw [List.length_map, List.length_cons]; omega
      have d1 : 0 ≤ ((n : Nat) : Int) % (((z0 :: gs').map V.int).length : Int) := Int.emod_nonneg _ (by omega)
      have d2 : ((n : Nat) : Int) % (((z0 :: gs').map V.int).length : Int) < (((z0 :: gs').length : Nat) : Int) := by
        have q := Int.emod_lt_of_pos ((n : Nat) : Int) d0
        rw [List.length_map] at q ⊢
        exact q
      obtain ⟨x, hx⟩ := ints_at d1 d2
      refine ⟨_, rfl, m, _, rfl, gG e2, ?_⟩
      refine ⟨_, rfl, .inl ⟨_, rfl, _, rfl, g, _, rfl, .inl (SqL.of g2), _, _, rfl, rfl, d0, ?_⟩⟩
      refine ⟨_, rfl, _, rfl, g, _, _, _, rfl, rfl, SqL.of g2, hx, ?_⟩
      refine ⟨_, rfl, _, _, rfl, rfl, _, rfl, ?_⟩
      refine ite2 (fun _ => ?_) (fun _ => ?_)
      · refine ⟨_, rfl, _, rfl, _, _, rfl, rfl, ⟨l0, by omega⟩, ?_⟩
        refine ⟨_, rfl, _, rfl, g, _, _, _, rfl, rfl, g2, ints_ix d1 d2, ?_⟩
        refine ⟨_, rfl, .inl ⟨_, rfl, _, rfl, _, _, rfl, rfl, l0, ?_⟩⟩
        refine k _ _ (Int.emod_nonneg _ (by omega)) (Int.emod_lt_of_pos _ l0) ⟨?_, ⟨cs, hcl, ?_⟩, ⟨(z0 :: gs').set (((n : Nat) : Int) % (((z0 :: gs').map V.int).length : Int)).toNat (x / lim), by rw [List.length_set]; exact hgl, ?_⟩, ncg⟩ fun b o e q1 q2 => ?_
        · rw [upd_ne nmg]
          exact e2
        · unfold IntsAt
          rw [upd_ne ncg]
          exact c2
        · unfold IntsAt
          rw [upd_same, ints_set]
        · rw [upd_ne q2]
          exact s2 b o e q1 q2
      · skip
        have b0 : 0 ≤ ((n : Nat) : Int) % 64 := by omega
        have b1 : ((n : Nat) : Int) % 64 < (cs.length : Int) := by rw [hcl]; omega
        obtain ⟨y, hy⟩ := ints_at b0 b1
        refine ⟨_, rfl, m, _, rfl, gC e2, ?_⟩
        refine ⟨_, rfl, _, rfl, .inl ⟨_, rfl, _, _, rfl, rfl, (by show (0 : Int) < 64; decide), c, _, _, _, rfl, rfl, SqL.of c2, hy, ?_⟩⟩
        refine ⟨_, rfl, _, _, rfl, rfl, ⟨by decide, by decide⟩, _, _, rfl, rfl, .inl ⟨by decide, by decide⟩, _, _, rfl, rfl, _, rfl, ?_⟩
        refine ⟨_, _, rfl, by omega, by omega, fun r1 => ?_⟩
        refine ⟨_, rfl, _, _, rfl, rfl, _, _, rfl, by omega, by omega, fun r2 => .inl ⟨_, rfl, _, rfl, _, _, rfl, rfl, l0, ?_⟩⟩
        exact k _ H2 (Int.emod_nonneg _ (by omega)) (Int.emod_lt_of_pos _ l0) M2 s2
end
end Lr

namespace Lr
open PySem PySem.Spec PyProof.Rows L2

def spBeg (K : PySem.W.Frag) : Sp := fun vs H Q _ => ∃ (a : Addr) (ns : List Int), vs = [.ref a] ∧ SqL K H a (ns.map V.int) ∧ ns.length ≤ 63 ∧
  ∀ (H' : Hp) (m c g : Addr), Same H H' → H m = none → H c = none → H g = none → Ms H' m c g 0 → Q (.ref m) H'

section
variable {P : Program} {w : World} {K : PySem.W.Frag} {mg : Str → Option Value} {base : Heap}
theorem scBeg : FnScope ["script", "m", "cell"] ["script"] (defScope sBeg) := ⟨rfl, rfl, rfl, by decide +kernel, rfl, by decide +kernel, by decide +kernel⟩
theorem ok_beg {f fL : Addr} {fd fdL : FuncData} (F : Fun K "_law_begun" "_law_begun" sBeg f fd) (T : Tx mg) (gL : mg "_law_folded" = some (.ref fL)) (kL : PySem.W.keepIn K (.ref fL) = true)
    (FL : Fun K "_law_folded" "_law_folded" sFol fL fdL) (bL : Binds K fdL ["script"] []) : FnOk P w K mg base CX0 2 f fd ["script"] (spBeg K) := by
  have GL : FnOk P w K mg base CX0 1 fL fdL ["script"] (spFol K) := ok_fol FL T
  refine F.ok scBeg (fun vs H Q E h => ?_) (fun cdv A outer s H vs Q E hr h => ?_)
  · obtain ⟨a, ns, rfl, _⟩ := h
    rfl
  · obtain ⟨a, ns, rfl, hS, hlen, k⟩ := h
    have hu := hu_of hr
    have hr1 : Room 1 _ := hr
    refine ⟨_, pss_cons (ps_set (i := 1) scBeg.nd rfl (.inl rfl) (pe_disp (pps_cons pe_str (pe_call GL hr1 (by rfl) gL kL bL .nil pass0 (pa_cons (pv 0) pa_nil)) (pps_cons pe_str (pe_lst pa_nil) (pps_cons pe_str pe_int pps_nil))) rfl rfl (by simp) (by decide)))
      (pss_cons (ps_dput hu (pv 1) pe_str (pe_lc (own := [("cell", 2)]) (g := gName 2) (tt := tYes) rfl scBeg.nd (pi_list (pv 0)) (blkOk_by (N := ["script", "m", "cell"]) (sc := defScope sBeg) (by decide +kernel))
        (fun _ _ _ _ _ => pg_name (i := 2) scBeg.nd rfl (.inl rfl)) (fun _ _ _ _ _ => pts_nil) (fun _ _ _ _ _ => pe_ifExp (pt_cmpR op_ge (pv 2) (pe_op op_pow pe_int pe_int) (nomark _)) (pv 2) pe_int)) rfl)
      (pss_one (ps_ret (pv 1)))), ?_⟩
    -- m = {'cells': _law_folded(script), 'great': [], 'spot': 0}
    refine fun m nm => ⟨_, rfl, a, ns, rfl, ?_, hlen, fun H1 c cs sm nc hc hcl => ⟨(by show 0 ≤ sizeLine; exact Nat.zero_le _), fun g ng => ?_⟩⟩
    · exact Same.seq (fun b o e => by rw [upd_ne (ne_of_none e nm)]; exact e) hS
    have m1 : H1 m = some (.dK []) := sm m _ upd_same
    have ncm : c ≠ m := fun e => by
      rw [e, upd_same] at nc
      cases nc
    have nc0 : H c = none := by rw [upd_ne ncm] at nc; exact nc
    have s1 : Same H H1 := fun b o e => sm b o (by rw [upd_ne (ne_of_none e nm)]; exact e)
    have ngm : g ≠ m := fun e => by
      rw [e, m1] at ng
      cases ng
    have ncg : c ≠ g := ne_of_none hc ng
    refine ⟨by rw [upd_ne ngm.symm]; exact m1, [(.inr "cells", .ref c), (.inr "great", .ref g), (.inr "spot", .int 0)], rfl, (by show 3 ≤ 15; decide), ?_⟩
    have e0 : mergeK [] [((.inr "cells" : Key), V.ref c), (.inr "great", .ref g), (.inr "spot", .int 0)] = kvM c g 0 := by rfl
    rw [e0]
    -- m['great'] = [cell if cell >= 10 ** 18 else 0 for cell in script]
    have sm2 : ∀ o, Same H (upd (upd H1 g (.lst [])) m o) := fun o b q e => by
      rw [upd_ne (ne_of_none e nm), upd_ne (ne_of_none (s1 b q e) ng)]
      exact s1 b q e
    have c2 : ∀ o, (upd (upd H1 g (.lst [])) m o) c = some (.lst (cs.map V.int)) := fun o => by
      rw [upd_ne ncm, upd_ne ncg]
      exact hc
    have m2 : (upd (upd H1 g (.lst [])) m (.dK (kvM c g 0))) m = some (.dK (kvM c g 0)) := upd_same
    have s2 := sm2 (.dK (kvM c g 0))
    have cc2 := c2 (.dK (kvM c g 0))
    revert m2 s2 cc2
    generalize upd (upd H1 g (.lst [])) m (.dK (kvM c g 0)) = H2
    intro m2 s2 cc2
    refine ⟨_, rfl, a, rfl, ⟨_, s2.seq hS⟩, fun D nD => ?_⟩
    refine lc_list (K := K) (a := a) (xs := ns.map V.int) (fun i H' => ∃ gs : List Int, gs.length = i ∧ IntsAt H' D gs ∧ Same H2 H') ⟨[], rfl, upd_same, fun b o e => by rw [upd_ne (ne_of_none e nD)]; exact e⟩
      (fun i H' _ ⟨_, _, _, s3⟩ => s3.seq (s2.seq hS)) ?_ ?_
    · rintro i x H' hi ⟨gs, hl, hg, s3⟩
      obtain ⟨z, rfl⟩ : ∃ z, x = V.int z := by
        rw [List.getElem?_map] at hi
        cases e : ns[i]? with
        | none =>
          rw [e] at hi
          cases hi
        | some z =>
          rw [e] at hi
          exact ⟨z, (Option.some.inj hi).symm⟩
      have hil : i < ns.length := by
        have q := (List.getElem?_eq_some_iff.mp hi).1
        rw [List.length_map] at q
        exact q
      have fin : ∀ y : Int, ∃ acc, H' D = some (.lst acc) ∧ acc.length < sizeLine ∧ ∃ gs : List Int, gs.length = i + 1 ∧ IntsAt (upd H' D (.lst (acc ++ [V.int y]))) D gs ∧ Same H2 (upd H' D (.lst (acc ++ [V.int y]))) := fun y => by
        refine ⟨_, hg, by rw [List.length_map, hl, sizeLine_eq]; omega, gs ++ [y], by simp [hl], ?_, fun b o e => by rw [upd_ne (ne_of_none e nD)]; exact s3 b o e⟩
        unfold IntsAt
        rw [upd_same, List.map_append]
        rfl
      refine ⟨rfl, yes_of ?_⟩
      refine ⟨_, rfl, _, _, rfl, rfl, ⟨by decide, by decide, by decide⟩, _, _, rfl, rfl, _, rfl, ?_⟩
      refine ite2 (fun _ => ?_) (fun _ => ?_)
      · exact ⟨_, rfl, fin _⟩
      · exact fin _
    rintro H3 ⟨gs, hgl, hg3, s3⟩
    rw [List.length_map] at hgl
    refine ⟨_, rfl, m, _, rfl, DPut.k (k := .inr "great") (s3 _ _ m2) (by show 3 < sizeLine; rw [sizeLine_eq]; decide), ?_⟩
    rw [kv_putG]
    have nDm : m ≠ D := ne_of_none m2 nD
    have nDc : c ≠ D := ne_of_none cc2 nD
    refine ⟨_, rfl, k _ m c D (fun b o e => ?_) nm nc0 (s2.free nD) ⟨upd_same, ⟨cs, hcl, ?_⟩, ⟨gs, by omega, ?_⟩, nDc⟩⟩
    · rw [upd_ne (ne_of_none e nm)]
      exact s3 b o (s2 b o e)
    · unfold IntsAt
      rw [upd_ne ncm]
      exact s3 _ _ cc2
    · unfold IntsAt
      rw [upd_ne nDm.symm]
      exact hg3
end
end Lr

namespace Lr
open PySem PySem.Spec PyProof.Rows L2
abbrev sCls : Stmt := top 18
/-- the classes of the text, in the order in which they are asked -/
structure Kl (mg : Str → Option Value) (c0 c1 c2 c3 c4 c5 c6 c7 c8 c9 c10 : Addr) : Prop where
  isi : mg "isinstance" = none
  len : mg "len" = none
  g0 : mg "BadNet" = some (.ref c0)
  g1 : mg "BadNumber" = some (.ref c1)
  g2 : mg "BadRoad" = some (.ref c2)
  g3 : mg "BadFailed" = some (.ref c3)
  g4 : mg "BadParcel" = some (.ref c4)
  g5 : mg "BadShape" = some (.ref c5)
  g6 : mg "BadGoal" = some (.ref c6)
  g7 : mg "BadPaper" = some (.ref c7)
  g8 : mg "OtherNet" = some (.ref c8)
  g9 : mg "BadEntries" = some (.ref c9)
  g10 : mg "TooGreat" = some (.ref c10)
def spCls (c8 c9 : Addr) : Sp := fun vs H Q _ => ∃ a, vs = [.ref a] ∧
  ((ExAt H a c8 [] ∧ ∀ p H', Same H H' → H p = none → H' p = some (.tup [.str "nets"]) → Q (.ref p) H') ∨
    ∃ q : V, ExAt H a c9 [("place", q)] ∧ ∀ p H', Same H H' → H p = none → H' p = some (.tup [.str "entries", q]) → Q (.ref p) H')
section
variable {P : Program} {w : World} {K : PySem.W.Frag} {mg : Str → Option Value} {base : Heap}
theorem scCls : FnScope ["error", "some", "words", "word", "holds"] ["error"] (defScope sCls) := ⟨rfl, rfl, rfl, by decide +kernel, rfl, by decide +kernel, by decide +kernel⟩
theorem ok_cls {f c0 c1 c2 c3 c4 c5 c6 c7 c8 c9 c10 : Addr} {fd : FuncData} (F : Fun K "_law_class" "_law_class" sCls f fd) (T : Kl mg c0 c1 c2 c3 c4 c5 c6 c7 c8 c9 c10)
    (X8 : XT K "ValueError" "ValueError.__new__" "ValueError.__init__" PySem.HandSPX.veTail c8) (X9 : XT K "ValueError" "ValueError.__new__" "ValueError.__init__" PySem.HandSPX.veTail c9) (free9 : PySem.W.findIn K (.ref c9) "place" = some none)
    (k8 : Kits K c8 [c0, c1, c2, c3, c4, c5, c6, c7, c8, c9, c10] [false, false, false, false, false, false, false, false, true, false, false]) (k9 : Kits K c9 [c0, c1, c2, c3, c4, c5, c6, c7, c8, c9, c10] [false, false, false, false, false, false, false, false, false, true, false]) :
    FnOk P w K mg base CX0 1 f fd ["error"] (spCls c8 c9) := by
  refine F.ok scCls (fun vs H Q E h => ?_) (fun cdv A outer s H vs Q E hr h => ?_)
  · obtain ⟨a, rfl, _⟩ := h
    rfl
  · obtain ⟨a, rfl, h⟩ := h
    refine ⟨_, pss_cons (ps_set (i := 1) scCls.nd rfl (.inl rfl) (pe_lst (pa_cons (pe_tup (pa_cons pe_str (pa_cons (pe_callB call_isX (by rfl) T.isi (by decide +kernel) (pa_cons (pv 0) (pa_cons (pe_glob (v := V.ref c0) (by rfl) T.g0 rfl) pa_nil))) pa_nil))) (pa_cons (pe_tup (pa_cons pe_str (pa_cons (pe_callB call_isX (by rfl) T.isi (by decide +kernel) (pa_cons (pv 0) (pa_cons (pe_glob (v := V.ref c1) (by rfl) T.g1 rfl) pa_nil))) pa_nil))) pa_nil))))
      (pss_cons (ps_set (i := 1) scCls.nd rfl (.inl rfl) (pe_op op_cat (pv 1) (pe_lst (pa_cons (pe_tup (pa_cons pe_str (pa_cons (pe_callB call_isX (by rfl) T.isi (by decide +kernel) (pa_cons (pv 0) (pa_cons (pe_glob (v := V.ref c2) (by rfl) T.g2 rfl) pa_nil))) pa_nil))) (pa_cons (pe_tup (pa_cons pe_str (pa_cons (pe_callB call_isX (by rfl) T.isi (by decide +kernel) (pa_cons (pv 0) (pa_cons (pe_glob (v := V.ref c3) (by rfl) T.g3 rfl) pa_nil))) pa_nil))) pa_nil)))))
      (pss_cons (ps_set (i := 1) scCls.nd rfl (.inl rfl) (pe_op op_cat (pv 1) (pe_lst (pa_cons (pe_tup (pa_cons pe_str (pa_cons (pe_callB call_isX (by rfl) T.isi (by decide +kernel) (pa_cons (pv 0) (pa_cons (pe_glob (v := V.ref c4) (by rfl) T.g4 rfl) pa_nil))) pa_nil))) (pa_cons (pe_tup (pa_cons pe_str (pa_cons (pe_callB call_isX (by rfl) T.isi (by decide +kernel) (pa_cons (pv 0) (pa_cons (pe_glob (v := V.ref c5) (by rfl) T.g5 rfl) pa_nil))) pa_nil))) pa_nil)))))
      (pss_cons (ps_set (i := 1) scCls.nd rfl (.inl rfl) (pe_op op_cat (pv 1) (pe_lst (pa_cons (pe_tup (pa_cons pe_str (pa_cons (pe_callB call_isX (by rfl) T.isi (by decide +kernel) (pa_cons (pv 0) (pa_cons (pe_glob (v := V.ref c6) (by rfl) T.g6 rfl) pa_nil))) pa_nil))) (pa_cons (pe_tup (pa_cons pe_str (pa_cons (pe_callB call_isX (by rfl) T.isi (by decide +kernel) (pa_cons (pv 0) (pa_cons (pe_glob (v := V.ref c7) (by rfl) T.g7 rfl) pa_nil))) pa_nil))) pa_nil)))))
      (pss_cons (ps_set (i := 1) scCls.nd rfl (.inl rfl) (pe_op op_cat (pv 1) (pe_lst (pa_cons (pe_tup (pa_cons pe_str (pa_cons (pe_callB call_isX (by rfl) T.isi (by decide +kernel) (pa_cons (pv 0) (pa_cons (pe_glob (v := V.ref c8) (by rfl) T.g8 rfl) pa_nil))) pa_nil))) (pa_cons (pe_tup (pa_cons pe_str (pa_cons (pe_callB call_isX (by rfl) T.isi (by decide +kernel) (pa_cons (pv 0) (pa_cons (pe_glob (v := V.ref c9) (by rfl) T.g9 rfl) pa_nil))) pa_nil))) pa_nil)))))
      (pss_cons (ps_expr (pe_bm PySem.F.plainAttrs_list PySem.F.slot_list_append PySem.F.type_list_append mt_append (pv 1) (pa_cons (pe_tup (pa_cons pe_str (pa_cons (pe_callB call_isX (by rfl) T.isi (by decide +kernel) (pa_cons (pv 0) (pa_cons (pe_glob (v := V.ref c10) (by rfl) T.g10 rfl) pa_nil))) pa_nil))) pa_nil)))
      (pss_cons (ps_setLc (i := 2) (own := [("word", 3), ("holds", 4)]) (g := gTup K 2 (gCons (gName 3) (gCons (gName 4) gNil))) (tt := tB (tVar 4)) rfl scCls.nd rfl rfl (sw_true rfl rfl rfl (by decide +kernel)) (pi_list (pv 1)) (blkOk_by (N := ["error", "some", "words", "word", "holds"]) (sc := defScope sCls) (by decide +kernel))
        (fun _ _ _ _ _ => pg_tup (by rfl) (pgs_cons (pg_name (i := 3) scCls.nd rfl (.inl rfl)) (pgs_cons (pg_name (i := 4) scCls.nd rfl (.inl rfl)) pgs_nil))) (fun _ _ _ _ _ => pts_one (pt_val (pv 4))) (fun _ _ _ _ _ => pv 3))
      (pss_cons (ps_if (pt_cmpR op_ne (pe_callB call_len_seq (by rfl) T.len PySem.boot_len (pa_cons (pv 2) pa_nil)) pe_int (nomark _)) (pss_one (ps_ret (pe_tup (pa_cons pe_str pa_nil)))) pss_nil)
      (pss_cons (ps_if (pt_cmpR op_in_seq (pe_ix ix_list (pv 2) pe_int (fun _ _ => rfl)) (pe_tup (pa_cons pe_str (pa_cons pe_str pa_nil))) (by rfl)) (pss_one (ps_ret (pe_tup (pa_cons (pe_ix ix_list (pv 2) pe_int (fun _ _ => rfl)) (pa_cons (pe_xa (pv 0)) pa_nil))))) pss_nil)
      (pss_cons (ps_if (pt_cmpR op_eq (pe_ix ix_list (pv 2) pe_int (fun _ _ => rfl)) pe_str (nomark _)) (pss_one (ps_ret (pe_tup (pa_cons pe_str (pa_cons (pe_xa (pv 0)) pa_nil))))) pss_nil)
      (pss_cons (ps_if (pt_cmpR op_eq (pe_ix ix_list (pv 2) pe_int (fun _ _ => rfl)) pe_str (nomark _)) (pss_one (ps_ret (pe_tup (pa_cons pe_str (pa_cons (pe_xa (pv 0)) pa_nil))))) pss_nil)
      (pss_one (ps_ret (pe_ifExp (pt_cmpR op_eq (pe_ix ix_list (pv 2) pe_int (fun _ _ => rfl)) pe_str (nomark _)) (pe_tup (pa_cons pe_str pa_nil)) (pe_tup (pa_cons (pe_ix ix_list (pv 2) pe_int (fun _ _ => rfl)) (pa_cons (pe_xa (pv 0)) pa_nil)))))))))))))))), ?_⟩
    -- what isinstance says
    obtain ⟨D, fs, B, nid, iid, tl, XD, ea, bs, kb, hbs⟩ : ∃ (D : Addr) (fs : List (Str × V)) (B nid iid : String) (tl : List Value) (_ : XT K B nid iid tl D) (_ : ExAt H a D fs) (bs : List Bool) (_ : Kits K D [c0, c1, c2, c3, c4, c5, c6, c7, c8, c9, c10] bs),
        (bs = [false, false, false, false, false, false, false, false, true, false, false] ∧ fs = [] ∧ D = c8 ∧ ∀ p H', Same H H' → H p = none → H' p = some (.tup [.str "nets"]) → Q (.ref p) H') ∨
        (bs = [false, false, false, false, false, false, false, false, false, true, false] ∧ D = c9 ∧ ∃ q, fs = [(("place" : Str), q)] ∧ ∀ p H', Same H H' → H p = none → H' p = some (.tup [.str "entries", q]) → Q (.ref p) H') := by
      rcases h with ⟨ea, k⟩ | ⟨q, ea, k⟩
      · exact ⟨_, _, _, _, _, _, X8, ea, _, k8, .inl ⟨rfl, rfl, rfl, k⟩⟩
      · exact ⟨_, _, _, _, _, _, X9, ea, _, k9, .inr ⟨rfl, rfl, q, rfl, k⟩⟩
    obtain ⟨b0, b1, b2, b3, b4, b5, b6, b7, b8, b9, b10, rfl⟩ : ∃ b0 b1 b2 b3 b4 b5 b6 b7 b8 b9 b10, bs = [b0, b1, b2, b3, b4, b5, b6, b7, b8, b9, b10] := by
      rcases hbs with ⟨rfl, _⟩ | ⟨rfl, _⟩
      · exact ⟨_, _, _, _, _, _, _, _, _, _, _, rfl⟩
      · exact ⟨_, _, _, _, _, _, _, _, _, _, _, rfl⟩
    unfold Kits at kb
    simp only [List.map_cons, List.map_nil, List.cons.injEq, and_true] at kb
    obtain ⟨q0, q1, q2, q3, q4, q5, q6, q7, q8, q9, q10⟩ := kb
    have two : ∀ {x y : V}, [x, y].length ≤ sizeLine := fun {x y} => by
      show 2 ≤ sizeLine
      rw [sizeLine_eq]
      decide
    refine ⟨_, rfl, B, nid, iid, tl, a, D, fs, .ref c0, .ref c0, b0, rfl, XD, ea.same (Same.refl H), .own c0, q0, two, fun t1 n1 => ⟨_, rfl, B, nid, iid, tl, a, D, fs, .ref c1, .ref c1, b1, rfl, XD, ea.same (Same.trans (Same.refl H) (same_upd n1)), .own c1, q1, two, fun t2 n2 => ⟨two, fun l nl => ?_⟩⟩⟩
    have sm0 : Same H (upd (upd (upd H t1 (HO.tup [V.str "net", V.bl b0])) t2 (HO.tup [V.str "number", V.bl b1])) l (HO.lst [V.ref t1, V.ref t2])) := (new2 n1 n2 nl).1
    have pa0 : PairsAt (upd (upd (upd H t1 (HO.tup [V.str "net", V.bl b0])) t2 (HO.tup [V.str "number", V.bl b1])) l (HO.lst [V.ref t1, V.ref t2])) l [("net", b0), ("number", b1)] := pairs_two n1 n2 nl
    have np0 : H l = none := ((same_upd n1).trans (same_upd n2)).free nl
    revert sm0 pa0
    generalize upd (upd (upd H t1 (HO.tup [V.str "net", V.bl b0])) t2 (HO.tup [V.str "number", V.bl b1])) l (HO.lst [V.ref t1, V.ref t2]) = H0
    intro sm0 pa0
    clear nl n2 n1
    -- road, failed
    obtain ⟨ts0, pl0, pp0⟩ := pa0
    refine ⟨_, rfl, ?_⟩
    refine ⟨_, rfl, B, nid, iid, tl, a, D, fs, .ref c2, .ref c2, b2, rfl, XD, ea.same (sm0), .own c2, q2, two, fun t1 n1 => ⟨_, rfl, B, nid, iid, tl, a, D, fs, .ref c3, .ref c3, b3, rfl, XD, ea.same (Same.trans (sm0) (same_upd n1)), .own c3, q3, two, fun t2 n2 => ⟨two, fun l2 nl => ?_⟩⟩⟩
    refine ⟨_, l2, _, _, rfl, rfl, (new2 n1 n2 nl).1 _ _ pl0, (new2 n1 n2 nl).2.2, ?_, fun p1 np => ?_⟩
    · rw [List.length_map, paired_len pp0, sizeLine_eq]
      exact (show (4 : Nat) ≤ 16777216 by decide)
    have sm1 : Same H (upd (upd (upd (upd H0 t1 (HO.tup [V.str "road", V.bl b2])) t2 (HO.tup [V.str "failed", V.bl b3])) l2 (HO.lst [V.ref t1, V.ref t2])) p1 (HO.lst (ts0.map V.ref ++ [t1, t2].map V.ref))) := sm0.trans (pairs_cat (p := l) pp0 n1 n2 nl np).1
    have pa1 : PairsAt (upd (upd (upd (upd H0 t1 (HO.tup [V.str "road", V.bl b2])) t2 (HO.tup [V.str "failed", V.bl b3])) l2 (HO.lst [V.ref t1, V.ref t2])) p1 (HO.lst (ts0.map V.ref ++ [t1, t2].map V.ref))) p1 _ := (pairs_cat (p := l) pp0 n1 n2 nl np).2
    have np1 : H p1 = none := (sm0.trans (new2 n1 n2 nl).1).free np
    revert sm1 pa1
    generalize upd (upd (upd (upd H0 t1 (HO.tup [V.str "road", V.bl b2])) t2 (HO.tup [V.str "failed", V.bl b3])) l2 (HO.lst [V.ref t1, V.ref t2])) p1 (HO.lst (ts0.map V.ref ++ [t1, t2].map V.ref)) = H1
    intro sm1 pa1
    clear np nl n2 n1 pp0 pl0
    -- parcel, shape
    obtain ⟨ts1, pl1, pp1⟩ := pa1
    refine ⟨_, rfl, ?_⟩
    refine ⟨_, rfl, B, nid, iid, tl, a, D, fs, .ref c4, .ref c4, b4, rfl, XD, ea.same (sm1), .own c4, q4, two, fun t1 n1 => ⟨_, rfl, B, nid, iid, tl, a, D, fs, .ref c5, .ref c5, b5, rfl, XD, ea.same (Same.trans (sm1) (same_upd n1)), .own c5, q5, two, fun t2 n2 => ⟨two, fun l2 nl => ?_⟩⟩⟩
    refine ⟨_, l2, _, _, rfl, rfl, (new2 n1 n2 nl).1 _ _ pl1, (new2 n1 n2 nl).2.2, ?_, fun p2 np => ?_⟩
    · rw [List.length_map, paired_len pp1, sizeLine_eq]
      exact (show (6 : Nat) ≤ 16777216 by decide)
    have sm2 : Same H (upd (upd (upd (upd H1 t1 (HO.tup [V.str "parcel", V.bl b4])) t2 (HO.tup [V.str "shape", V.bl b5])) l2 (HO.lst [V.ref t1, V.ref t2])) p2 (HO.lst (ts1.map V.ref ++ [t1, t2].map V.ref))) := sm1.trans (pairs_cat (p := l) pp1 n1 n2 nl np).1
    have pa2 : PairsAt (upd (upd (upd (upd H1 t1 (HO.tup [V.str "parcel", V.bl b4])) t2 (HO.tup [V.str "shape", V.bl b5])) l2 (HO.lst [V.ref t1, V.ref t2])) p2 (HO.lst (ts1.map V.ref ++ [t1, t2].map V.ref))) p2 _ := (pairs_cat (p := l) pp1 n1 n2 nl np).2
    have np2 : H p2 = none := (sm1.trans (new2 n1 n2 nl).1).free np
    revert sm2 pa2
    generalize upd (upd (upd (upd H1 t1 (HO.tup [V.str "parcel", V.bl b4])) t2 (HO.tup [V.str "shape", V.bl b5])) l2 (HO.lst [V.ref t1, V.ref t2])) p2 (HO.lst (ts1.map V.ref ++ [t1, t2].map V.ref)) = H2
    intro sm2 pa2
    clear np nl n2 n1 pp1 pl1
    -- goal, paper
    obtain ⟨ts2, pl2, pp2⟩ := pa2
    refine ⟨_, rfl, ?_⟩
    refine ⟨_, rfl, B, nid, iid, tl, a, D, fs, .ref c6, .ref c6, b6, rfl, XD, ea.same (sm2), .own c6, q6, two, fun t1 n1 => ⟨_, rfl, B, nid, iid, tl, a, D, fs, .ref c7, .ref c7, b7, rfl, XD, ea.same (Same.trans (sm2) (same_upd n1)), .own c7, q7, two, fun t2 n2 => ⟨two, fun l2 nl => ?_⟩⟩⟩
    refine ⟨_, l2, _, _, rfl, rfl, (new2 n1 n2 nl).1 _ _ pl2, (new2 n1 n2 nl).2.2, ?_, fun p3 np => ?_⟩
    · rw [List.length_map, paired_len pp2, sizeLine_eq]
      exact (show (8 : Nat) ≤ 16777216 by decide)
    have sm3 : Same H (upd (upd (upd (upd H2 t1 (HO.tup [V.str "goal", V.bl b6])) t2 (HO.tup [V.str "paper", V.bl b7])) l2 (HO.lst [V.ref t1, V.ref t2])) p3 (HO.lst (ts2.map V.ref ++ [t1, t2].map V.ref))) := sm2.trans (pairs_cat (p := l) pp2 n1 n2 nl np).1
    have pa3 : PairsAt (upd (upd (upd (upd H2 t1 (HO.tup [V.str "goal", V.bl b6])) t2 (HO.tup [V.str "paper", V.bl b7])) l2 (HO.lst [V.ref t1, V.ref t2])) p3 (HO.lst (ts2.map V.ref ++ [t1, t2].map V.ref))) p3 _ := (pairs_cat (p := l) pp2 n1 n2 nl np).2
    have np3 : H p3 = none := (sm2.trans (new2 n1 n2 nl).1).free np
    revert sm3 pa3
    generalize upd (upd (upd (upd H2 t1 (HO.tup [V.str "goal", V.bl b6])) t2 (HO.tup [V.str "paper", V.bl b7])) l2 (HO.lst [V.ref t1, V.ref t2])) p3 (HO.lst (ts2.map V.ref ++ [t1, t2].map V.ref)) = H3
    intro sm3 pa3
    clear np nl n2 n1 pp2 pl2
    -- nets, entries
    obtain ⟨ts3, pl3, pp3⟩ := pa3
    refine ⟨_, rfl, ?_⟩
    refine ⟨_, rfl, B, nid, iid, tl, a, D, fs, .ref c8, .ref c8, b8, rfl, XD, ea.same (sm3), .own c8, q8, two, fun t1 n1 => ⟨_, rfl, B, nid, iid, tl, a, D, fs, .ref c9, .ref c9, b9, rfl, XD, ea.same (Same.trans (sm3) (same_upd n1)), .own c9, q9, two, fun t2 n2 => ⟨two, fun l2 nl => ?_⟩⟩⟩
    refine ⟨_, l2, _, _, rfl, rfl, (new2 n1 n2 nl).1 _ _ pl3, (new2 n1 n2 nl).2.2, ?_, fun p4 np => ?_⟩
    · rw [List.length_map, paired_len pp3, sizeLine_eq]
      exact (show (10 : Nat) ≤ 16777216 by decide)
    have sm4 : Same H (upd (upd (upd (upd H3 t1 (HO.tup [V.str "nets", V.bl b8])) t2 (HO.tup [V.str "entries", V.bl b9])) l2 (HO.lst [V.ref t1, V.ref t2])) p4 (HO.lst (ts3.map V.ref ++ [t1, t2].map V.ref))) := sm3.trans (pairs_cat (p := l) pp3 n1 n2 nl np).1
    have pa4 : PairsAt (upd (upd (upd (upd H3 t1 (HO.tup [V.str "nets", V.bl b8])) t2 (HO.tup [V.str "entries", V.bl b9])) l2 (HO.lst [V.ref t1, V.ref t2])) p4 (HO.lst (ts3.map V.ref ++ [t1, t2].map V.ref))) p4 _ := (pairs_cat (p := l) pp3 n1 n2 nl np).2
    have np4 : H p4 = none := (sm3.trans (new2 n1 n2 nl).1).free np
    revert sm4 pa4
    generalize upd (upd (upd (upd H3 t1 (HO.tup [V.str "nets", V.bl b8])) t2 (HO.tup [V.str "entries", V.bl b9])) l2 (HO.lst [V.ref t1, V.ref t2])) p4 (HO.lst (ts3.map V.ref ++ [t1, t2].map V.ref)) = H4
    intro sm4 pa4
    clear np nl n2 n1 pp3 pl3
    -- great
    obtain ⟨ts4, pl4, pp4⟩ := pa4
    refine ⟨_, rfl, .inl ⟨rfl, _, SqL.of pl4⟩, ?_⟩
    refine ⟨_, rfl, B, nid, iid, tl, a, D, fs, .ref c10, .ref c10, b10, rfl, XD, ea.same (sm4), .own c10, q10, two, fun t1 n1 => ?_⟩
    refine ⟨_, _, _, rfl, rfl, (same_upd n1) _ _ pl4, ?_, ?_⟩
    · rw [List.length_map, paired_len pp4, sizeLine_eq]
      exact (show (10 : Nat) < 16777216 by decide)
    have kp := (pairs_push (x1 := "great") (y1 := b10) pl4 pp4 n1).1
    have pa5 := (pairs_push (x1 := "great") (y1 := b10) pl4 pp4 n1).2
    have sm5 : Same H (upd (upd H4 t1 (HO.tup [V.str "great", V.bl b10])) p4 (HO.lst (ts4.map V.ref ++ [V.ref t1]))) := fun b o e => kp b o (sm4 b o e) (ne_of_none e np4)
    revert sm5 pa5
    generalize upd (upd H4 t1 (HO.tup [V.str "great", V.bl b10])) p4 (HO.lst (ts4.map V.ref ++ [V.ref t1])) = H5
    intro pa5 sm5
    clear kp n1 pp4 pl4
    -- words = [word for word, holds in some if holds]
    obtain ⟨ts5, pl5, pp5⟩ := pa5
    have len5 : (ts5.map V.ref).length = 11 := by
      rw [List.length_map, paired_len pp5]
      rfl
    refine ⟨_, rfl, p4, rfl, ⟨_, SqL.of pl5⟩, fun D nD => ?_⟩
    refine lc_list (K := K) (a := p4) (xs := ts5.map V.ref) (fun i H' => H' D = some (.lst (((((([("net", b0), ("number", b1)] : List (Str × Bool)) ++ ([("road", b2), ("failed", b3)] : List (Str × Bool)) ++ ([("parcel", b4), ("shape", b5)] : List (Str × Bool)) ++ ([("goal", b6), ("paper", b7)] : List (Str × Bool)) ++ ([("nets", b8), ("entries", b9)] : List (Str × Bool)) ++ ([("great", b10)] : List (Str × Bool))).take i).filter (·.2)).map (·.1)).map V.str)) ∧ Same H5 H')
      ⟨upd_same, same_upd nD⟩ (fun i H' _ ⟨_, s6⟩ => s6.seq (SqL.of pl5)) ?_ ?_
    · rintro i x H' hi ⟨at_D, s6⟩
      obtain ⟨t, et, rfl⟩ : ∃ t, ts5[i]? = some t ∧ x = V.ref t := by
        rw [List.getElem?_map] at hi
        cases e : ts5[i]? with
        | none =>
          rw [e] at hi
          cases hi
        | some t =>
          rw [e] at hi
          exact ⟨t, rfl, (Option.some.inj hi).symm⟩
      obtain ⟨⟨wd, bb⟩, ew, pw⟩ := paired_get pp5 i t et
      have more := kept_more ew
      refine ⟨t, _, rfl, SqT.of (s6 _ _ pw), rfl, _, _, rfl, _, _, rfl, rfl, rfl, _, rfl, _, rfl, ?_⟩
      cases bb with
      | false =>
        refine iteF ⟨?_, s6⟩
        rw [more]
        show H' D = _
        rw [at_D]
        simp
      | true =>
        refine iteT ⟨_, rfl, _, at_D, ?_, ?_, fun b o e => by rw [upd_ne (ne_of_none e nD)]; exact s6 b o e⟩
        · have q : ∀ l : List (Str × Bool), ((l.filter (·.2)).map (·.1)).length ≤ l.length := fun l => by
            rw [List.length_map]
            exact List.length_filter_le _ _
          rw [List.length_map, sizeLine_eq]
          refine Nat.lt_of_le_of_lt (q _) (Nat.lt_of_le_of_lt (List.length_take_le' _ _) ?_)
          exact (show (11 : Nat) < 16777216 by decide)
        · rw [more, upd_same, List.map_append]
          rfl
    rintro H6 ⟨at_D, s6⟩
    rw [len5] at at_D
    have sm6 : Same H H6 := sm5.trans s6
    clear len5 s6 sm5 pp5 pl5
    rcases hbs with ⟨eb, ef, eD, k⟩ | ⟨eb, eD, q, ef, k⟩
    · simp only [List.cons.injEq, and_true] at eb
      obtain ⟨rfl, rfl, rfl, rfl, rfl, rfl, rfl, rfl, rfl, rfl, rfl⟩ := eb
      have d1 : H6 D = some (.lst [.str "nets"]) := at_D
      refine ⟨_, rfl, D, _, rfl, .inl (SqL.of d1), rfl, _, rfl, iteNS rfl ?_⟩
      refine ⟨_, rfl, D, _, _, _, rfl, rfl, SqL.of d1, (show atI [V.str "nets"] 0 = some (V.str "nets") from rfl), two, fun t nt => ?_⟩
      have d2 : (upd H6 t (.tup [.str "net", .str "entries"])) D = some (.lst [.str "nets"]) := same_upd nt _ _ d1
      refine ⟨t, _, rfl, .inr (SqT.of upd_same), rfl, rfl, _, rfl, ifF (by decide +kernel) ?_⟩
      refine ⟨_, rfl, D, _, _, _, rfl, rfl, SqL.of d2, (show atI [V.str "nets"] 0 = some (V.str "nets") from rfl), rfl, _, rfl, ifF (by decide +kernel) ?_⟩
      refine ⟨_, rfl, D, _, _, _, rfl, rfl, SqL.of d2, (show atI [V.str "nets"] 0 = some (V.str "nets") from rfl), rfl, _, rfl, ifF (by decide +kernel) ?_⟩
      refine ⟨_, rfl, D, _, _, _, rfl, rfl, SqL.of d2, (show atI [V.str "nets"] 0 = some (V.str "nets") from rfl), rfl, _, rfl, ifT (by decide +kernel) ?_⟩
      refine ⟨(by show 1 ≤ sizeLine; rw [sizeLine_eq]; decide), fun p np => ?_⟩
      exact k p _ ((sm6.trans (same_upd nt)).trans (same_upd np)) ((sm6.trans (same_upd nt)).free np) upd_same
    · simp only [List.cons.injEq, and_true] at eb
      obtain ⟨rfl, rfl, rfl, rfl, rfl, rfl, rfl, rfl, rfl, rfl, rfl⟩ := eb
      have d1 : H6 D = some (.lst [.str "entries"]) := at_D
      subst ef
      obtain ⟨d, e1, e2⟩ : ∃ d, H a = some (exo a c9 (some d)) ∧ H d = some (exd d [(("place" : Str), q)]) := by
        rcases ea with ⟨_, z⟩ | ⟨d, e1, e2⟩
        · cases z
        · exact ⟨d, eD ▸ e1, e2⟩
      refine ⟨_, rfl, D, _, rfl, .inl (SqL.of d1), rfl, _, rfl, iteNS rfl ?_⟩
      refine ⟨_, rfl, D, _, _, _, rfl, rfl, SqL.of d1, (show atI [V.str "entries"] 0 = some (V.str "entries") from rfl), two, fun t nt => ?_⟩
      have d2 : (upd H6 t (.tup [.str "net", .str "entries"])) D = some (.lst [.str "entries"]) := same_upd nt _ _ d1
      refine ⟨t, _, rfl, .inr (SqT.of upd_same), rfl, rfl, _, rfl, ifT (by decide +kernel) ?_⟩
      have sm7 := sm6.trans (same_upd (o := .tup [.str "net", .str "entries"]) nt)
      refine ⟨_, rfl, D, _, _, _, rfl, rfl, SqL.of d2, (show atI [V.str "entries"] 0 = some (V.str "entries") from rfl), _, rfl, _, _, _, _, a, c9, d, _, q, rfl, X9, free9, sm7 _ _ e1, sm7 _ _ e2, rfl, two, fun p np => ?_⟩
      exact k p _ (sm7.trans (same_upd np)) (sm7.free np) upd_same
end
end Lr

namespace Lr
open PySem PySem.Spec PyProof.Rows L2
abbrev sLaw : Stmt := top 19
abbrev sInBE : Stmt := inClass (top 11) 0
abbrev sInTG : Stmt := inClass (top 12) 0

/-- an __init__(self, x) that stores its argument as a field -/
def spOne (C : Addr) (f : Str) : Sp := fun vs H Q _ => ∃ (a : Addr) (v : V), vs = [.ref a, v] ∧ H a = some (exo a C none) ∧
  ∀ d, H d = none → d ≠ a → Q .non (upd (upd H d (exd d [(f, v)])) a (exo a C (some d)))
/-- what is said of a class with such an __init__ -/
structure One (K : PySem.W.Frag) (mg : Str → Option Value) (name : Str) (B nid iid : String) (tl : List Value) (C fI : Addr) (fd : FuncData) (f : Str) : Prop where
  x : XT K B nid iid tl C
  g : mg name = some (.ref C)
  i : PySem.W.findIn K (.ref C) "__init__" = some (some (.ref fI))
  t : PySem.W.typeIn K (.ref fI) = some (.type "function")
  free : PySem.W.findIn K (.ref C) f = some none
  b : Binds K fd ["self", f] []

/-! the menu of values -/
def menu : List PyData := [.none, .int 0, .int 7, .tuple [.int 1, .int 2], .str "x", .list [.int 3], .dict [], .int (10 ^ (40 : Int).toNat)]
def fine (d : PyData) : Bool := d.showable && decide (d.shown.length ≤ 1000) && decide (d.depth ≤ 60)
theorem menu_fine : ∀ d ∈ menu, fine d = true ∧ fine (.tuple [.str "entries", d]) = true := by
  have h : menu.all (fun d => fine d && fine (.tuple [.str "entries", d])) = true := by decide +kernel
  intro d hd
  have q := List.all_eq_true.mp h d hd
  rw [Bool.and_eq_true] at q
  exact q
theorem fine_of {d : PyData} (h : fine d = true) : d.showable = true ∧ d.shown.length ≤ sizeLine ∧ d.depth ≤ 60 := by
  unfold fine at h
  rw [Bool.and_eq_true, Bool.and_eq_true, decide_eq_true_eq, decide_eq_true_eq] at h
  refine ⟨h.1.1, ?_, h.2⟩
  rw [sizeLine_eq]
  exact Nat.le_trans h.1.2 (by decide)
def spLaw (K : PySem.W.Frag) : Sp := fun vs H Q _ => ∃ (a : Addr) (ns : List Int), vs = [.ref a] ∧ SqL K H a (ns.map V.int) ∧ ns.length ≤ 63 ∧ ∀ H', Q (.bl true) H'

section
variable {P : Program} {w : World} {K : PySem.W.Frag} {mg : Str → Option Value} {base : Heap}
theorem scInBE : FnScope ["self", "place"] ["self", "place"] (defScope sInBE) := ⟨rfl, rfl, rfl, by decide +kernel, rfl, by decide +kernel, by decide +kernel⟩
theorem ok_inBE {B nid iid : String} {tl : List Value} {f C : Addr} {fd : FuncData} (F : Fun K "__init__" "BadEntries.__init__" sInBE f fd) (T : XT K B nid iid tl C) (free : PySem.W.findIn K (.ref C) "place" = some none) : FnOk P w K mg base CX0 1 f fd ["self", "place"] (spOne C "place") := by
  refine F.ok scInBE (fun vs H Q E h => ?_) (fun cdv A outer s H vs Q E hr h => ?_)
  · obtain ⟨a, v, rfl, _⟩ := h
    rfl
  · obtain ⟨a, v, rfl, ea, k⟩ := h
    refine ⟨_, pss_one (ps_fx (pv 0) (pv 1)), ?_⟩
    exact ⟨_, rfl, _, rfl, _, _, _, _, a, C, rfl, T, free, .inl ⟨ea, fun dx n ne => k dx n ne⟩⟩
theorem scInTG : FnScope ["self", "most"] ["self", "most"] (defScope sInTG) := ⟨rfl, rfl, rfl, by decide +kernel, rfl, by decide +kernel, by decide +kernel⟩
theorem ok_inTG {B nid iid : String} {tl : List Value} {f C : Addr} {fd : FuncData} (F : Fun K "__init__" "TooGreat.__init__" sInTG f fd) (T : XT K B nid iid tl C) (free : PySem.W.findIn K (.ref C) "most" = some none) : FnOk P w K mg base CX0 1 f fd ["self", "most"] (spOne C "most") := by
  refine F.ok scInTG (fun vs H Q E h => ?_) (fun cdv A outer s H vs Q E hr h => ?_)
  · obtain ⟨a, v, rfl, _⟩ := h
    rfl
  · obtain ⟨a, v, rfl, ea, k⟩ := h
    refine ⟨_, pss_one (ps_fx (pv 0) (pv 1)), ?_⟩
    exact ⟨_, rfl, _, rfl, _, _, _, _, a, C, rfl, T, free, .inl ⟨ea, fun dx n ne => k dx n ne⟩⟩
end
end Lr

namespace Lr
open PySem PySem.Spec PyProof.Rows L2
theorem menu_at {K : PySem.W.Frag} {H : Hp} {t l dd : Addr} {r : Int} (h0 : 0 ≤ r) (h1 : r < 8) (et : H t = some (.tup [.int 1, .int 2])) (el : H l = some (.lst [.int 3])) (ed : H dd = some (.dK [])) (nl : l ≠ sysModules) :
    ∃ (v : V) (d : PyData), atI [V.non, .int 0, .int 7, .ref t, .str "x", .ref l, .ref dd, .int (10 ^ (40 : Int).toNat)] r = some v ∧ d ∈ menu ∧ Da K H true v d := by
  have e : r = 0 ∨ r = 1 ∨ r = 2 ∨ r = 3 ∨ r = 4 ∨ r = 5 ∨ r = 6 ∨ r = 7 := by omega
  rcases e with e | e | e | e | e | e | e | e <;> subst e
  · exact ⟨_, .none, rfl, by simp [menu], .non⟩
  · exact ⟨_, .int 0, rfl, by simp [menu], .int 0⟩
  · exact ⟨_, .int 7, rfl, by simp [menu], .int 7⟩
  · exact ⟨_, .tuple [.int 1, .int 2], rfl, by simp [menu], .tup (SqT.of et) (.cons (.int 1) (.cons (.int 2) .nil))⟩
  · exact ⟨_, .str "x", rfl, by simp [menu], .str _⟩
  · exact ⟨_, .list [.int 3], rfl, by simp [menu], .lst (SqL.of el) (.cons (.int 3) .nil) fun _ => nl⟩
  · exact ⟨_, .dict [], rfl, by simp [menu], .dic ed rfl⟩
  · exact ⟨_, .int (10 ^ (40 : Int).toNat), rfl, by simp [menu], .int _⟩
theorem Fun.kwb {K : PySem.W.Frag} {x qual : Str} {st : Stmt} {f : Addr} {fd : FuncData} {ps ks : List Str} (F : Fun K x qual st f fd)
    (h : ∀ (kV doc pm : Value) (an : Option Addr) (cdv ct : Value) (a : Value) (zs : List Value), (a :: zs).length = ps.length → bindArgs (PySem.W.fnOf x qual (defArgs st) (defBody st) (defScope st) .none kV doc pm an cdv ct) ⟨[a], ks.zip zs⟩ = pure (ps.zip (a :: zs))) :
    ∀ (s : Shared) (a : Value) (zs : List Value), K.In s.heap → (a :: zs).length = ps.length → BindsTo s fd ⟨[a], ks.zip zs⟩ (ps.zip (a :: zs)) := by
  obtain ⟨oc, od, kV, doc, pm, an, cdv, ct, osl, rfl, lk, hcd⟩ := F.ex
  exact fun s a zs _ hl => .of_eq (h kV doc pm an cdv ct a zs hl)

theorem Ms.mono {H H' : Hp} {m c g : Addr} {n : Nat} (sm : Same H H') (M : Ms H m c g n) : Ms H' m c g n := by
  obtain ⟨hd, ⟨cs, h1, h2⟩, ⟨gs, h3, h4⟩, h5⟩ := M
  exact ⟨sm _ _ hd, ⟨cs, h1, sm _ _ h2⟩, ⟨gs, h3, sm _ _ h4⟩, h5⟩
theorem made_same {H : Hp} {a d : Addr} {e0 e1 x : HO} (na : H a = none) (nd : (upd H a e0) d = none) : Same H (upd (upd (upd H a e0) d x) a e1) := fun b o e => by
  rw [upd_ne (ne_of_none e na)]
  exact same_upd nd _ _ (same_upd na _ _ e)
theorem made_at {H : Hp} {a d C : Addr} {e0 : HO} {fs : List (Str × V)} (ne : d ≠ a) : ExAt (upd (upd (upd H a e0) d (exd d fs)) a (exo a C (some d))) a C fs := .inr ⟨d, upd_same, by rw [upd_ne ne, upd_same]⟩
/-- a pair of a made exception and what is due of it -/
def Row (c8 c9 : Addr) (v : V) (H : Hp) (t : Addr) : Prop := ∃ e u, H t = some (.tup [.ref e, .ref u]) ∧ ((ExAt H e c8 [] ∧ H u = some (.tup [.str "nets"])) ∨ (ExAt H e c9 [("place", v)] ∧ H u = some (.tup [.str "entries", v])))
theorem Row.mono {c8 c9 : Addr} {v : V} {H H' : Hp} (sm : Same H H') {t : Addr} (r : Row c8 c9 v H t) : Row c8 c9 v H' t := by
  obtain ⟨e, u, h1, h2⟩ := r
  refine ⟨e, u, sm _ _ h1, ?_⟩
  rcases h2 with ⟨h2, h3⟩ | ⟨h2, h3⟩
  · exact .inl ⟨h2.same sm, sm _ _ h3⟩
  · exact .inr ⟨h2.same sm, sm _ _ h3⟩
/-- what the law's body asks of the text -/
structure Tl (K : PySem.W.Frag) (mg : Str → Option Value) (c8 c9 c10 cNE fB fD fC f9 f10 : Addr) (fdB fdD fdC fd9 fd10 : FuncData) : Prop where
  isi : mg "isinstance" = none
  rep : mg "repr" = none
  ve : mg "ValueError" = none
  gNE : mg "NetError" = some (.ref cNE)
  gB : mg "_law_begun" = some (.ref fB)
  kB : PySem.W.keepIn K (.ref fB) = true
  bB : Binds K fdB ["script"] []
  gD : mg "_law_draw" = some (.ref fD)
  kD : PySem.W.keepIn K (.ref fD) = true
  bD : Binds K fdD ["m", "limit"] []
  gC : mg "_law_class" = some (.ref fC)
  kC : PySem.W.keepIn K (.ref fC) = true
  bC : Binds K fdC ["error"] []
  x8 : XT K "ValueError" "ValueError.__new__" "ValueError.__init__" PySem.HandSPX.veTail c8
  g8 : mg "OtherNet" = some (.ref c8)
  n8 : PySem.W.excIn K c8 PySem.HandSPX.veTail "ValueError.__new__" = true
  o9 : One K mg "BadEntries" "ValueError" "ValueError.__new__" "ValueError.__init__" PySem.HandSPX.veTail c9 f9 fd9 "place"
  w9 : ∀ (s : Shared) (a : Value) (zs : List Value), K.In s.heap → (a :: zs).length = (["self", "place"] : List Str).length → BindsTo s fd9 ⟨[a], (["place"] : List Str).zip zs⟩ ((["self", "place"] : List Str).zip (a :: zs))
  o10 : One K mg "TooGreat" "OverflowError" "OverflowError.__new__" "OverflowError.__init__" [.type "OverflowError", .type "ArithmeticError", .type "Exception", .type "BaseException", .type "object"] c10 f10 fd10 "most"
  w10 : ∀ (s : Shared) (a : Value) (zs : List Value), K.In s.heap → (a :: zs).length = (["self", "most"] : List Str).length → BindsTo s fd10 ⟨[a], (["most"] : List Str).zip zs⟩ ((["self", "most"] : List Str).zip (a :: zs))
  g10 : mg "TooGreat" = some (.ref c10)
  i8N : PySem.W.kitOne K (.ref c8) (.ref cNE) = some true
  i8V : PySem.W.kitOne K (.ref c8) (.type "ValueError") = some true
  i8T : PySem.W.kitOne K (.ref c8) (.ref c10) = some false
  i9N : PySem.W.kitOne K (.ref c9) (.ref cNE) = some true
  i9V : PySem.W.kitOne K (.ref c9) (.type "ValueError") = some true
  i9T : PySem.W.kitOne K (.ref c9) (.ref c10) = some false
  i10 : PySem.W.kitOne K (.ref c10) (.ref cNE) = some false

section
variable {P : Program} {w : World} {K : PySem.W.Frag} {mg : Str → Option Value} {base : Heap}
theorem scLaw : FnScope ["script", "m", "q", "some", "one", "due"] ["script"] (defScope sLaw) := ⟨rfl, rfl, rfl, by decide +kernel, rfl, by decide +kernel, by decide +kernel⟩
theorem ok_law {f c8 c9 c10 cNE fB fD fC f9 f10 : Addr} {fd fdB fdD fdC fd9 fd10 : FuncData} (F : Fun K "law" "law" sLaw f fd) (T : Tl K mg c8 c9 c10 cNE fB fD fC f9 f10 fdB fdD fdC fd9 fd10)
    (GB : FnOk P w K mg base CX0 2 fB fdB ["script"] (spBeg K)) (GD : FnOk P w K mg base CX0 2 fD fdD ["m", "limit"] spDra) (GC : FnOk P w K mg base CX0 1 fC fdC ["error"] (spCls c8 c9))
    (G9 : FnOk P w K mg base CX0 1 f9 fd9 ["self", "place"] (spOne c9 "place")) (G10 : FnOk P w K mg base CX0 1 f10 fd10 ["self", "most"] (spOne c10 "most")) : FnG P w K mg base CX0 3 f fd ["script"] (spLaw K) := by
  refine Fun.okG F scLaw (fun vs H Q E h => ?_) (fun cdv A outer s H vs Q E gd hr h => ?_)
  · obtain ⟨a, ns, rfl, _⟩ := h
    rfl
  · obtain ⟨a, ns, rfl, hS, hlen, k⟩ := h
    have hr1 : Room 1 _ := hr.mono (by decide)
    have hr2 : Room 2 (A.deeper (envOfC "law" (defScope sLaw) s.heap.objs.size f cdv)) := hr
    have hu : (A.deeper (envOfC "law" (defScope sLaw) s.heap.objs.size f cdv)).units + 100 < cLine := by
      have z := hr.un
      omega
    have gd2 : (A.deeper (envOfC "law" (defScope sLaw) s.heap.objs.size f cdv)).guards = some [] := gd
    refine ⟨_, pss_cons (ps_set (i := 1) scLaw.nd rfl (.inl rfl) (pe_call GB hr2 (by rfl) T.gB T.kB T.bB .nil pass0 (pa_cons (pv 0) pa_nil)))
      (pss_cons (ps_set (i := 2) scLaw.nd rfl (.inl rfl) (pe_ix ix_list (pe_lst (pa_cons pe_non (pa_cons pe_int (pa_cons pe_int (pa_cons (pe_tup (pa_cons pe_int (pa_cons pe_int pa_nil))) (pa_cons pe_str (pa_cons (pe_lstN (pa_cons pe_int pa_nil)) (pa_cons pe_dnewK (pa_cons (pe_op op_pow pe_int pe_int) pa_nil)))))))))
        (pe_call GD hr2 (by rfl) T.gD T.kD T.bD .nil pass0 (pa_cons (pv 1) (pa_cons pe_int pa_nil))) (fun _ _ => rfl)))
      (pss_cons (ps_set (i := 3) scLaw.nd rfl (.inl rfl) (pe_lst (pa_cons (pe_tup (pa_cons (pe_mkx0 PySem.F.excBase_ValueError T.n8 T.x8.kp (by rfl) T.g8) (pa_cons (pe_tup (pa_cons pe_str pa_nil)) pa_nil)))
        (pa_cons (pe_tup (pa_cons (pe_mkx T.o9.x T.o9.i T.o9.t G9 hr2 T.o9.b pass0 (by rfl) T.o9.g (pa_cons (pv 2) pa_nil)) (pa_cons (pe_tup (pa_cons pe_str (pa_cons (pv 2) pa_nil))) pa_nil)))
        (pa_cons (pe_tup (pa_cons (pe_mkxK (f := "place") (ks := ["place"]) T.o9.x T.o9.i T.o9.t G9 hr2 pass0 (by rfl) T.o9.g (fun zs => zs) (fun zs => zs) T.w9 (fun r => r) (pk_cons (pv 2) pk_nil)) (pa_cons (pe_tup (pa_cons pe_str (pa_cons (pv 2) pa_nil))) pa_nil))) pa_nil)))))
      (pss_cons (ps_for PassesOwn.never rfl (pi_list (pv 3)) (pg_tup (by rfl) (pgs_cons (pg_name (i := 4) scLaw.nd rfl (.inl rfl)) (pgs_cons (pg_name (i := 5) scLaw.nd rfl (.inl rfl)) pgs_nil)))
        (pss_cons (ps_if (PW.pt (pw_or (pt_cmpR op_ne (pe_callB (call_repr gd2 hu) (by rfl) T.rep (by decide +kernel) (pa_cons (pe_call GC hr1 (by rfl) T.gC T.kC T.bC .nil pass0 (pa_cons (pv 4) pa_nil)) pa_nil)) (pe_callB (call_repr gd2 hu) (by rfl) T.rep (by decide +kernel) (pa_cons (pv 5) pa_nil)) (nomark _))
            (pw_or (pt_not (pt_val (pe_callB call_isX (by rfl) T.isi (by decide +kernel) (pa_cons (pv 4) (pa_cons (pe_glob (v := V.ref cNE) (by rfl) T.gNE rfl) pa_nil)))))
              (pw_or1 (pt_not (pt_val (pe_callB call_isX (by rfl) T.isi (by decide +kernel) (pa_cons (pv 4) (pa_cons (pe_bltn (v := V.ty "ValueError") (by rfl) T.ve (by decide +kernel) rfl) pa_nil)))))))))
            (pss_one (ps_ret pe_bl)) pss_nil)
          (pss_one (ps_if (pt_val (pe_callB call_isX (by rfl) T.isi (by decide +kernel) (pa_cons (pv 4) (pa_cons (pe_glob (v := V.ref c10) (by rfl) T.g10 rfl) pa_nil)))) (pss_one (ps_ret pe_bl)) pss_nil))))
      (pss_one (ps_ret (pe_and (pe_not (pe_callB call_isX (by rfl) T.isi (by decide +kernel) (pa_cons (pe_mkx T.o10.x T.o10.i T.o10.t G10 hr2 T.o10.b pass0 (by rfl) T.o10.g (pa_cons (pv 2) pa_nil)) (pa_cons (pe_glob (v := V.ref cNE) (by rfl) T.gNE rfl) pa_nil))))
        (pe_one (pe_cmpR op_eq (pe_callB (call_repr gd2 hu) (by rfl) T.rep (by decide +kernel) (pa_cons (pe_xa (pe_mkxK (f := "most") (ks := ["most"]) T.o10.x T.o10.i T.o10.t G10 hr2 pass0 (by rfl) T.o10.g (fun zs => zs) (fun zs => zs) T.w10 (fun r => r) (pk_cons (pv 2) pk_nil))) pa_nil))
          (pe_callB (call_repr gd2 hu) (by rfl) T.rep (by decide +kernel) (pa_cons (pv 2) pa_nil)) (nomark _))))))))), ?_⟩
    have z1 : ∀ {x : V}, [x].length ≤ sizeLine := fun {x} => by
      show 1 ≤ sizeLine
      rw [sizeLine_eq]
      decide
    have z2 : ∀ {x y : V}, [x, y].length ≤ sizeLine := fun {x y} => by
      show 2 ≤ sizeLine
      rw [sizeLine_eq]
      decide
    -- m = _law_begun(script)
    refine ⟨_, rfl, a, ns, rfl, hS, hlen, fun H1 m c g sm nm nc ng M => ?_⟩
    -- q = [..][_law_draw(m, 8)]
    refine ⟨z2, fun t nt => ⟨z1, fun l nl nls => fun dd nd => ⟨_, _, rfl, rfl, ⟨by decide, by decide, by decide⟩, ?_⟩⟩⟩
    refine ⟨by show 8 ≤ sizeLine; rw [sizeLine_eq]; decide, fun p np => ?_⟩
    have s1 := ((same_upd (o := .tup [.int 1, .int 2]) nt).trans (same_upd (o := .lst [.int 3]) nl)).trans (same_upd (o := .dK []) nd)
    have M1 := (M.mono s1).mono (same_upd (o := .lst [V.non, .int 0, .int 7, .ref t, .str "x", .ref l, .ref dd, .int (10 ^ (40 : Int).toNat)]) np)
    have et := same_upd (o := .lst [V.non, .int 0, .int 7, .ref t, .str "x", .ref l, .ref dd, .int (10 ^ (40 : Int).toNat)]) np _ _ (same_upd (o := .dK []) nd _ _ (same_upd (o := .lst [.int 3]) nl _ _ (upd_same (H := H1) (a := t) (o := .tup [.int 1, .int 2]))))
    have el := same_upd (o := .lst [V.non, .int 0, .int 7, .ref t, .str "x", .ref l, .ref dd, .int (10 ^ (40 : Int).toNat)]) np _ _ (same_upd (o := .dK []) nd _ _ (upd_same (H := upd H1 t (.tup [.int 1, .int 2])) (a := l) (o := .lst [.int 3])))
    have ed := same_upd (o := .lst [V.non, .int 0, .int 7, .ref t, .str "x", .ref l, .ref dd, .int (10 ^ (40 : Int).toNat)]) np _ _ (upd_same (H := upd (upd H1 t (.tup [.int 1, .int 2])) l (.lst [.int 3])) (a := dd) (o := .dK []))
    refine ⟨_, rfl, m, c, g, 0, 8, rfl, by decide, by decide, by decide, M1, fun r H2 r0 r1 M2 keep => ?_⟩
    obtain ⟨gs, _, atg⟩ := M.hg
    have atm := M.hd
    have st := same_upd (o := .tup [.int 1, .int 2]) nt
    have sl := st.trans (same_upd (o := .lst [.int 3]) nl)
    have et2 := keep t _ et (ne_of_none atm nt).symm (ne_of_none atg nt).symm
    have el2 := keep l _ el (ne_of_none (st _ _ atm) nl).symm (ne_of_none (st _ _ atg) nl).symm
    have ed2 := keep dd _ ed (ne_of_none (sl _ _ atm) nd).symm (ne_of_none (sl _ _ atg) nd).symm
    have ep2 := keep p _ upd_same (ne_of_none (s1 _ _ atm) np).symm (ne_of_none (s1 _ _ atg) np).symm
    obtain ⟨v, d, hv, hd, dv⟩ := menu_at (K := K) r0 r1 et2 el2 ed2 nls
    obtain ⟨f1, f2⟩ := menu_fine d hd
    have g1 := fine_of f1
    have g2 := fine_of f2
    have g3 := fine_of (d := .tuple [.str "nets"]) (by decide +kernel)
    refine ⟨p, _, _, v, rfl, rfl, SqL.of ep2, hv, ?_⟩
    clear keep M2 ep2 ed2 el2 et2 sl st ed el et M1 s1 np nd nl nt atg atm M hd hv f1 f2
    -- some = [..]
    refine fun a1 n1 => ⟨z1, fun u1 m1 => ⟨z2, fun t1 k1 => ?_⟩⟩
    have q1 := ((same_upd (o := exo a1 c8 none) n1).trans (same_upd (o := .tup [.str "nets"]) m1)).trans (same_upd (o := .tup [.ref a1, .ref u1]) k1)
    have w1 : Row c8 c9 v (upd (upd (upd H2 a1 (exo a1 c8 none)) u1 (.tup [.str "nets"])) t1 (.tup [.ref a1, .ref u1])) t1 :=
      ⟨a1, u1, upd_same, .inl ⟨.inl ⟨(same_upd k1) _ _ ((same_upd m1) _ _ upd_same), rfl⟩, (same_upd k1) _ _ upd_same⟩⟩
    have dv1 := Da.mono q1 _ _ dv
    revert w1 dv1
    generalize upd (upd (upd H2 a1 (exo a1 c8 none)) u1 (.tup [.str "nets"])) t1 (.tup [.ref a1, .ref u1]) = H3
    intro w1 dv1
    refine ⟨_, rfl, by show 1 ≤ 1000; decide, fun a2 n2 => ⟨a2, v, rfl, upd_same, fun d2 nd2 ne2 => ⟨rfl, ?_⟩⟩⟩
    refine ⟨_, rfl, z2, fun u2 m2 => ⟨z2, fun t2 k2 => ?_⟩⟩
    have q2 := ((made_same (x := exd d2 [("place", v)]) (e1 := exo a2 c9 (some d2)) n2 nd2).trans (same_upd (o := .tup [.str "entries", v]) m2)).trans (same_upd (o := .tup [.ref a2, .ref u2]) k2)
    have w2 : Row c8 c9 v (upd (upd (upd (upd (upd H3 a2 (exo a2 c9 none)) d2 (exd d2 [("place", v)])) a2 (exo a2 c9 (some d2))) u2 (.tup [.str "entries", v])) t2 (.tup [.ref a2, .ref u2])) t2 :=
      ⟨a2, u2, upd_same, .inr ⟨(made_at ne2).same (fun b o e => (same_upd k2) _ _ ((same_upd m2) _ _ e)), (same_upd k2) _ _ upd_same⟩⟩
    have w1b := w1.mono q2
    have dv2 := Da.mono q2 _ _ dv1
    revert w2 w1b dv2
    generalize upd (upd (upd (upd (upd H3 a2 (exo a2 c9 none)) d2 (exd d2 [("place", v)])) a2 (exo a2 c9 (some d2))) u2 (.tup [.str "entries", v])) t2 (.tup [.ref a2, .ref u2]) = H4
    intro w2 w1b dv2
    refine ⟨_, rfl, fun a3 n3 => ⟨a3, v, rfl, upd_same, fun d3 nd3 ne3 => ⟨rfl, ?_⟩⟩⟩
    refine ⟨_, rfl, z2, fun u3 m3 => ⟨z2, fun t3 k3 => ?_⟩⟩
    have q3 := ((made_same (x := exd d3 [("place", v)]) (e1 := exo a3 c9 (some d3)) n3 nd3).trans (same_upd (o := .tup [.str "entries", v]) m3)).trans (same_upd (o := .tup [.ref a3, .ref u3]) k3)
    have w3 : Row c8 c9 v (upd (upd (upd (upd (upd H4 a3 (exo a3 c9 none)) d3 (exd d3 [("place", v)])) a3 (exo a3 c9 (some d3))) u3 (.tup [.str "entries", v])) t3 (.tup [.ref a3, .ref u3])) t3 :=
      ⟨a3, u3, upd_same, .inr ⟨(made_at ne3).same (fun b o e => (same_upd k3) _ _ ((same_upd m3) _ _ e)), (same_upd k3) _ _ upd_same⟩⟩
    have w1c := w1b.mono q3
    have w2c := w2.mono q3
    have dv3 := Da.mono q3 _ _ dv2
    revert w3 w2c w1c dv3
    generalize upd (upd (upd (upd (upd H4 a3 (exo a3 c9 none)) d3 (exd d3 [("place", v)])) a3 (exo a3 c9 (some d3))) u3 (.tup [.str "entries", v])) t3 (.tup [.ref a3, .ref u3]) = H5
    intro w3 w1c w2c dv3
    refine ⟨by show 3 ≤ sizeLine; rw [sizeLine_eq]; decide, fun lx nlx => ?_⟩
    have q4 := same_upd (o := .lst [.ref t1, .ref t2, .ref t3]) nlx
    have rows : ∀ x ∈ [t1, t2, t3], Row c8 c9 v (upd H5 lx (.lst [.ref t1, .ref t2, .ref t3])) x := by
      intro x hx
      simp only [List.mem_cons, List.not_mem_nil, or_false] at hx
      rcases hx with rfl | rfl | rfl
      · exact w1c.mono q4
      · exact w2c.mono q4
      · exact w3.mono q4
    have dv4 := Da.mono q4 _ _ dv3
    have el : (upd H5 lx (.lst [.ref t1, .ref t2, .ref t3])) lx = some (.lst ([t1, t2, t3].map V.ref)) := upd_same
    revert rows dv4 el
    generalize upd H5 lx (.lst [.ref t1, .ref t2, .ref t3]) = H6
    intro rows dv4 el
    -- for one, due in some
    refine ⟨_, rfl, lx, rfl, ⟨_, SqL.of el⟩, for_list (K := K) (a := lx) (xs := [t1, t2, t3].map V.ref) (fun i σ H' => ∃ v4 v5 : Option V, σ = [some (.ref a), some (.ref m), some v, some (.ref lx), v4, v5] ∧ Same H6 H')
      ⟨_, _, rfl, fun b o e => e⟩ (fun i σ H' _ ⟨_, _, _, sm⟩ => sm.seq (SqL.of el)) ?_ ?_⟩
    · rintro i x σ H' hi ⟨v4, v5, rfl, sm⟩
      obtain ⟨tt, ht, rfl⟩ : ∃ tt, tt ∈ [t1, t2, t3] ∧ x = V.ref tt := by
        have hx := List.mem_of_getElem? hi
        obtain ⟨tt, h1, h2⟩ := List.mem_map.mp hx
        exact ⟨tt, h1, h2.symm⟩
      obtain ⟨e, u, pr, both⟩ := (rows tt ht).mono sm
      refine ⟨tt, _, rfl, SqT.of pr, rfl, _, _, rfl, _, _, rfl, rfl, ?_⟩
      rcases both with ⟨xe, du⟩ | ⟨xe, du⟩
      · refine ⟨_, rfl, e, rfl, .inl ⟨xe, fun p H7 s7 np ep => ?_⟩⟩
        refine ⟨.ref p, _, true, rfl, .tup (SqT.of ep) (.cons (.str _) .nil), g3.1, g3.2.1, g3.2.2, _, rfl, .ref u, _, true, rfl, .tup (SqT.of (s7 _ _ du)) (.cons (.str _) .nil), g3.1, g3.2.1, g3.2.2, rfl, _, rfl, iteNS rfl ?_⟩
        refine ⟨_, rfl, _, _, _, _, e, c8, _, .ref cNE, _, _, rfl, T.x8, xe.same s7, .own _, T.i8N, _, rfl, iteF ?_⟩
        refine ⟨_, rfl, _, _, _, _, e, c8, _, .ty "ValueError", _, _, rfl, T.x8, xe.same s7, .ty _, T.i8V, _, rfl, iteF ?_⟩
        refine ⟨_, rfl, _, _, _, _, e, c8, _, .ref c10, _, _, rfl, T.x8, xe.same s7, .own _, T.i8T, _, rfl, iteF ?_⟩
        exact ⟨_, _, rfl, sm.trans s7⟩
      · have dq := Da.mono sm _ _ dv4
        refine ⟨_, rfl, e, rfl, .inr ⟨v, xe, fun p H7 s7 np ep => ?_⟩⟩
        refine ⟨.ref p, _, true, rfl, .tup (SqT.of ep) (.cons (.str _) (.cons (Da.mono s7 _ _ dq) .nil)), g2.1, g2.2.1, g2.2.2, _, rfl, .ref u, _, true, rfl, .tup (SqT.of (s7 _ _ du)) (.cons (.str _) (.cons (Da.mono s7 _ _ dq) .nil)), g2.1, g2.2.1, g2.2.2, rfl, _, rfl, iteNS rfl ?_⟩
        refine ⟨_, rfl, _, _, _, _, e, c9, _, .ref cNE, _, _, rfl, T.o9.x, xe.same s7, .own _, T.i9N, _, rfl, iteF ?_⟩
        refine ⟨_, rfl, _, _, _, _, e, c9, _, .ty "ValueError", _, _, rfl, T.o9.x, xe.same s7, .ty _, T.i9V, _, rfl, iteF ?_⟩
        refine ⟨_, rfl, _, _, _, _, e, c9, _, .ref c10, _, _, rfl, T.o9.x, xe.same s7, .own _, T.i9T, _, rfl, iteF ?_⟩
        exact ⟨_, _, rfl, sm.trans s7⟩
    rintro σ H7 ⟨v4, v5, rfl, s7⟩
    have dv5 := Da.mono s7 _ _ dv4
    -- return not isinstance(TooGreat(q), NetError) and repr(TooGreat(most=q).most) == repr(q)
    refine ⟨_, rfl, by show 1 ≤ 1000; decide, fun b1 na1 => ⟨b1, v, rfl, upd_same, fun e1 nd1 ne1 => ⟨rfl, ?_⟩⟩⟩
    have q5 := made_same (x := exd e1 [("most", v)]) (e1 := exo b1 c10 (some e1)) na1 nd1
    have xb := made_at (H := H7) (a := b1) (d := e1) (C := c10) (e0 := exo b1 c10 none) (fs := [("most", v)]) ne1
    have dv6 := Da.mono q5 _ _ dv5
    refine ⟨_, _, _, _, b1, c10, _, .ref cNE, _, _, rfl, T.o10.x, xb, .own _, T.i10, _, rfl, _, rfl, iteT ?_⟩
    refine ⟨_, rfl, fun b2 na2 => ⟨b2, v, rfl, upd_same, fun e2 nd2' ne2' => ⟨rfl, ?_⟩⟩⟩
    have q6 := made_same (x := exd e2 [("most", v)]) (e1 := exo b2 c10 (some e2)) na2 nd2'
    have dv7 := Da.mono q6 _ _ dv6
    refine ⟨_, _, _, _, b2, c10, e2, [("most", v)], v, rfl, T.o10.x, T.o10.free, upd_same, by rw [upd_ne ne2', upd_same], by rfl, ?_⟩
    refine ⟨v, d, true, rfl, dv7, g1.1, g1.2.1, g1.2.2, _, rfl, v, d, true, rfl, dv7, g1.1, g1.2.1, g1.2.2, rfl, ?_⟩
    rw [decide_eq_true (rfl : V.str d.shown = V.str d.shown)]
    exact k _
end
end Lr

namespace Lr
open PySem PySem.Spec PyProof.Rows L2

theorem all_mk {l : PySem.W.OpenLaw} {w : World} {K : PySem.W.Frag} {h : Heap} {mg : Str → Option Value} {fa cNE c0 c1 c2 c3 c4 c5 c6 c7 c8 c9 c10 fM fL fD fB fC fW f9 f10 : Addr} (X : K.In h) (G : h.Ns mainGlobals mg) (hfa : mg "law" = some (.ref fa))
    {odM anM odL anL odD anD odB anB odC anC odW anW od9 an9 od10 an10 : Option Addr} {slM slL slD slB slC slW sl9 sl10 : Array (Option Value)} {ocM kVM dcM pmM cdM ctM ocL kVL dcL pmL cdL ctL ocD kVD dcD pmD cdD ctD ocB kVB dcB pmB cdB ctB ocC kVC dcC pmC cdC ctC ocW kVW dcW pmW cdW ctW oc9 kV9 dc9 pm9 cd9 ct9 oc10 kV10 dc10 pm10 cd10 ct10 : Value}
    {nm8 q8 : Str} {N8 : Addr} {bs8 : List Value} {sn8 : List Str} {sub8 : List Value} {ab8 : Bool} {col8 : Option Bool} {dd8 : Option Addr} {m08 m18 m28 m38 m58 : Option Value} {nm9 q9 : Str} {N9 : Addr} {bs9 : List Value} {sn9 : List Str} {sub9 : List Value} {ab9 : Bool} {col9 : Option Bool} {dd9 : Option Addr} {m09 m19 m29 m39 m59 : Option Value} {nm10 q10 : Str} {N10 : Addr} {bs10 : List Value} {sn10 : List Str} {sub10 : List Value} {ab10 : Bool} {col10 : Option Bool} {dd10 : Option Addr} {m010 m110 m210 m310 m510 : Option Value}
    (aM : PySem.W.nsIn K mainGlobals "_law_mixed" = some (some (.ref fM)))
    (lM : K.lookup fM = some ⟨ocM, odM, .func (PySem.W.fnOf "_law_mixed" "_law_mixed" (defArgs sMix) (defBody sMix) (defScope sMix) .none kVM dcM pmM anM cdM ctM), slM⟩)
    (dM : PySem.W.codeIn K cdM "_law_mixed" = true)
    (kM : PySem.W.keepIn K (.ref fM) = true)
    (aL : PySem.W.nsIn K mainGlobals "_law_folded" = some (some (.ref fL)))
    (lL : K.lookup fL = some ⟨ocL, odL, .func (PySem.W.fnOf "_law_folded" "_law_folded" (defArgs sFol) (defBody sFol) (defScope sFol) .none kVL dcL pmL anL cdL ctL), slL⟩)
    (dL : PySem.W.codeIn K cdL "_law_folded" = true)
    (kL : PySem.W.keepIn K (.ref fL) = true)
    (aD : PySem.W.nsIn K mainGlobals "_law_draw" = some (some (.ref fD)))
    (lD : K.lookup fD = some ⟨ocD, odD, .func (PySem.W.fnOf "_law_draw" "_law_draw" (defArgs sDra) (defBody sDra) (defScope sDra) .none kVD dcD pmD anD cdD ctD), slD⟩)
    (dD : PySem.W.codeIn K cdD "_law_draw" = true)
    (kD : PySem.W.keepIn K (.ref fD) = true)
    (aB : PySem.W.nsIn K mainGlobals "_law_begun" = some (some (.ref fB)))
    (lB : K.lookup fB = some ⟨ocB, odB, .func (PySem.W.fnOf "_law_begun" "_law_begun" (defArgs sBeg) (defBody sBeg) (defScope sBeg) .none kVB dcB pmB anB cdB ctB), slB⟩)
    (dB : PySem.W.codeIn K cdB "_law_begun" = true)
    (kB : PySem.W.keepIn K (.ref fB) = true)
    (aC : PySem.W.nsIn K mainGlobals "_law_class" = some (some (.ref fC)))
    (lC : K.lookup fC = some ⟨ocC, odC, .func (PySem.W.fnOf "_law_class" "_law_class" (defArgs sCls) (defBody sCls) (defScope sCls) .none kVC dcC pmC anC cdC ctC), slC⟩)
    (dC : PySem.W.codeIn K cdC "_law_class" = true)
    (kC : PySem.W.keepIn K (.ref fC) = true)
    (aW : PySem.W.nsIn K mainGlobals "law" = some (some (.ref fW)))
    (lW : K.lookup fW = some ⟨ocW, odW, .func (PySem.W.fnOf "law" "law" (defArgs sLaw) (defBody sLaw) (defScope sLaw) .none kVW dcW pmW anW cdW ctW), slW⟩)
    (dW : PySem.W.codeIn K cdW "law" = true)
    (kW : PySem.W.keepIn K (.ref fW) = true)
    (aNE : PySem.W.nsIn K mainGlobals "NetError" = some (some (.ref cNE)))
    (aC0 : PySem.W.nsIn K mainGlobals "BadNet" = some (some (.ref c0)))
    (aC1 : PySem.W.nsIn K mainGlobals "BadNumber" = some (some (.ref c1)))
    (aC2 : PySem.W.nsIn K mainGlobals "BadRoad" = some (some (.ref c2)))
    (aC3 : PySem.W.nsIn K mainGlobals "BadFailed" = some (some (.ref c3)))
    (aC4 : PySem.W.nsIn K mainGlobals "BadParcel" = some (some (.ref c4)))
    (aC5 : PySem.W.nsIn K mainGlobals "BadShape" = some (some (.ref c5)))
    (aC6 : PySem.W.nsIn K mainGlobals "BadGoal" = some (some (.ref c6)))
    (aC7 : PySem.W.nsIn K mainGlobals "BadPaper" = some (some (.ref c7)))
    (aC8 : PySem.W.nsIn K mainGlobals "OtherNet" = some (some (.ref c8)))
    (aC9 : PySem.W.nsIn K mainGlobals "BadEntries" = some (some (.ref c9)))
    (aC10 : PySem.W.nsIn K mainGlobals "TooGreat" = some (some (.ref c10)))
    (xL8 : K.lookup c8 = some (excClassObj nm8 q8 c8 N8 bs8 [.ref cNE, .type "ValueError", .type "Exception", .type "BaseException", .type "object"] true sn8 sub8 ab8 col8 dd8 m08 m18 m28 m38 m58 "ValueError.__new__"))
    (sa8 : PySem.W.findIn K (.ref c8) "__setattr__" = some (some (.builtin "object.__setattr__")))
    (ga8 : PySem.W.findIn K (.ref c8) "__getattribute__" = some (some (.builtin "BaseException.__getattribute__")))
    (gg8 : PySem.W.findIn K (.ref c8) "__getattr__" = some none)
    (ex8 : PySem.W.subIn K (.ref c8) (.type "BaseException") = some true)
    (kp8 : PySem.W.keepIn K (.ref c8) = true)
    (hd8 : PySem.W.hasDictIn K c8 = true)
    (ha8 : PySem.W.findIn K (.ref c8) "__class__" = some (some (.builtin "object.__class__")))
    (hm8 : PySem.W.mroIn K c8 (.type "object") = some true)
    (xL9 : K.lookup c9 = some (excClassObj nm9 q9 c9 N9 bs9 [.ref cNE, .type "ValueError", .type "Exception", .type "BaseException", .type "object"] true sn9 sub9 ab9 col9 dd9 m09 m19 m29 m39 m59 "ValueError.__new__"))
    (sa9 : PySem.W.findIn K (.ref c9) "__setattr__" = some (some (.builtin "object.__setattr__")))
    (ga9 : PySem.W.findIn K (.ref c9) "__getattribute__" = some (some (.builtin "BaseException.__getattribute__")))
    (gg9 : PySem.W.findIn K (.ref c9) "__getattr__" = some none)
    (ex9 : PySem.W.subIn K (.ref c9) (.type "BaseException") = some true)
    (kp9 : PySem.W.keepIn K (.ref c9) = true)
    (hd9 : PySem.W.hasDictIn K c9 = true)
    (ha9 : PySem.W.findIn K (.ref c9) "__class__" = some (some (.builtin "object.__class__")))
    (hm9 : PySem.W.mroIn K c9 (.type "object") = some true)
    (xL10 : K.lookup c10 = some (excClassObj nm10 q10 c10 N10 bs10 [.type "OverflowError", .type "ArithmeticError", .type "Exception", .type "BaseException", .type "object"] true sn10 sub10 ab10 col10 dd10 m010 m110 m210 m310 m510 "OverflowError.__new__"))
    (sa10 : PySem.W.findIn K (.ref c10) "__setattr__" = some (some (.builtin "object.__setattr__")))
    (ga10 : PySem.W.findIn K (.ref c10) "__getattribute__" = some (some (.builtin "BaseException.__getattribute__")))
    (gg10 : PySem.W.findIn K (.ref c10) "__getattr__" = some none)
    (ex10 : PySem.W.subIn K (.ref c10) (.type "BaseException") = some true)
    (kp10 : PySem.W.keepIn K (.ref c10) = true)
    (hd10 : PySem.W.hasDictIn K c10 = true)
    (ha10 : PySem.W.findIn K (.ref c10) "__class__" = some (some (.builtin "object.__class__")))
    (hm10 : PySem.W.mroIn K c10 (.type "object") = some true)
    (hn : PySem.W.specialIn K (.builtin "object.__class__") "__get__" = some (some (.builtin "getset_descriptor.__get__")))
    (ht : PySem.W.takesIn K (.builtin "object.__class__") = some true)
    (ai9 : PySem.W.findIn K (.ref c9) "__init__" = some (some (.ref f9)))
    (ti9 : PySem.W.typeIn K (.ref f9) = some (.type "function"))
    (l9 : K.lookup f9 = some ⟨oc9, od9, .func (PySem.W.fnOf "__init__" "BadEntries.__init__" (defArgs sInBE) (defBody sInBE) (defScope sInBE) .none kV9 dc9 pm9 an9 cd9 ct9), sl9⟩)
    (d9 : PySem.W.codeIn K cd9 "BadEntries.__init__" = true)
    (k9 : PySem.W.keepIn K (.ref f9) = true)
    (ai10 : PySem.W.findIn K (.ref c10) "__init__" = some (some (.ref f10)))
    (ti10 : PySem.W.typeIn K (.ref f10) = some (.type "function"))
    (l10 : K.lookup f10 = some ⟨oc10, od10, .func (PySem.W.fnOf "__init__" "TooGreat.__init__" (defArgs sInTG) (defBody sInTG) (defScope sInTG) .none kV10 dc10 pm10 an10 cd10 ct10), sl10⟩)
    (d10 : PySem.W.codeIn K cd10 "TooGreat.__init__" = true)
    (k10 : PySem.W.keepIn K (.ref f10) = true)
    (fr9 : PySem.W.findIn K (.ref c9) "place" = some none)
    (fr10 : PySem.W.findIn K (.ref c10) "most" = some none)
    (n8 : PySem.W.excIn K c8 [.type "ValueError", .type "Exception", .type "BaseException", .type "object"] "ValueError.__new__" = true)
    (z_int : PySem.W.nsIn K mainGlobals "int" = some none)
    (z_range : PySem.W.nsIn K mainGlobals "range" = some none)
    (z_enumerate : PySem.W.nsIn K mainGlobals "enumerate" = some none)
    (z_len : PySem.W.nsIn K mainGlobals "len" = some none)
    (z_isinstance : PySem.W.nsIn K mainGlobals "isinstance" = some none)
    (z_repr : PySem.W.nsIn K mainGlobals "repr" = some none)
    (z_ValueError : PySem.W.nsIn K mainGlobals "ValueError" = some none)
    (kt8 : Kits K c8 [c0, c1, c2, c3, c4, c5, c6, c7, c8, c9, c10] [false, false, false, false, false, false, false, false, true, false, false])
    (kt9 : Kits K c9 [c0, c1, c2, c3, c4, c5, c6, c7, c8, c9, c10] [false, false, false, false, false, false, false, false, false, true, false])
    (i8N : PySem.W.kitOne K (.ref c8) (.ref cNE) = some true)
    (i8V : PySem.W.kitOne K (.ref c8) (.type "ValueError") = some true)
    (i8T : PySem.W.kitOne K (.ref c8) (.ref c10) = some false)
    (i9N : PySem.W.kitOne K (.ref c9) (.ref cNE) = some true)
    (i9V : PySem.W.kitOne K (.ref c9) (.type "ValueError") = some true)
    (i9T : PySem.W.kitOne K (.ref c9) (.ref c10) = some false)
    (i10 : PySem.W.kitOne K (.ref c10) (.ref cNE) = some false) :
    ∃ fd : FuncData, (∀ (s : Shared) (v : Value), BindsTo s fd ⟨[v], []⟩ [("script", v)]) ∧ ∀ base : Heap, K.In base → base.Ns mainGlobals mg → FnG l.prog w K mg base CX0 3 fa fd ["script"] (spLaw K) := by
  have e := hfa.symm.trans (PySem.W.mg_of X G aW)
  cases e
  have FM := fun_mk (st := sMix) lM dM kM
  have FL := fun_mk (st := sFol) lL dL kL
  have FD := fun_mk (st := sDra) lD dD kD
  have FB := fun_mk (st := sBeg) lB dB kB
  have FC := fun_mk (st := sCls) lC dC kC
  have FW := fun_mk (st := sLaw) lW dW kW
  have F9 := fun_mk (st := sInBE) l9 d9 k9
  have F10 := fun_mk (st := sInTG) l10 d10 k10
  have X8 : XT K "ValueError" "ValueError.__new__" "ValueError.__init__" [.type "ValueError", .type "Exception", .type "BaseException", .type "object"] c8 :=
    { F := PySem.F.excBase_ValueError, SF := PySem.F.store_ValueError, te := rfl, cls := ⟨nm8, q8, N8, bs8, [cNE], sn8, sub8, ab8, col8, dd8, m08, m18, m28, m38, m58, xL8⟩, sa := sa8, ga := ga8, gg := gg8, ex := ex8, kp := kp8, hd := hd8, ha := ha8, hn := hn, ht := ht, hm := hm8 }
  have X9 : XT K "ValueError" "ValueError.__new__" "ValueError.__init__" [.type "ValueError", .type "Exception", .type "BaseException", .type "object"] c9 :=
    { F := PySem.F.excBase_ValueError, SF := PySem.F.store_ValueError, te := rfl, cls := ⟨nm9, q9, N9, bs9, [cNE], sn9, sub9, ab9, col9, dd9, m09, m19, m29, m39, m59, xL9⟩, sa := sa9, ga := ga9, gg := gg9, ex := ex9, kp := kp9, hd := hd9, ha := ha9, hn := hn, ht := ht, hm := hm9 }
  have X10 : XT K "OverflowError" "OverflowError.__new__" "OverflowError.__init__" [.type "OverflowError", .type "ArithmeticError", .type "Exception", .type "BaseException", .type "object"] c10 :=
    { F := PySem.F.excBase_OverflowError, SF := PySem.F.store_OverflowError, te := rfl, cls := ⟨nm10, q10, N10, bs10, [], sn10, sub10, ab10, col10, dd10, m010, m110, m210, m310, m510, xL10⟩, sa := sa10, ga := ga10, gg := gg10, ex := ex10, kp := kp10, hd := hd10, ha := ha10, hn := hn, ht := ht, hm := hm10 }
  have T : Tx mg := ⟨PySem.W.mg_none_of X G z_int, PySem.W.mg_none_of X G z_range, PySem.W.mg_none_of X G z_enumerate, PySem.W.mg_none_of X G z_len⟩
  have TD : TxD K mg fM := { toTx := T, gM := PySem.W.mg_of X G aM, kM := kM }
  have TK : Kl mg c0 c1 c2 c3 c4 c5 c6 c7 c8 c9 c10 := ⟨PySem.W.mg_none_of X G z_isinstance, PySem.W.mg_none_of X G z_len, PySem.W.mg_of X G aC0, PySem.W.mg_of X G aC1, PySem.W.mg_of X G aC2, PySem.W.mg_of X G aC3, PySem.W.mg_of X G aC4, PySem.W.mg_of X G aC5, PySem.W.mg_of X G aC6, PySem.W.mg_of X G aC7, PySem.W.mg_of X G aC8, PySem.W.mg_of X G aC9, PySem.W.mg_of X G aC10⟩
  have bM := FM.binds (ps := ["cell", "n"]) fun _ _ _ _ _ _ us hl => match us, hl with | [_, _], _ => rfl
  have bL := FL.binds (ps := ["script"]) fun _ _ _ _ _ _ us hl => match us, hl with | [_], _ => rfl
  have bD := FD.binds (ps := ["m", "limit"]) fun _ _ _ _ _ _ us hl => match us, hl with | [_, _], _ => rfl
  have bB := FB.binds (ps := ["script"]) fun _ _ _ _ _ _ us hl => match us, hl with | [_], _ => rfl
  have bC := FC.binds (ps := ["error"]) fun _ _ _ _ _ _ us hl => match us, hl with | [_], _ => rfl
  have b9 := F9.binds (ps := ["self", "place"]) fun _ _ _ _ _ _ us hl => match us, hl with | [_, _], _ => rfl
  have b10 := F10.binds (ps := ["self", "most"]) fun _ _ _ _ _ _ us hl => match us, hl with | [_, _], _ => rfl
  have w9 := Fun.kwb (ps := ["self", "place"]) (ks := ["place"]) F9 fun _ _ _ _ _ _ a zs hl => match zs, hl with | [_], _ => rfl
  have w10 := Fun.kwb (ps := ["self", "most"]) (ks := ["most"]) F10 fun _ _ _ _ _ _ a zs hl => match zs, hl with | [_], _ => rfl
  refine ⟨_, ?_, fun base _ _ => ok_law (P := l.prog) (w := w) (base := base) (cNE := cNE) (c8 := c8) (c9 := c9) (c10 := c10) FW
    { isi := PySem.W.mg_none_of X G z_isinstance, rep := PySem.W.mg_none_of X G z_repr, ve := PySem.W.mg_none_of X G z_ValueError, gNE := PySem.W.mg_of X G aNE, gB := PySem.W.mg_of X G aB, kB := kB, bB := bB, gD := PySem.W.mg_of X G aD, kD := kD, bD := bD,
      gC := PySem.W.mg_of X G aC, kC := kC, bC := bC, x8 := X8, g8 := PySem.W.mg_of X G aC8, n8 := n8, o9 := ⟨X9, PySem.W.mg_of X G aC9, ai9, ti9, fr9, b9⟩, w9 := w9, o10 := ⟨X10, PySem.W.mg_of X G aC10, ai10, ti10, fr10, b10⟩, w10 := w10, g10 := PySem.W.mg_of X G aC10,
      i8N := i8N, i8V := i8V, i8T := i8T, i9N := i9N, i9V := i9V, i9T := i9T, i10 := i10 }
    (ok_beg FB T (PySem.W.mg_of X G aL) kL FL bL) (ok_dra FD TD FM bM) (ok_cls FC TK X8 X9 fr9 kt8 kt9) (ok_inBE F9 X9 fr9) (ok_inTG F10 X10 fr10)⟩
  exact fun s v => .of_eq rfl
end Lr
open PySem PySem.W PyProof.Rows
set_option maxRecDepth 100000 in
set_option maxHeartbeats 0 in
theorem PySem.Challenge.cw_labelroads_k78_exceptions_of_the_second_holds : PySem.Challenge.rw_labelroads_k78_exceptions_of_the_second.Holds := by
  w_on; o_law; k_head; (case hw => w_witness2)
  k_fill
  refine L2.walk_ofG (l := PySem.Challenge.rw_labelroads_k78_exceptions_of_the_second) (n := 63) (k := 3) (x := "script") (sp := Lr.spLaw) rfl (by decide) rfl ⟨rfl, by decide, by decide⟩ (fun w h Y => PySem.W.kIn_of Y) ?F (fun _ _ a ns hl _ hS => ⟨a, ns, rfl, hS, hl, fun _ => rfl⟩)
  case F =>
    intro w mg fa h KX G hmg
    refine' Lr.all_mk KX G hmg ?aM ?lM ?dM ?kM ?aL ?lL ?dL ?kL ?aD ?lD ?dD ?kD ?aB ?lB ?dB ?kB ?aC ?lC ?dC ?kC ?aW ?lW ?dW ?kW ?aNE ?aC0 ?aC1 ?aC2 ?aC3 ?aC4 ?aC5 ?aC6 ?aC7 ?aC8 ?aC9 ?aC10 ?xL8 ?sa8 ?ga8 ?gg8 ?ex8 ?kp8 ?hd8 ?ha8 ?hm8 ?xL9 ?sa9 ?ga9 ?gg9 ?ex9 ?kp9 ?hd9 ?ha9 ?hm9 ?xL10 ?sa10 ?ga10 ?gg10 ?ex10 ?kp10 ?hd10 ?ha10 ?hm10 ?hn ?ht ?ai9 ?ti9 ?l9 ?d9 ?k9 ?ai10 ?ti10 ?l10 ?d10 ?k10 ?fr9 ?fr10 ?n8 ?z_int ?z_range ?z_enumerate ?z_len ?z_isinstance ?z_repr ?z_ValueError ?kt8 ?kt9 ?i8N ?i8V ?i8T ?i9N ?i9V ?i9T ?i10
    (case aM => k_is)
    (case lM => k_is)
    (case dM => k_is)
    (case kM => k_is)
    (case aL => k_is)
    (case lL => k_is)
    (case dL => k_is)
    (case kL => k_is)
    (case aD => k_is)
    (case lD => k_is)
    (case dD => k_is)
    (case kD => k_is)
    (case aB => k_is)
    (case lB => k_is)
    (case dB => k_is)
    (case kB => k_is)
    (case aC => k_is)
    (case lC => k_is)
    (case dC => k_is)
    (case kC => k_is)
    (case aW => k_is)
    (case lW => k_is)
    (case dW => k_is)
    (case kW => k_is)
    (case aNE => k_is)
    (case aC0 => k_is)
    (case aC1 => k_is)
    (case aC2 => k_is)
    (case aC3 => k_is)
    (case aC4 => k_is)
    (case aC5 => k_is)
    (case aC6 => k_is)
    (case aC7 => k_is)
    (case aC8 => k_is)
    (case aC9 => k_is)
    (case aC10 => k_is)
    (case xL8 => k_is)
    (case sa8 => k_is)
    (case ga8 => k_is)
    (case gg8 => k_is)
    (case ex8 => k_is)
    (case kp8 => k_is)
    (case hd8 => k_is)
    (case ha8 => k_is)
    (case hm8 => k_is)
    (case xL9 => k_is)
    (case sa9 => k_is)
    (case ga9 => k_is)
    (case gg9 => k_is)
    (case ex9 => k_is)
    (case kp9 => k_is)
    (case hd9 => k_is)
    (case ha9 => k_is)
    (case hm9 => k_is)
    (case xL10 => k_is)
    (case sa10 => k_is)
    (case ga10 => k_is)
    (case gg10 => k_is)
    (case ex10 => k_is)
    (case kp10 => k_is)
    (case hd10 => k_is)
    (case ha10 => k_is)
    (case hm10 => k_is)
    (case hn => k_is)
    (case ht => k_is)
    (case ai9 => k_is)
    (case ti9 => k_is)
    (case l9 => k_is)
    (case d9 => k_is)
    (case k9 => k_is)
    (case ai10 => k_is)
    (case ti10 => k_is)
    (case l10 => k_is)
    (case d10 => k_is)
    (case k10 => k_is)
    (case fr9 => k_is)
    (case fr10 => k_is)
    (case n8 => k_exc)
    (case z_int => k_is)
    (case z_range => k_is)
    (case z_enumerate => k_is)
    (case z_len => k_is)
    (case z_isinstance => k_is)
    (case z_repr => k_is)
    (case z_ValueError => k_is)
    (case kt8 => (unfold Lr.Kits; kernel_rfl))
    (case kt9 => (unfold Lr.Kits; kernel_rfl))
    (case i8N => kernel_rfl)
    (case i8V => kernel_rfl)
    (case i8T => kernel_rfl)
    (case i9N => kernel_rfl)
    (case i9V => kernel_rfl)
    (case i9T => kernel_rfl)
    (case i10 => kernel_rfl)
#print axioms PySem.Challenge.cw_labelroads_k78_exceptions_of_the_second_holds
