import PyProof.Rows.All
import Wide.All
import OpenK.AllK
import Wide.FinOn
import HandS.ForMost
import HandS.ExcInit
import HandS.ExcIs
import HandS.ExcField
import HandS.IsInst
import KE.GoesMore
import KE.SortData
import HandS.Walk
import HandS.Conv
import HandS.TupAny
import PyProof.CollectStr
import HandS.Flow
import HandS.Star
import HandS.DictComp
import HandS.NoneIn
import HandS.CallRecv
import PySem.Challenge.RW_switchhills_k04_whole_squares_of_boards
set_option Elab.async false
set_option linter.all false
set_option maxRecDepth 100000
set_option maxHeartbeats 4000000
/-! A def that is called where no repr is under way; repr of data. -/
namespace Sw
open PySem PySem.Spec PyProof.Rows L2

abbrev Free0 (A : Around) : Prop := A.guards = some []

/-- as FnOk, for callers around which no guard stands -/
structure FnG (P : Program) (w : World) (K : PySem.W.Frag) (mg : Str → Option Value) (base : Heap)
    (k : Nat) (f : Addr) (fd : FuncData) (ps : List Str) (sp : Sp) : Prop where
  ln : ∀ vs H Q E, sp vs H Q E → vs.length = ps.length
  go : ∀ (A : Around) (outer : List Env) (s : Shared) (H : Hp) (args : Args) (us : List Value) (vs : List V)
    (Q : VK) (E : XK), Room k A → Free0 A → Env0 P w K mg base A outer s H →
    BindsTo s fd args (ps.zip us) → Vals vs us → sp vs H Q E →
    codeAny (model P w) A (.call (.ref f) args) (CR CX0 outer P w H s Q E) s

section
variable {P : Program} {w : World} {K : PySem.W.Frag} {mg : Str → Option Value} {base : Heap}

theorem FnG.of {k : Nat} {f : Addr} {fd : FuncData} {ps : List Str} {sp : Sp}
    (F : FnOk P w K mg base CX0 k f fd ps sp) : FnG P w K mg base k f fd ps sp :=
  ⟨F.len, fun A outer s H args us vs Q E hr _ he hb hv hs => F.run A outer s H args us vs Q E hr he hb hv hs⟩

theorem okG {x qual : Str} {st : Stmt} {f : Addr} {fd : FuncData} {N ps : List Str} {k : Nat} {sp : Sp}
    (F : Fun K x qual st f fd) (S : FnScope N ps (defScope st))
    (ln : ∀ vs H Q E, sp vs H Q E → vs.length = ps.length)
    (body : ∀ (cdv : Value) (A : Around) (outer : List Env) (s : Shared) (H : Hp) (vs : List V) (Q : VK) (E : XK),
      Room k (A.deeper (envOfC qual (defScope st) s.heap.objs.size f cdv)) →
      Free0 (A.deeper (envOfC qual (defScope st) s.heap.objs.size f cdv)) → sp vs H Q E →
      ∃ t, PSs (cxOf CX0 P w K mg base N qual (defScope st) f cdv A outer s H E).nox (defBody st) t ∧
        t { nx := fun _ H' => Q .non H', rt := Q } (start N vs) H) :
    FnG P w K mg base (k + 1) f fd ps sp := by
  obtain ⟨oc, od, kV, doc, pm, an, cdv, ct, osl, hfd, lk, hcd⟩ := F.ex
  subst hfd
  constructor
  · exact ln
  · intro A outer s H args us vs Q E room free e0 bnd rel want
    have inHeap : K.In s.heap := e0.mod.kin.keeps fun b o z => (e0.bs b o z).1
    have noLim : s.heap.NoLimit := e0.mod.nolimit.keeps fun b o z => (e0.bs b o z).1
    refine codeAny_call_function room.depth (inHeap _ _ lk) rfl S.co S.gen rfl
      (PySem.W.codeRec_of inHeap hcd) (bnd _ _ _ _ ?_)
    refine wpAny_newFunctionEnv_cells S.kind (fun z hz => ?_) fun env hen s1 x => ?_
    · have hz1 := (List.of_mem_zip (a := z.1) (b := z.2) hz).1
      rcases S.par z.1 hz1 with q | q
      · left; exact q
      · right; exact ⟨q, PySem.W.cellsFrom_some _ _ _ (.inl q)⟩
    · subst hen
      refine ⟨noLim.keeps x.toInCall.keep, codeAny_func ?_⟩
      obtain ⟨t, ht, hq⟩ := body cdv A outer s H vs Q E (room.deeper _) free want
      have J := inv_start (CX := CX0) (P := P) (w := w) (K := K) (mg := mg) (base := base) (E := E)
        S room.hd e0 (ln _ _ _ _ want) rel x
      refine wpAny_mono (ht.nox.run [] s1 (start N vs) H _ J hq) ?_ fun _ _ z => z
      intro fl s' hs
      cases fl with
      | brk => obtain ⟨_, _, _, z⟩ := hs; exact False.elim z
      | cont => obtain ⟨_, _, _, z⟩ := hs; exact False.elim z
      | next =>
        obtain ⟨σ', H', J', z⟩ := hs
        exact ⟨.non, H', J'.os, J'.bare, J'.base, J'.hok, rfl, z⟩
      | ret u =>
        obtain ⟨v, σ', H', J', rv, z⟩ := hs
        exact ⟨v, H', J'.os, J'.bare, J'.base, J'.hok, rv, z⟩
end

section
variable {X : Cx} {k : Nat} {f : Addr} {fd : FuncData} {ps : List Str} {sp : Sp} {dvs : List V} {ds : List Value}
  {x : Str} {p pos : Pos} {e : Expr} {es : List Expr} {t : TA}

/-- a call of such a def -/
theorem pe_callG (G : FnG X.prog X.w X.K X.mg X.base k f fd ps sp) (hr : Room k X.A) (fr : Free0 X.A) (hg : Gl X x)
    (hm : X.mg x = some (.ref f)) (hk : PySem.W.keepIn X.K (.ref f) = true) (hb : Binds X.K fd ps ds)
    (hd : Vals dvs ds) (ha : PA X (e :: es) t) (hdb : (x == ("__debug__" : Str)) = false := by decide)
    (he : starEach (e :: es) X.env = (false, eval e X.env) :: starEach es X.env := by rfl)
    (hpl : (backTo pos (starEach es X.env)).any (·.1) = false := by rfl) :
    PE X (.Call (.Name x p) (e :: es) [] pos) (tCall sp dvs E0 t) := by
  constructor
  intro pins s σ H Q I h
  refine wpAny_Call_Name_kw (ld_glob I hg hm ?_ hdb)
  refine PySem.W.callWith_K (h₀ := X.base) I.ok.mod.kin hk ?_ he hpl
  refine thn (ha.run pos pins s σ H _ I h) ?_
  intro us s1 hs
  obtain ⟨vs, H1, I1, r, q⟩ := hs
  refine ⟨I1.kIn, ?_⟩
  have rr : Vals (vs ++ dvs) (us ++ ds) := r.append hd
  have ll : (us ++ ds).length = ps.length := rr.length.symm.trans (G.ln _ _ _ _ q)
  have run := G.go X.A X.stack s1 H1 ⟨us, []⟩ (us ++ ds) (vs ++ dvs) Q E0 hr fr I1.env0 (hb s1 us I1.kIn ll) rr q
  refine wpAny_call (codeAny_mono run ?_)
  intro res s' z
  cases res with
  | error er => exact False.elim z
  | ok fl =>
    cases fl with
    | ret u => exact I1.after z
    | next => exact False.elim z
    | brk => exact False.elim z
    | cont => exact False.elim z
end

/-! ### what can be read as data: Dp, or a dict at the top -/
section
variable {X : Cx} {pins : List (Addr × Obj)} {σ : L2.St} {H : Hp} {s : Shared}

inductive Dx (K : PySem.W.Frag) (H : Hp) : V → PyData → Prop
  | flat {v : V} {d : PyData} : Dp K H v d → Dx K H v d
  | dct {a : Addr} {kvs : List (Str × Int)} :
      H a = some (.dK (kvs.map fun p => (Sum.inr p.1, V.int p.2))) →
      Dx K H (.ref a) (.dict (kvs.map fun p => (.str p.1, .int p.2)))

theorem dct_reads {h : Heap} {prog : Program} {w : World} : ∀ (kvs : List (Str × Int)) (es : List DictEntry)
    (vs : List (Key × Value)), KV (kvs.map fun p => ((Sum.inr p.1 : Key), V.int p.2)) vs →
    Pairs (mixKind prog w) es vs →
    ∃ as bs, ReadsAll h (es.map (·.key)) (kvs.map fun p => PyData.str p.1) as ∧ as = [] ∧
      ReadsAll h (es.map (·.val)) (kvs.map fun p => PyData.int p.2) bs ∧ bs = []
  | [], es, vs, kv, ps => by
    cases kv
    cases ps
    exact ⟨_, _, .nil, rfl, .nil, rfl⟩
  | p :: kvs, es, vs, kv, ps => by
    cases kv with
    | cons h1 h2 =>
      cases ps with
      | cons q1 q2 q3 =>
        obtain ⟨as, bs, r1, e1, r2, e2⟩ := dct_reads (h := h) kvs _ _ h2 q3
        obtain ⟨hk, t, hv⟩ := h1
        rename_i b l2 e es'
        obtain ⟨hash, key, val⟩ := e
        have hk0 : (Sum.inr p.1 : Key) = b.1 := hk
        have hk' : keyIs (Sum.inr p.1) key = true := by rw [hk0]; exact q1
        obtain ⟨t2, et⟩ := Value.isStrOf_shape (x := p.1) (v := key) hk'
        have ev : val = Value.int p.2 t := q2.trans hv
        subst et ev e1 e2
        exact ⟨_, _, .cons (.str p.1 t2) r1, rfl, .cons (.int p.2 t) r2, rfl⟩

/-- what the rule of repr asks -/
def rRepr (K : PySem.W.Frag) : List V → Hp → VK → Prop := fun xs H Q =>
  ∃ v d, xs = [v] ∧ Dx K H v d ∧ d.showable = true ∧ d.shown.length ≤ sizeLine ∧ d.depth ≤ 60 ∧ Q (.str d.shown) H

theorem map_fst_dct (kvs : List (Str × Int)) :
    ((kvs.map fun p => (PyData.str p.1, PyData.int p.2)).map (·.1)) = kvs.map fun p => PyData.str p.1 := by
  rw [List.map_map]; rfl
theorem map_snd_dct (kvs : List (Str × Int)) :
    ((kvs.map fun p => (PyData.str p.1, PyData.int p.2)).map (·.2)) = kvs.map fun p => PyData.int p.2 := by
  rw [List.map_map]; rfl

mutual
theorem dp_nodict {K : PySem.W.Frag} : ∀ (d : PyData) (v : V), Dp K H v d → d.hasDict = false
  | .none, _, _ => rfl
  | .bool _, _, _ => rfl
  | .int _, _, _ => rfl
  | .str _, _, _ => rfl
  | .list ds, _, h => by
    cases h with
    | lst _ hd => simp only [PyData.hasDict]; exact dpAll_nodict ds _ hd
  | .tuple ds, _, h => by
    cases h with
    | tup _ hd => simp only [PyData.hasDict]; exact dpAll_nodict ds _ hd
  | .dict _, _, h => by cases h
theorem dpAll_nodict {K : PySem.W.Frag} : ∀ (ds : List PyData) (vs : List V), DpAll K H vs ds → PyData.hasDictAll ds = false
  | [], _, _ => rfl
  | d :: ds, _, h => by
    cases h with
    | cons a b => simp only [PyData.hasDictAll, dp_nodict d _ a, dpAll_nodict ds _ b, Bool.or_false]
end

theorem Dx.ref (I : Inv X pins σ H s) {a : Addr} {d : PyData} (h : Dx X.K H (.ref a) d) :
    ∃ as, Reads s.heap (.ref a) d as ∧ (d.hasDict = true → sysModules ∉ as) := by
  cases h with
  | flat h =>
    obtain ⟨as, r⟩ := Dp.reads I d _ _ h rfl
    refine ⟨as, r, fun z => ?_⟩
    rw [dp_nodict d _ h] at z
    cases z
  | @dct _ kvs ea =>
    have ok : ObjOk X.prog X.w H s.heap a (.dK (kvs.map fun p => (Sum.inr p.1, V.int p.2))) := I.hok a _ ea
    obtain ⟨_, ns, vs, kv, o, es, ep, ho, ex, hd, _, ps, _⟩ := ok
    obtain ⟨as, bs, r1, e1, r2, e2⟩ := dct_reads (h := s.heap) kvs _ _ kv ps
    subst e1 e2
    refine ⟨a :: ([] : List Addr) ++ ([] : List Addr), Reads.dict ho ex.1 hd ?_ ?_, fun _ z => ?_⟩
    · rw [map_fst_dct]; exact r1
    · rw [map_snd_dct]; exact r2
    · have z' : sysModules ∈ ([a] : List Addr) := z
      rw [List.mem_singleton.mp z'] at ns
      exact absurd ns (by simp)

/-- repr(v), v data, where no repr is under way -/
theorem call_repr (fr : Free0 X.A) (hu : X.A.units + 64 < cLine) : CallR X (.builtin "repr") (rRepr X.K) := by
  intro pins s σ H xs us Q I r h
  obtain ⟨v, d, rfl, hd, hs, hz, hp, q⟩ := h
  obtain ⟨u, rfl, ru⟩ := vals1 r
  have fin : ∀ (h' : Heap) (t tk : Tok), (∀ b o, s.heap.get? b = some o → h'.get? b = some o) →
      EP X pins σ Q (.str d.shown t) { s with heap := h', toks := tk } :=
    fun h' t tk hk => ⟨.str d.shown, H, I.kept (t' := tk) hk, ⟨t, rfl⟩, q⟩
  have same : ∀ (t tk : Tok), EP X pins σ Q (.str d.shown t) { s with toks := tk } :=
    fun t tk => fin s.heap t tk fun _ _ z => z
  cases v with
  | ref a =>
    cases ru
    obtain ⟨as, rd, nm⟩ := hd.ref I
    exact repr_of_reads' rd hs nm fr (by omega) (fun _ _ z => z) (fun h' t tk hk => fin h' t tk hk) hz
  | non =>
    cases hd with
    | flat hd =>
      cases hd
      cases ru
      refine PySem.P.repr_of_none ?_
      exact same _ _
  | bl b =>
    cases hd with
    | flat hd =>
      cases hd
      cases ru
      refine PySem.P.repr_of_bool ?_
      have e := same s.toks (s.toks + 1)
      simp only [PyData.shown] at e
      cases b <;> exact e
  | int i =>
    cases hd with
    | flat hd =>
      cases hd
      obtain ⟨t, rfl⟩ := ru
      refine PySem.P.repr_of_int (by simpa [PyData.showable] using hs) ?_
      have e := same s.toks (s.toks + 1)
      simp only [PyData.shown] at e
      exact e
  | str x =>
    cases hd with
    | flat hd =>
      cases hd
      obtain ⟨t, rfl⟩ := ru
      simp only [PyData.shown] at hz
      refine PySem.P.repr_of_str ?_ hz
      have e := same s.toks (s.toks + 1)
      simp only [PyData.shown] at e
      exact e
  | byt b => cases hd with | flat hd => cases hd
  | flt b => cases hd with | flat hd => cases hd
  | ty n => cases hd with | flat hd => cases hd
end
end Sw

set_option Elab.async false
set_option linter.all false
set_option maxRecDepth 100000
set_option maxHeartbeats 4000000
/-! The end of a law whose def is called where no guard stands. -/
namespace Sw
open PySem PySem.Spec PyProof.Rows L2

theorem endG {P : Program} {w : World} {K : PySem.W.Frag} {mg mb : Str → Option Value} {k : Nat} {fa a : Addr} {fd : FuncData} {x : Str} {sp : Sp}
    {st : Shared} {vs : List Value} {ns : List Int} (KX : K.In st.heap) (gl : st.heap.Ns mainGlobals mg) (bl : st.heap.Ns builtinsNs mb)
    (bb : ∀ x : Str, x ≠ "__name__" → mb x = bootBuiltins x) (lim : st.heap.NoLimit) (gens : st.gens = #[])
    (obj : st.heap.get? a = some { cls := .type "list", data := .seq vs.toArray }) (areInts : IntsAre vs ns) (small : ns.length ≤ sizeLine) (hr : Room k callerA)
    (F : ∀ base : Heap, K.In base → base.Ns mainGlobals mg → FnG P w K mg base k fa fd [x] sp)
    (bind : ∀ (s : Shared) (u : Value), BindsTo s fd ⟨[u], []⟩ [(x, u)])
    (want : ∀ H : Hp, Only H → SqL K H a (ns.map V.int) → sp [.ref a] H (fun v _ => v = .bl true) E0) :
    codeAny (model P w) callerA (.call (.ref fa) ⟨[.ref a], []⟩)
      (fun r s' => r = .ok (.ret (.bool true)) ∧ OldK st.heap s'.heap ∧ s'.os = st.os ∧ AllBare s'.gens) st := by
  have rel := vals_ints areInts
  have count := areInts.length
  have main : ∀ H : Hp, Only H → SqL K H a (ns.map V.int) → HOk P w H st.heap → (∀ b, H b ≠ none → b = a) → (H a ≠ none → K.lookup a = none) →
      codeAny (model P w) callerA (.call (.ref fa) ⟨[.ref a], []⟩)
        (fun r s' => r = .ok (.ret (.bool true)) ∧ OldK st.heap s'.heap ∧ s'.os = st.os ∧ AllBare s'.gens) st := by
    intro H only seq ok alone notK
    have isA : ∀ {b : Addr} {u : HO}, H b = some u → b = a := fun {b u} z => alone b (by rw [z]; simp)
    have dictFree : ∀ {b : Addr} {o : Obj} {es : Array DictEntry} {ep : Nat}, st.heap.get? b = some o → o.data = .dict es ep → H b = none := by
      intro b o es ep z dz
      cases q : H b with
      | none => rfl
      | some u =>
        obtain rfl := isA q
        rw [obj] at z
        cases z
        cases dz
    have ns2 : ∀ {b : Addr} {m : Str → Option Value}, st.heap.Ns b m → (hidT st.heap H).Ns b m := by
      rintro b m ⟨o, es, ep, z, dz, r⟩
      exact ⟨o, es, ep, hidT_get z (dictFree z dz), dz, r⟩
    have KB : K.In (hidT st.heap H) := by
      intro b o z
      refine hidT_get (KX b o z) ?_
      cases q : H b with
      | none => rfl
      | some u =>
        obtain rfl := isA q
        rw [notK (by rw [q]; simp)] at z
        cases z
    have md : Mod K mg (hidT st.heap H) := ⟨KB, ns2 gl, ⟨mb, ns2 bl, bb⟩, let ⟨mc, z1, z2⟩ := lim; ⟨mc, ns2 z1, z2⟩⟩
    have e0 : Env0 P w K mg (hidT st.heap H) callerA [] st H :=
      ⟨rfl, md, fun b o z => of_hidT z, Nat.le_of_eq (hidT_size _ _), trivial, fun b z => absurd (show b ∈ ([] : List Addr) from z) (by simp), ok, .of_eq gens⟩
    have run := (F _ KB (ns2 gl)).go callerA [] st H ⟨[.ref a], []⟩ [.ref a] [.ref a] _ E0 hr rfl e0 (bind st (.ref a)) (.cons rfl .nil) (want H only seq)
    refine codeAny_mono run ?_
    intro r s' z
    cases r with
    | error e => exact False.elim z
    | ok fl =>
      cases fl with
      | next => exact False.elim z
      | brk => exact False.elim z
      | cont => exact False.elim z
      | ret u =>
        obtain ⟨v, H', os, bare, un, ok', rv, ev⟩ := z
        have ev : v = .bl true := ev
        subst ev
        obtain rfl : u = Value.bool true := rv
        refine ⟨rfl, OldK.of_keep ?_, os, bare⟩
        intro b o z
        cases q : H b with
        | none => exact un.keep b o z q (fun y => absurd (show b ∈ ([] : List Addr) from y) (by simp)) (by simp)
        | some u =>
          rcases only b with y | ⟨ob, xs, y⟩
          · rw [q] at y
            cases y
          · obtain ⟨w1, _⟩ := ok b _ y
            obtain ⟨w2, _⟩ := ok' b _ (un.frzs b ob _ y)
            rw [z] at w1
            cases w1
            exact w2
  cases q : K.lookup a with
  | some o =>
    have z := KX a o q
    rw [obj] at z
    cases z
    refine main (fun _ => none) (fun _ => .inl rfl) (.inr ⟨_, vs.toArray, _, q, rfl, rfl, rfl, by rw [List.size_toArray, count]; exact small, by simpa using rel⟩) ?_ (fun b y => absurd rfl y) (fun y => absurd rfl y)
    intro b u y
    cases (show (none : Option HO) = some u from y)
  | none =>
    let H0 : Hp := fun b => if b = a then some (.frz { cls := .type "list", data := .seq vs.toArray } (.lst (ns.map V.int))) else none
    have at0 : H0 a = some (.frz { cls := .type "list", data := .seq vs.toArray } (.lst (ns.map V.int))) := if_pos rfl
    have off0 : ∀ b, b ≠ a → H0 b = none := fun b hb => if_neg hb
    refine main H0 (fun b => ?_) (.inl (.inr ⟨_, at0⟩)) (fun b u y => ?_) (fun b y => ?_) (fun _ => q)
    · by_cases hb : b = a
      · subst hb
        exact .inr ⟨_, _, at0⟩
      · exact .inl (off0 b hb)
    · by_cases hb : b = a
      · subst hb
        rw [at0] at y
        cases y
        exact ⟨obj, by rw [List.length_map]; exact small, vs, _, rel, obj⟩
      · rw [off0 b hb] at y
        cases y
    · by_cases hb : b = a
      · exact hb
      · exact absurd (off0 b hb) y

/-- the goal that k_head leaves, from the law's promise -/
theorem walkG {l : PySem.W.OpenLaw} {n k : Nat} {q : Program} {loose : List Str} {XP : (Str → Option Value) → Heap → Prop} {YP : World → Heap → Prop} {d : DefRec}
    {K : Params → PySem.W.Frag} {sp : World → Sp} {x : Str} (hn : l.most = some n) (hn2 : n ≤ sizeLine) (hdf : d.params.defaults = []) (hr : Room k callerA)
    (hY : ∀ (w : World) (h : Heap), YP w h → (K w.params).In h)
    (F : ∀ (w : World) (mg : Str → Option Value) (fa : Addr) (h : Heap), (K w.params).In h → h.Ns mainGlobals mg → mg d.name = some (.ref fa) →
      ∃ fd : FuncData, (∀ (s : Shared) (u : Value), BindsTo s fd ⟨[u], []⟩ [(x, u)]) ∧
        ∀ base : Heap, (K w.params).In base → base.Ns mainGlobals mg → FnG l.prog w (K w.params) mg base k fa fd [x] (sp w))
    (want : ∀ (w : World) (H : Hp) (a : Addr) (ns : List Int), ns.length ≤ n → Only H → SqL (K w.params) H a (ns.map V.int) → sp w [.ref a] H (fun v _ => v = .bl true) E0) :
    PySem.W.WalkO q loose XP YP l.row.toRowW d [] (fun f vs => PySem.call f vs) := by
  refine Att.attach_call hn hdf ?_
  intro w s0 s1 mg mb fa o pm cd doc a vs ns G Y ho hd hcd hmg obj areInts len gens
  obtain ⟨fd, bind, hF⟩ := F w mg fa _ (hY w _ Y) G.T.g hmg
  exact endG (hY w _ Y) G.T.g G.T.b G.T.builtins G.T.nolimit gens obj areInts (Nat.le_trans len hn2) hr hF bind (fun H hO hS => want w H a ns len hO hS)
end Sw

set_option Elab.async false
set_option linter.all false
set_option maxRecDepth 100000
set_option maxHeartbeats 4000000
/-! enumerate over a tuple; sorted of data. -/
namespace Sw
open PySem PySem.Spec PyProof.Rows L2

theorem meets_enumerate_newT (l : Addr) (items : Array Value) (n : Nat) (dct : Option Addr) (sl : Array (Option Value)) :
    Meets (Builtin.«enumerate.__new__» ⟨[.type "enumerate", .ref l], []⟩) (fun _ R s => s.heap.get? l = some { cls := .type "tuple", dict := dct, data := .seq items n, slots := sl } ∧
      R (.ok (.ret (.ref (s.heap.push { cls := .type "tuple_iterator", data := .fields #[.ref l, .int 0 0] }).objs.size)))
        { s with heap := (s.heap.push { cls := .type "tuple_iterator", data := .fields #[.ref l, .int 0 0] }).push { cls := .type "enumerate", data := .fields #[.none, .bool false, .ref s.heap.objs.size, rawInt 0, .none, .none] } }) :=
  .of_wp fun prog w A R s h => by
    obtain ⟨hp, g, d, tk, os⟩ := s; obtain ⟨hl, h⟩ := h
    have hsub := sub_enumerate
    have hL : Heap.IsTuple (Shared.heap ⟨hp, g, d, tk, os⟩) l items := ⟨_, hl, rfl, n, rfl⟩
    wp_walk using wpAny_loadPart' hl
    refine wpAny_stack_any fun st => wpAny_pure ?_
    split
    · rename_i c _ _ _ _ _
      cases (c == Value.type "enumerate")
      · wp_walk using wpAny_loadPart' hl, wpAny_pyIter_tuple hL
        exact ⟨_, rfl, h⟩
      · wp_walk using wpAny_loadPart' hl, wpAny_pyIter_tuple hL
        exact ⟨_, rfl, h⟩
    · wp_walk using wpAny_loadPart' hl, wpAny_pyIter_tuple hL
      exact ⟨_, rfl, h⟩

section
variable {prog : Program} {w : World} {A : Around} {E : Value → Shared → Prop} {s : Shared}
theorem call_enumerate_tup {l : Addr} {items : Array Value} {Q : Value → Shared → Prop}
    (hL : s.heap.IsTuple l items)
    (h : ∀ h', IsEnum h' (s.heap.objs.size + 1) s.heap.objs.size 0 .none → h'.IsTupleIter s.heap.objs.size l 0 → h'.objs.size = s.heap.objs.size + 2 →
      (∀ b o, s.heap.get? b = some o → h'.get? b = some o) → Q (.ref (s.heap.objs.size + 1)) { s with heap := h' }) :
    wpAny (model prog w) A (call (.type "enumerate") [.ref l]) Q E s := by
  obtain ⟨⟨cl, dct, dat, sl⟩, hl, hc, n, hd⟩ := hL
  cases hc
  cases hd
  refine callType_new F.called_enumerate (by decide) (F.typeCall_enumerate_1 _) (F.newCall_enumerate_1 _) (fun obj => F.args_object_init_2 obj _) F.entry_enumerate_new
    (meets_enumerate_newT l items n dct sl) ⟨hl, ?_⟩
  have hz : (s.heap.push { cls := .type "tuple_iterator", data := .fields #[.ref l, .int 0 0] }).objs.size = s.heap.objs.size + 1 := Heap.size_push ..
  show _ ∧ _
  rw [hz]
  have he : IsEnum ((s.heap.push { cls := .type "tuple_iterator", data := .fields #[.ref l, .int 0 0] }).push
      { cls := .type "enumerate", data := .fields #[.none, .bool false, .ref s.heap.objs.size, rawInt 0, .none, .none] }) (s.heap.objs.size + 1) s.heap.objs.size 0 .none := by
    have := Heap.get?_push_size (s.heap.push { cls := .type "tuple_iterator", data := .fields #[.ref l, .int 0 0] })
      (o := { cls := .type "enumerate", data := .fields #[.none, .bool false, .ref s.heap.objs.size, rawInt 0, .none, .none] }) rfl
    rw [hz] at this; exact this
  refine ⟨⟨_, he, rfl⟩, h _ he ⟨_, Heap.get?_push_of_some _ (Heap.get?_push_size _ rfl), rfl, rfl⟩ (by rw [Heap.size_push, hz]) fun b o x => Heap.get?_push_of_some _ (Heap.get?_push_of_some _ x)⟩
theorem pyNext_enumT_end {e it l : Addr} {i : Nat} {items : Array Value} {old : Value} {Q : Option Value → Shared → Prop} (hh : A.handled = none)
    (he : IsEnum s.heap e it i old) (hit : s.heap.IsTupleIter it l i) (hl : s.heap.IsTuple l items) (hx : items[i]? = none)
    (hQ : ∀ h', Heap.ExtBut it s.heap h' → Q none { s with heap := h' }) : wpAny (model prog w) A (pyNext (.ref e)) Q E s := by
  have hT : s.TypeIs (.ref e) "enumerate" := ⟨_, he, rfl⟩
  unfold pyNext
  refine wpAny_bind (wpAny_attempt (wpAny_callSpecial?_slot (name := Str.ofString "__next__") hT F.slot_enumerate_next
    (wpAny_call_entry F.slot_enumerate_next hT F.entry_enumerate_next ?_ (F.args_enumerate_next_1 _))))
  show wpAny _ _ (field (.ref e) 2 >>= _) _ _ _
  refine wpAny_bind (wpAny_field he rfl (x := .ref it) rfl ?_)
  refine wpAny_bind (wpAny_nextOf_tuple_end (A := A.in1) hh hit hl hx fun h' x he' hx' => ?_)
  obtain ⟨o, ho, hc⟩ := hx'
  refine wpAny_bind (wpAny_isInstance (T := "StopIteration") (b := true) ⟨o, ho, hc⟩ isSubtype_stop ?_)
  exact wpAny_pure (hQ _ he')
end

/-- the tuple at a as it stands at each turn, each item in a new pair -/
def IteT (K : PySem.W.Frag) (a : Addr) : It :=
  ⟨fun i H => ∃ (xs : List V) (x : V), SqT K H a xs ∧ xs[i]? = some x, fun i H v H' => ∃ T x, v = .ref T ∧ H T = none ∧ H' = upd H T (.tup [.int (i : Nat), x]) ∧ ∀ xs, SqT K H a xs → xs[i]? = some x, fun i H => ∃ xs : List V, SqT K H a xs ∧ xs.length ≤ i⟩
theorem turn_enumT {P : Program} {w : World} {K : PySem.W.Frag} {elts : List Expr} {kk : Nat} {tpos : Pos} (a e it : Addr) (hai : a ≠ it) (hae : a ≠ e) :
    Turn P w K (.Tuple elts kk tpos) (IteT K a) [e, it] e (fun i h => (∃ old, IsEnum h e it ((i : Nat) : Int) old) ∧ h.IsTupleIter it a i ∧ e ≠ it) where
  mem := by simp
  obj := fun i h st b hb => by
    obtain ⟨⟨old, he⟩, ⟨o, ho, hc, hd⟩, _⟩ := st
    have e' : b = e ∨ b = it := by simpa using hb
    rcases e' with z | z
    · rw [z]; exact ⟨_, he, fun v q => nomatch q⟩
    · rw [z]; exact ⟨o, ho, fun v q => by rw [hd] at q; cases q⟩
  keep := fun i h h' st k => let ⟨⟨old, he⟩, hi, hne⟩ := st; ⟨⟨old, k e (by simp) _ he⟩, hi.at fun o q => k it (by simp) o q, hne⟩
  item := by
    intro X hP hw hK hc i pins s σ H E I hf st hg
    subst hP hw hK
    obtain ⟨⟨old, he⟩, hit, hne⟩ := st
    obtain ⟨xs, x, hq, hx⟩ := hg
    obtain ⟨its, rv, p, hz⟩ := I.tuple hq
    obtain ⟨u, hu, ru⟩ := rv.get hx
    have hel : e < s.heap.objs.size := Heap.lt_size he
    have hil : it < s.heap.objs.size := by obtain ⟨_, q, _⟩ := hit; exact Heap.lt_size q
    have il : i < its.toArray.size := by
      have := List.getElem?_eq_some_iff.mp hu
      simpa using this.1
    have D : Draws X.prog X.w X.A.in1 it [it, a] its.toArray.size (fun i v => its.toArray[i]? = some v) (fun i h => h.IsTupleIter it a i ∧ h.IsTuple a its.toArray) :=
      Draws.tuple (A := X.A.in1) (show X.A.in1.handled = none from I.ok.hd hc) it a hai its.toArray
    refine wpAny_pyNext_enum_itemD D he ⟨hit, p⟩ il hne (by simp [hne, hae.symm]) fun x' h' tk hPx ho ⟨hit', _⟩ hT hsz hk => ?_
    have ex : u = x' := by
      have h1 : its.toArray[i]? = some u := by simpa using hu
      rw [h1] at hPx
      exact Option.some.inj hPx
    subst ex
    refine ⟨_, rfl, wpAny_letOwnedTupleGo_enum (s := { s with heap := h', toks := tk + 1 }) ho fun h'' he' sb => ?_⟩
    have hT2 : h''.get? s.heap.objs.size = some { cls := .type "tuple", data := .seq #[.int i tk, u] } := (sb.2 _ (Nat.ne_of_gt hel)).trans hT
    have new : ObjOk X.prog X.w (upd H s.heap.objs.size (.tup [.int (i : Nat), x])) h'' s.heap.objs.size (.tup [.int (i : Nat), x]) :=
      ⟨by show 2 ≤ sizeLine; decide, [.int i tk, u], .cons ⟨_, rfl⟩ (.cons ru .nil), ⟨_, hT2, rfl, _, rfl⟩⟩
    have I1 : Inv X pins σ (upd H s.heap.objs.size (.tup [.int (i : Nat), x])) { s with heap := h'', toks := tk + 1 } :=
      I.turnedNew (t' := tk + 1) (ch := [e, it]) (fun b ob hb q => (sb.2 b (fun z => hb (by simp [z]))).trans (hk b ob (fun z => hb (by simp [z])) (fun z => hb (by simp [z])) q)) hf (Nat.le_refl _) new
    refine ⟨.ref s.heap.objs.size, _, I1, rfl, ⟨_, x, rfl, I.hok.fresh (Nat.le_refl _), rfl, fun ys hy => by rw [I.tuple_inj hy hq]; exact hx⟩, ⟨⟨u, ?_⟩, hit'.at fun o q => (sb.2 it (Ne.symm hne)).trans q, hne⟩, fun b hb => ?_⟩
    · have e1 : ((i + 1 : Nat) : Int) = (i : Int) + 1 := by omega
      rw [e1]; exact he'
    · have hb' : b < s.heap.objs.size := by
        have e' : b = e ∨ b = it := by simpa using hb
        rcases e' with z | z
        · rw [z]; exact hel
        · rw [z]; exact hil
      rw [upd_ne (Nat.ne_of_lt hb')]
      exact (hf b hb).1
  done := by
    intro X hP hw hK hc i pins s σ H E I hf st hg
    subst hP hw hK
    obtain ⟨⟨old, he⟩, hit, hne⟩ := st
    obtain ⟨xs, hq, hx⟩ := hg
    obtain ⟨its, rv, p, hz⟩ := I.tuple hq
    have l1 := rv.length
    have ei : its.toArray[i]? = none := by simp; omega
    obtain ⟨f0, f1, f2, f3, f4, f5⟩ := hf it (by simp)
    exact pyNext_enumT_end (I.ok.hd hc) he hit p ei fun h' eb => ⟨rfl, I.turned (t' := s.toks) (fun b o hb q => eb b o hb q) f0 f1 f3 f4 f5⟩
  self := fun A i s Q E st h => let ⟨⟨_, he⟩, _⟩ := st; wpAny_pyIter_enum he h
def iEnumT (K : PySem.W.Frag) (ta : TA) : TI := fun σ H R => ta σ H fun vs H1 => ∃ a xs, vs = [.ref a] ∧ SqT K H1 a xs ∧ R (IteT K a) H1
theorem pi_enumT {X : Cx} {e : Expr} {ta : TA} {p pos tpos : Pos} {elts : List Expr} {kk : Nat} (hg : Gl X "enumerate") (hm : X.mg "enumerate" = none) (ha : PA X [e] ta) (hs : starEach [e] X.env = [(false, eval e X.env)] := by rfl) :
    PI X (.Tuple elts kk tpos) (.Call (.Name "enumerate" p) [e] [] pos) (iEnumT X.K ta) := by
  refine ⟨fun pins s σ H R I h => ?_⟩
  refine Call_ (ld_blt I hg hm boot_enumerate (PyProof.Rows.callWith_type1 (thn (ha.run pos pins s σ H _ I h) fun us s1 ⟨vs, H1, I1, r1, q1⟩ => ?_) hs rfl))
  obtain ⟨a, xs, ex, hq, q⟩ := q1
  subst ex
  cases r1 with
  | cons r rr =>
    cases rr
    cases r
    obtain ⟨its, rv, p', hz⟩ := I1.tuple hq
    obtain ⟨oa, hoa, _⟩ := id p'
    have la := Heap.lt_size hoa
    refine call_enumerate_tup p' fun h' he hit hsz hk => wpAny_pyIter_enum he ?_
    have I2 : Inv X pins σ H1 { s1 with heap := h' } := I1.kept (t' := s1.toks) hk
    refine ⟨s1.heap.objs.size + 1, [s1.heap.objs.size + 1, s1.heap.objs.size], _, _, H1, rfl, I2, turn_enumT a (s1.heap.objs.size + 1) s1.heap.objs.size (Nat.ne_of_lt la) (Nat.ne_of_lt (Nat.lt_succ_of_lt la)), ⟨⟨.none, he⟩, hit, Nat.succ_ne_self _⟩, fun b hb => ?_, q⟩
    have e' : b = s1.heap.objs.size + 1 ∨ b = s1.heap.objs.size := by simpa using hb
    have hle : s1.heap.objs.size ≤ b := by
      rcases e' with z | z
      · rw [z]; exact Nat.le_add_right _ _
      · rw [z]; exact Nat.le_refl _
    exact I1.fpOk hle (I1.hok.fresh hle)
/-- a loop over enumerate of a tuple -/
theorem for_enumT {K : PySem.W.Frag} {a : Addr} {xs : List V} {g : TG} {tb : TS} {D : Ends} {σ : L2.St} {H : Hp} (Pv : Nat → L2.St → Hp → Prop) (h0 : Pv 0 σ H) (hq : ∀ i σ H, Pv i σ H → SqT K H a xs)
    (hs : ∀ (i : Nat) (x : V) (T : Addr) (σ : L2.St) (H : Hp), xs[i]? = some x → Pv i σ H → H T = none → g (.ref T) σ (upd H T (.tup [.int (i : Nat), x])) fun σ2 H2 => tb { D with nx := Pv (i + 1), ct := Pv (i + 1), bk := D.nx } σ2 H2) (hd : ∀ σ H, Pv xs.length σ H → D.nx σ H) :
    ∃ W : Nat → Nat → L2.St → Hp → Prop, (∃ m, W 0 m σ H) ∧ ∀ i m σ H, W i m σ H →
      ((IteT K a).stop i H ∧ D.nx σ H) ∨ ((IteT K a).go i H ∧ ∃ N : L2.St → Hp → Prop, (∀ σ' H', N σ' H' → ∃ m', m' < m ∧ W (i + 1) m' σ' H') ∧ ∀ v H', (IteT K a).yld i H v H' → g v σ H' fun σ2 H2 => tb { D with nx := N, ct := N, bk := D.nx } σ2 H2) := by
  refine ⟨fun i m σ H => m = xs.length - i ∧ i ≤ xs.length ∧ Pv i σ H, ⟨xs.length, rfl, Nat.zero_le _, h0⟩, ?_⟩
  rintro i m σ H ⟨rfl, hi, p⟩
  have qx := hq i σ H p
  by_cases hlt : i < xs.length
  · have hx : xs[i]? = some xs[i] := List.getElem?_eq_getElem hlt
    refine .inr ⟨⟨xs, _, qx, hx⟩, Pv (i + 1), fun σ' H' z => ⟨xs.length - (i + 1), by omega, rfl, by omega, z⟩, ?_⟩
    rintro v H' ⟨T, x, rfl, nT, rfl, hx'⟩
    exact hs i x T σ H (hx' xs qx) p nT
  · have e : i = xs.length := by omega
    subst e
    exact .inl ⟨⟨xs, qx, Nat.le_refl _⟩, hd σ H p⟩

/-! ### sorted of data -/
theorem EachIs.vals {β : Type} : ∀ {out : List Value} {bs : List (V × β)}, PySem.W.EachIs (fun v (b : V × β) => RelV b.1 v) out bs → Vals (bs.map (·.1)) out
  | _, _, .nil => .nil
  | _, _, .cons h t => .cons h (EachIs.vals t)
theorem each_of {β : Type} {R : Value → β → Prop} : ∀ {vs : List V} {us : List Value} {bs : List β} {f : β → V}, Vals vs us → vs = bs.map f → (∀ b ∈ bs, ∀ u, RelV (f b) u → R u b) → PySem.W.EachIs R us bs
  | _, _, [], f, r, e, h => by subst e; cases r; exact .nil
  | _, _, b :: bs, f, r, e, h => by
    subst e
    cases r with
    | cons r1 r2 => exact .cons (h b (.head _) _ r1) (each_of r2 rfl fun b' m => h b' (.tail _ m))

/-- sorted(xs), xs of data that compare: a new list -/
def rSortD (K : PySem.W.Frag) : List V → Hp → VK → Prop := fun vs H Q => ∃ (a : Addr) (bs : List (V × PyData)), vs = [.ref a] ∧ SqL K H a (bs.map (·.1)) ∧ (∀ b ∈ bs, Dp K H b.1 b.2) ∧
  PySem.W.AllAlike (bs.map (·.2)) ∧ PySem.W.Sortable (bs.map (·.2)) ∧ (∀ b ∈ bs, b.2.depth ≤ 60) ∧
  ∀ p, H p = none → Q (.ref p) (upd H p (.lst ((bs.mergeSort (PySem.W.dataLe false fun b => b.2)).map (·.1))))
theorem call_sortD {X : Cx} (hu : X.A.units + 64 < cLine) : CallR X (.builtin "sorted") (rSortD X.K) := by
  intro pins s σ H vs us Q I r h
  obtain ⟨a, bs, rfl, hs, hd, hal, hk, hdp, q⟩ := h
  obtain ⟨u, rfl, ru⟩ := vals1 r
  obtain rfl : u = Value.ref a := ru
  obtain ⟨its, rv, hl, hz⟩ := I.list hs
  have lb : its.length = bs.length := by rw [← rv.length, List.length_map]
  have e1 : PySem.W.EachIs (fun v (b : V × PyData) => RelV b.1 v) its bs := each_of (f := fun b => b.1) rv rfl fun _ _ _ z => z
  have e2 : PySem.W.EachIs (fun v (b : V × PyData) => ∃ as, Reads s.heap v b.2 as) its bs := each_of (f := fun b => b.1) rv rfl fun b m u z => Dp.reads I b.2 b.1 u (hd b m) z
  refine PySem.W.sorted_data (enc := fun b : V × PyData => b.2) hl.isList e1 e2 hal hk (by rw [← lb, ← rv.length]; exact hz) (fun b m => by have := hdp b m; omega) fun out ho eo => ?_
  obtain ⟨c, hc⟩ := PyProof.Rows.sortedAll_at s.heap its out.toArray
  have rel : Vals ((bs.mergeSort (PySem.W.dataLe false fun b : V × PyData => b.2)).map (·.1)) out := EachIs.vals eo
  refine ⟨.ref (s.heap.objs.size + 1), _, I.laid (t' := s.toks) (o := .lst ((bs.mergeSort (PySem.W.dataLe false fun b : V × PyData => b.2)).map (·.1))) (fun b o z => sortedAll_old z) (Nat.le_succ _) ⟨?_, out, c, rel, hc⟩, rfl, q _ (I.hok.fresh (Nat.le_succ _))⟩
  rw [rel.length, ho, ← lb, ← rv.length]
  exact hz
/-- the data of a sorted list of pairs of a value and its data -/
theorem mergeSort_snd (bs : List (V × PyData)) :
    ((bs.mergeSort (PySem.W.dataLe false fun b => b.2)).map (·.2)) = (bs.map (·.2)).mergeSort (PySem.W.dataLe false fun d => d) := by
  rw [List.map_mergeSort]
  intro a _ b _
  rfl
end Sw

set_option Elab.async false
set_option linter.all false
set_option maxRecDepth 100000
set_option maxHeartbeats 4000000
/-! texts sign by sign; comprehensions of two clauses; a starred text; sorted texts. -/
namespace Sw
open PySem PySem.Spec PyProof.Rows L2

/-- the signs of a text, each as a text -/
def chars (z : Str) : List Str := z.cps.toList.map fun c => ⟨#[c]⟩
theorem chars_len (z : Str) : (chars z).length = z.cps.size := by
  unfold chars
  rw [List.length_map, Array.length_toList]
theorem chars_at {z : Str} {i c : Nat} (h : z.cps[i]? = some c) : (chars z)[i]? = some ⟨#[c]⟩ := by
  unfold chars
  rw [List.getElem?_map, Array.getElem?_toList, h]
  rfl
theorem walk_chars {z : Str} : Walk (Its z) (chars z).length (fun _ => True) (fun i H v H' => H' = H ∧ ∃ c, (chars z)[i]? = some c ∧ v = .str c) := by
  rw [chars_len]
  refine walk_str.mono (fun _ z => z) ?_
  rintro i H x H' _ _ ⟨e, c, h1, h2⟩
  exact ⟨e, _, chars_at h1, h2⟩

theorem vals_at : ∀ {xs : List V} {us : List Value}, xs.length = us.length → (∀ (i : Nat) (x : V) (u : Value), xs[i]? = some x → us[i]? = some u → RelV x u) → Vals xs us
  | [], [], _, _ => .nil
  | [], _ :: _, h, _ => by cases h
  | _ :: _, [], h, _ => by cases h
  | x :: xs, u :: us, h, q => .cons (q 0 x u rfl rfl) (vals_at (by simpa using h) fun i x' u' h1 h2 => q (i + 1) x' u' (by simpa using h1) (by simpa using h2))
theorem items_vals {x : Str} {acc : Array Value} (h : ItemsOf (SignAt x) acc x.cps.size) : Vals ((chars x).map V.str) acc.toList := by
  obtain ⟨hs, hi⟩ := h
  refine vals_at (by rw [List.length_map, chars_len, Array.length_toList, hs]) fun i v u h1 h2 => ?_
  have h3 : acc[i]? = some u := by rw [← Array.getElem?_toList]; exact h2
  obtain ⟨c, t, e1, e2⟩ := hi i u h3
  subst e2
  rw [List.getElem?_map, chars_at e1] at h1
  cases h1
  exact ⟨t, rfl⟩

section
variable {X : Cx} {pins : List (Addr × Obj)} {σ : L2.St} {H : Hp} {s : Shared}
theorem star_str (hc : X.calm = true) {x : Str} {t : Tok} {E : Value → Shared → Prop} {Q : List Value → Shared → Prop} (I : Inv X pins σ H s) (hn : x.cps.size ≤ sizeLine)
    (hQ : ∀ us s', Inv X pins σ H s' → Vals ((chars x).map V.str) us → Q us s') : PySem.W.StarOf (model X.prog X.w) X.A E (.str x t) Q s := by
  have z : wpAny (model X.prog X.w) X.A (collect (.str x t)) Q E s := by
    refine wpAny_collect_str (I.ok.hd hc) x t (fun s' acc hk hg hdr ho hi => ?_) hn
    obtain ⟨h', g', d', t', o'⟩ := s'
    cases hg
    cases hdr
    cases ho
    exact hQ _ _ (I.kept (t' := t') hk) (items_vals hi)
  unfold PySem.W.StarOf notIterableAtAll
  exact wpAny_bind (wpAny_specialOf (T := "str") (v := .str x t) rfl PySem.F.slot_str_iter.lookup (wpAny_pure ⟨rfl, z⟩))
/-- *e, .. where e is a text -/
def tStarS (te : TE) (t : TA) : TA := fun σ H Q => te σ H fun x H1 => ∃ z, x = .str z ∧ z.cps.size ≤ sizeLine ∧ t σ H1 fun ys H2 => Q ((chars z).map V.str ++ ys) H2
theorem pa_starS {e : Expr} {es : List Expr} {te : TE} {t : TA} {p : Pos} (hc : X.calm = true) (he : PE X e te) (hr : PA X es t) (hs : starEach (.Starred e p :: es) X.env = (true, eval e X.env) :: starEach es X.env := by rfl) : PA X (.Starred e p :: es) (tStarS te t) := by
  refine ⟨fun pos pins s σ H Q I h => ?_⟩
  refine PySem.W.items_star (thn (he.run pins s σ H _ I h) fun v s1 ⟨y, H1, I1, ry, x, ey, hx, q⟩ => ?_) hs
  subst ey
  obtain ⟨t', rfl⟩ := ry
  refine star_str hc I1 hx fun us s2 I2 rv => ?_
  exact thn (hr.run pos pins s2 σ H1 _ I2 q) fun ws s3 ⟨vs, H3, I3, r3, q3⟩ => ⟨_, H3, I3, rv.append r3, q3⟩
end

/-! ### comprehensions of two clauses -/
section
variable {J J1 : It} {n n1 : Nat} {G G1 : Hp → Prop} {Y Y1 : Nat → Hp → V → Hp → Prop}
theorem lc2_in (w : Walk J1 n1 G1 Y1) {g1 : TG} {tt1 : TT} {te : TE} {vs1 : List Nat} {σ2 : L2.St} {H4 : Hp} {D : Addr} {Nx : Hp → Prop} (Pv : Nat → Hp → Prop) (h0 : Pv 0 H4) (hG : ∀ i H, i ≤ n1 → Pv i H → G1 H)
    (hs : ∀ i x H H', i < n1 → Pv i H → Y1 i H x H' → g1 x (wipe σ2 vs1) H' fun σ3 H5 => wipe σ3 vs1 = wipe σ2 vs1 ∧ tt1 σ3 H5 fun b H6 =>
      if b = true then te σ3 H6 fun y H7 => ∃ acc, H7 D = some (.lst acc) ∧ acc.length < sizeLine ∧ Pv (i + 1) (upd H7 D (.lst (acc ++ [y]))) else Pv (i + 1) H6) (hd : ∀ H, Pv n1 H → Nx H) :
    ∃ W1 : Nat → Nat → Hp → Prop, (∃ m, W1 0 m H4) ∧ ∀ j k H, W1 j k H →
      (J1.stop j H ∧ Nx H) ∨ (J1.go j H ∧ ∃ Nx1 : Hp → Prop, (∀ H', Nx1 H' → ∃ k', k' < k ∧ W1 (j + 1) k' H') ∧ ∀ x H', J1.yld j H x H' → g1 x (wipe σ2 vs1) H' fun σ3 H5 => wipe σ3 vs1 = wipe σ2 vs1 ∧ tt1 σ3 H5 fun b H6 =>
        if b = true then te σ3 H6 fun y H7 => ∃ acc, H7 D = some (.lst acc) ∧ acc.length < sizeLine ∧ Nx1 (upd H7 D (.lst (acc ++ [y]))) else Nx1 H6) := by
  refine ⟨fun i m H => m = n1 - i ∧ i ≤ n1 ∧ Pv i H, ⟨n1, by simp, Nat.zero_le _, h0⟩, ?_⟩
  rintro i m H ⟨rfl, hi, p⟩
  have q := hG i H hi p
  by_cases hlt : i < n1
  · refine .inr ⟨w.goes i H hlt q, Pv (i + 1), fun H' p' => ⟨n1 - (i + 1), by omega, rfl, hlt, p'⟩, fun x H' y => hs i x H H' hlt p (w.yields i H x H' hlt q y)⟩
  · have e : i = n1 := by omega
    subst e
    exact .inl ⟨w.stops H q, hd H p⟩
theorem lc2_out (w : Walk J n G Y) {wi1 : TI} {g g1 : TG} {tt tt1 : TT} {te : TE} {vs vs1 : List Nat} {σ : L2.St} {H1 : Hp} {D : Addr} {Qd : Hp → Prop} (Pv : Nat → Hp → Prop) (h0 : Pv 0 (upd H1 D (.lst []))) (hG : ∀ i H, i ≤ n → Pv i H → G H)
    (hs : ∀ i x H H', i < n → Pv i H → Y i H x H' → g x (wipe σ vs) H' fun σ2 H2 => wipe σ2 vs = wipe σ vs ∧ tt σ2 H2 fun b H3 =>
      if b = true then wi1 σ2 H3 fun J1 H4 => ∃ W1 : Nat → Nat → Hp → Prop, (∃ m, W1 0 m H4) ∧ ∀ j k H, W1 j k H →
        (J1.stop j H ∧ Pv (i + 1) H) ∨ (J1.go j H ∧ ∃ Nx1 : Hp → Prop, (∀ H', Nx1 H' → ∃ k', k' < k ∧ W1 (j + 1) k' H') ∧ ∀ x H', J1.yld j H x H' → g1 x (wipe σ2 vs1) H' fun σ3 H5 => wipe σ3 vs1 = wipe σ2 vs1 ∧ tt1 σ3 H5 fun b H6 =>
          if b = true then te σ3 H6 fun y H7 => ∃ acc, H7 D = some (.lst acc) ∧ acc.length < sizeLine ∧ Nx1 (upd H7 D (.lst (acc ++ [y]))) else Nx1 H6)
      else Pv (i + 1) H3) (hd : ∀ H, Pv n H → Qd H) :
    ∃ W : Nat → Nat → Hp → Prop, (∃ m, W 0 m (upd H1 D (.lst []))) ∧ ∀ i m H, W i m H →
      (J.stop i H ∧ Qd H) ∨ (J.go i H ∧ ∃ Nx : Hp → Prop, (∀ H', Nx H' → ∃ m', m' < m ∧ W (i + 1) m' H') ∧ ∀ x H', J.yld i H x H' → g x (wipe σ vs) H' fun σ2 H2 => wipe σ2 vs = wipe σ vs ∧ tt σ2 H2 fun b H3 =>
        if b = true then wi1 σ2 H3 fun J1 H4 => ∃ W1 : Nat → Nat → Hp → Prop, (∃ m, W1 0 m H4) ∧ ∀ j k H, W1 j k H →
          (J1.stop j H ∧ Nx H) ∨ (J1.go j H ∧ ∃ Nx1 : Hp → Prop, (∀ H', Nx1 H' → ∃ k', k' < k ∧ W1 (j + 1) k' H') ∧ ∀ x H', J1.yld j H x H' → g1 x (wipe σ2 vs1) H' fun σ3 H5 => wipe σ3 vs1 = wipe σ2 vs1 ∧ tt1 σ3 H5 fun b H6 =>
            if b = true then te σ3 H6 fun y H7 => ∃ acc, H7 D = some (.lst acc) ∧ acc.length < sizeLine ∧ Nx1 (upd H7 D (.lst (acc ++ [y]))) else Nx1 H6)
        else Nx H3) := by
  refine ⟨fun i m H => m = n - i ∧ i ≤ n ∧ Pv i H, ⟨n, by simp, Nat.zero_le _, h0⟩, ?_⟩
  rintro i m H ⟨rfl, hi, p⟩
  have q := hG i H hi p
  by_cases hlt : i < n
  · refine .inr ⟨w.goes i H hlt q, Pv (i + 1), fun H' p' => ⟨n - (i + 1), by omega, rfl, hlt, p'⟩, fun x H' y => hs i x H H' hlt p (w.yields i H x H' hlt q y)⟩
  · have e : i = n := by omega
    subst e
    exact .inl ⟨w.stops H q, hd H p⟩
end

/-! ### sorted texts -/
def strLe (x y : Str) : Bool := decide (x.cps.toList ≤ y.cps.toList)
def rSortS (K : PySem.W.Frag) : List V → Hp → VK → Prop := fun vs H Q => ∃ (a : Addr) (xs : List Str), vs = [.ref a] ∧ SqL K H a (xs.map V.str) ∧
  ∀ p, H p = none → Q (.ref p) (upd H p (.lst ((xs.mergeSort strLe).map V.str)))
theorem call_sortS {X : Cx} (hu : X.A.units + 64 < cLine) : CallR X (.builtin "sorted") (rSortS X.K) := by
  intro pins s σ H vs us Q I r h
  obtain ⟨a, xs, rfl, hs, q⟩ := h
  refine call_sortD hu pins s σ H _ us Q I r ⟨a, xs.map fun x => (V.str x, PyData.str x), rfl, ?_, ?_, ?_, ?_, ?_, ?_⟩
  · rw [List.map_map]; exact hs
  · intro b hb
    obtain ⟨x, _, rfl⟩ := List.mem_map.mp hb
    exact .str x
  · rw [List.map_map]
    exact PySem.W.AllAlike.of (enc := fun x : Str => PyData.str x) (bs := xs) fun _ _ => by simp [PySem.W.alike]
  · rw [List.map_map]
    exact PySem.W.Sortable.others (enc := fun x : Str => PyData.str x) (bs := xs) fun _ => ⟨by simp, by simp⟩
  · intro b hb
    obtain ⟨x, _, rfl⟩ := List.mem_map.mp hb
    show PyData.depth (.str x) ≤ 60
    simp [PyData.depth]
  · intro p np
    have e : ((xs.map fun x => (V.str x, PyData.str x)).mergeSort (PySem.W.dataLe false fun b => b.2)).map (·.1) = (xs.mergeSort strLe).map V.str := by
      have h1 : (xs.mergeSort strLe).map (fun x => (V.str x, PyData.str x)) = (xs.map fun x => (V.str x, PyData.str x)).mergeSort (PySem.W.dataLe false fun b => b.2) := by
        refine List.map_mergeSort fun a _ b _ => ?_
        have := congrFun (congrFun (PySem.W.dataLe_str (β := Str) fun x => x) a) b
        exact this.symm
      rw [← h1, List.map_map]
      rfl
    rw [e]
    exact q p np
end Sw

set_option Elab.async false
set_option linter.all false
set_option maxRecDepth 100000
set_option maxHeartbeats 4000000
/-! Rules with the written part named (within a comprehension its name would hold the block's own names); data carried over. -/
namespace Sw
open PySem PySem.Spec PyProof.Rows L2
section
variable {X : Cx}
/-- e.f -/
theorem pe_fldK {e : Expr} {ta : TE} {f : Str} {pos : Pos} (K : PySem.W.Frag) (hK : X.K = K) (he : PE X e ta) (hb : attributeBase e f X.env (eval e X.env) = eval e X.env) : PE X (.Attribute e f pos) (tFld K ta f) := by
  subst hK
  exact pe_fld he hb
theorem pi_listK {tg l : Expr} {tl : TE} (K : PySem.W.Frag) (hK : X.K = K) (hl : PE X l tl) : PI X tg l (iList K tl) := by
  subst hK
  exact pi_list hl
theorem pi_tupK {tg l : Expr} {tl : TE} (K : PySem.W.Frag) (hK : X.K = K) (hl : PE X l tl) : PI X tg l (iTup K tl) := by
  subst hK
  exact pi_tup hl
theorem op_catAK (K : PySem.W.Frag) (hK : X.K = K) : OpR X (binaryOp .Add) (rCatA K) := by
  subst hK
  exact op_catA
def rLenK (K : PySem.W.Frag) : List V → Hp → VK → Prop := fun xs H Q => ∃ p ys, xs = [.ref p] ∧ (SqL K H p ys ∨ SqT K H p ys) ∧ Q (.int (ys.length : Nat)) H
theorem call_lenK (K : PySem.W.Frag) (hK : X.K = K) : CallR X (.builtin "len") (rLenK K) := by
  subst hK
  exact call_len_seq
def rJoinK (K : PySem.W.Frag) : V → List V → Hp → VK → Prop := fun x xs H Q => ∃ a p, ∃ ys : List Str, x = .str a ∧ xs = [.ref p] ∧ (SqL K H p (ys.map V.str) ∨ SqT K H p (ys.map V.str)) ∧
    (ys.map (·.length)).sum + ys.length * a.length ≤ 16777216 ∧ Q (.str (Txt.join a ys)) H
/-- e.join(xs) -/
def tJoin (K : PySem.W.Frag) (to : TE) (t : TA) : TE := fun σ H Q => to σ H fun x H1 => t σ H1 fun xs H2 => (∃ z, x = .str z) ∧ rJoinK K x xs H2 Q
theorem pe_join {o e : Expr} {es : List Expr} {to : TE} {t : TA} {apos cpos : Pos} (K : PySem.W.Frag) (hK : X.K = K) (ho : PE X o to) (ha : PA X (e :: es) t)
    (hbase : attributeBase o "join" X.env (eval o X.env) = eval o X.env := by rfl)
    (hfew : ((backTo cpos (starEach (e :: es) X.env)).all (fun x => !x.1) && (backToKw cpos (keywordEach [] X.env)).all (fun x => x.1.isSome)
      && decide ((e :: es).length + ([] : List Keyword).length + (if ([] : List Keyword).isEmpty then 0 else 1) < 30)) = true := by rfl)
    (hline : (apos.endLine == cpos.line) = true := by rfl) (hs : starEach (e :: es) X.env = (false, eval e X.env) :: starEach es X.env := by rfl) (hplain : (backTo cpos (starEach es X.env)).any (·.1) = false := by rfl) :
    PE X (.Call (.Attribute o "join" apos) (e :: es) [] cpos) (tBM K "str" (rJoinK K) to t) := by
  subst hK
  exact pe_bm PySem.F.plainAttrs_str PySem.F.slot_str_join PySem.F.type_str_join mt_join ho ha hbase hfew hline hs hplain
end
section
variable {K : PySem.W.Frag}
theorem sqt_same {H H' : Hp} {a : Addr} {xs : List V} (e : Same H H') (h : SqT K H a xs) : SqT K H' a xs := by
  rcases h with (h | ⟨o, h⟩) | h
  · exact .inl (.inl (e _ _ h))
  · exact .inl (.inr ⟨o, e _ _ h⟩)
  · exact .inr h
mutual
theorem dat_same {H H' : Hp} (s : Same H H') : ∀ {v : V} {d : PyData}, Dp K H v d → Dp K H' v d
  | _, _, .non => .non
  | _, _, .bl b => .bl b
  | _, _, .int i => .int i
  | _, _, .str x => .str x
  | _, _, .lst h r => .lst (s.seq h) (datA_same s r)
  | _, _, .tup h r => .tup (sqt_same s h) (datA_same s r)
theorem datA_same {H H' : Hp} (s : Same H H') : ∀ {vs : List V} {ds : List PyData}, DpAll K H vs ds → DpAll K H' vs ds
  | _, _, .nil => .nil
  | _, _, .cons h r => .cons (dat_same s h) (datA_same s r)
end
theorem dat_strs {H : Hp} : ∀ xs : List Str, DpAll K H (xs.map V.str) (xs.map PyData.str)
  | [] => .nil
  | x :: xs => .cons (.str x) (dat_strs xs)
theorem dat_pairs {H : Hp} : ∀ bs : List (V × PyData), (∀ b ∈ bs, Dp K H b.1 b.2) → DpAll K H (bs.map (·.1)) (bs.map (·.2))
  | [], _ => .nil
  | b :: bs, h => .cons (h b (.head _)) (dat_pairs bs fun c m => h c (.tail _ m))
theorem dat_len {H : Hp} : ∀ {vs : List V} {ds : List PyData}, DpAll K H vs ds → vs.length = ds.length
  | _, _, .nil => rfl
  | _, _, .cons _ r => by rw [List.length_cons, List.length_cons, dat_len r]
def tupD (ss : List Str) : PyData := .tuple (ss.map .str)
theorem alike_strs : ∀ xs ys : List Str, PySem.W.alikeAll (xs.map .str) (ys.map .str) = true
  | [], _ => by simp [PySem.W.alikeAll]
  | _ :: _, [] => by simp [PySem.W.alikeAll]
  | x :: xs, y :: ys => by
    show PySem.W.alikeAll (.str x :: xs.map .str) (.str y :: ys.map .str) = true
    rw [PySem.W.alikeAll, alike_strs xs ys]
    simp [PySem.W.alike]
theorem alike_tup (xs ys : List Str) : PySem.W.alike (tupD xs) (tupD ys) = true := by
  unfold tupD
  rw [PySem.W.alike]
  exact alike_strs xs ys
theorem depth_strs : ∀ xs : List Str, PyData.depthAll (xs.map .str) = 0
  | [] => by simp [PyData.depthAll]
  | x :: xs => by
    show PyData.depthAll (.str x :: xs.map .str) = 0
    rw [PyData.depthAll, depth_strs xs]
    simp [PyData.depth]
theorem depth_tup (xs : List Str) : (tupD xs).depth ≤ 60 := by
  unfold tupD
  rw [PyData.depth, depth_strs]
  decide
end
end Sw

set_option Elab.async false
set_option linter.all false
set_option maxRecDepth 100000
set_option maxHeartbeats 16000000

/-! Boards: the sizes, the settings of a part. */ -/
namespace Sw
open PySem PySem.Spec PyProof.Rows L2
abbrev prog4 : Program := PySem.Challenge.pw_switchhills_k04_whole_squares_of_boards
def topB (i : Nat) : Stmt := prog4.main.body.getD i (.Pass ⟨0, 0, 0, 0⟩)
abbrev sIsz : Stmt := topB 12
abbrev sFws : Stmt := topB 13
abbrev sSets : Stmt := topB 14
abbrev sNbr : Stmt := topB 15
abbrev sOat : Stmt := topB 16
abbrev sBoard : Stmt := topB 18
abbrev sInit : Stmt := inClass sBoard 0
abbrev sSqs : Stmt := inClass sBoard 12
theorem scIsz : FnScope ["value"] ["value"] (defScope sIsz) :=
  ⟨rfl, rfl, rfl, by decide +kernel, rfl, by decide +kernel, by decide +kernel⟩
theorem scFws : FnScope ["sizes", "many", "index", "size"] ["sizes"] (defScope sFws) :=
  ⟨rfl, rfl, rfl, by decide +kernel, rfl, by decide +kernel, by decide +kernel⟩
theorem scSets : FnScope ["part", "settings", "stands", "setting", "stand"] ["part"] (defScope sSets) :=
  ⟨rfl, rfl, rfl, by decide +kernel, rfl, by decide +kernel, by decide +kernel⟩

/-- what the top has made of the built-ins and of the constants -/
structure TxB (mg : Str → Option Value) : Prop where
  len : mg "len" = none
  int : mg "int" = none
  isi : mg "isinstance" = none
  enm : mg "enumerate" = none
  tup : mg "tuple" = none
  srt : mg "sorted" = none
  ms : ∃ t, mg "MOST_SWITCHES" = some (.int 5 t)
  mt : ∃ t, mg "MOST_SETTINGS" = some (.int 48 t)
  st : ∃ t, mg "STANDS" = some (.str "012" t)
theorem same_new {H : Hp} {p : Addr} {o : HO} (h : H p = none) : Same H (upd H p o) := fun b x e => by
  rw [upd_ne (ne_of_none e h)]; exact e
theorem same_tup {K : PySem.W.Frag} {H H' : Hp} {a : Addr} {xs : List V} (e : Same H H') (h : SqT K H a xs) : SqT K H' a xs := by
  rcases h with (h | ⟨o, h⟩) | h
  · exact .inl (.inl (e _ _ h))
  · exact .inl (.inr ⟨o, e _ _ h⟩)
  · exact .inr h
section
variable {P : Program} {w : World} {K : PySem.W.Frag} {mg : Str → Option Value} {base : Heap}

theorem eq_no {n m : Int} (h : ¬ n = m) : eqV (.int m) (.int n) = false := by
  show (m == n) = false
  exact beq_eq_false_iff_ne.mpr fun e => h e.symm
def isz (n : Int) : Bool := decide (n = 2 ∨ n = 3)
def spIsz : Sp := fun vs H Q _ => ∃ n : Int, vs = [.int n] ∧ ∀ H', Same H H' → Q (.bl (isz n)) H'
theorem ok_isz {f : Addr} {fd : FuncData} (F : Fun K "is_size" "is_size" sIsz f fd) (T : TxB mg) :
    FnOk P w K mg base CX0 1 f fd ["value"] spIsz := by
  refine F.ok scIsz (fun vs H Q E h => ?_) (fun cdv A outer s H vs Q E hr h => ?_)
  · obtain ⟨n, rfl, _⟩ := h
    rfl
  · obtain ⟨n, rfl, q⟩ := h
    refine ⟨_, (pss_one (ps_ret (pe_and (pe_callB call_isi (by rfl) T.isi (by decide +kernel) (pa_cons (pv 0) (pa_cons (pe_bltn (v := .ty "int") (by rfl) T.int (by decide +kernel) rfl) pa_nil))) (pe_one (pe_cmpR op_in_seq (pv 0) (pe_tup (pa_cons pe_int (pa_cons pe_int pa_nil))) (by with_unfolding_all rfl)))))), ?_⟩
    refine ⟨_, rfl, .int n, .ty "int", .type "int", .type "int", true, rfl, .ty _, .base ?_, kit_ty (by decide +kernel), true, rfl, iteT ?_⟩
    · constructor
    refine ⟨_, rfl, by show 2 ≤ sizeLine; decide, fun p np => ?_⟩
    refine ⟨p, [.int 2, .int 3], rfl, .inr (.inl (.inl upd_same)), rfl, rfl, ?_⟩
    have e : inV (.int n) [.int 2, .int 3] = isz n := by
      unfold inV isz
      by_cases h2 : n = 2
      · subst h2; rfl
      · by_cases h3 : n = 3
        · subst h3; rfl
        · rw [decide_eq_false (by omega)]
          simp only [List.any_cons, List.any_nil, Bool.or_false, Bool.or_eq_false_iff]
          exact ⟨eq_no h2, eq_no h3⟩
    rw [e]
    exact q _ (same_new np)

/-- the index of the first size that is wrong -/
def fwsAt (i : Nat) (many : Int) : List Int → Option Nat
  | [] => none
  | n :: r => if i = 5 ∨ isz n = false then some i else if 48 < many * n then some i else fwsAt (i + 1) (many * n) r
theorem fws_cons {i : Nat} {m n : Int} {r : List Int} : fwsAt i m (n :: r) = if i = 5 ∨ isz n = false then some i else if 48 < m * n then some i else fwsAt (i + 1) (m * n) r := rfl
def optV : Option Nat → V
  | none => .non
  | some i => .int (i : Nat)
def spFws (K : PySem.W.Frag) : Sp := fun vs H Q _ => ∃ (a : Addr) (ns : List Int), vs = [.ref a] ∧ SqT K H a (ns.map V.int) ∧ ∀ H', Same H H' → Q (optV (fwsAt 0 1 ns)) H'
theorem ok_fws {f fI : Addr} {fd fdI : FuncData} (F : Fun K "first_wrong_size" "first_wrong_size" sFws f fd) (FI : Fun K "is_size" "is_size" sIsz fI fdI)
    (bI : Binds K fdI ["value"] []) (gI : mg "is_size" = some (.ref fI)) (T : TxB mg) :
    FnOk P w K mg base CX0 2 f fd ["sizes"] (spFws K) := by
  have GI : FnOk P w K mg base CX0 1 fI fdI ["value"] spIsz := ok_isz FI T
  obtain ⟨_, msT⟩ := T.ms
  obtain ⟨_, mtT⟩ := T.mt
  refine F.ok scFws (fun vs H Q E h => ?_) (fun cdv A outer s H vs Q E hr h => ?_)
  · obtain ⟨a, ns, rfl, _⟩ := h
    rfl
  · obtain ⟨a, ns, rfl, hS, q⟩ := h
    refine ⟨_, (pss_cons (ps_set (i := 1) scFws.nd rfl (.inl rfl) pe_int)
      (pss_cons (ps_for PassesOwn.never rfl (pi_enumT (by rfl) T.enm (pa_cons (pv 0) pa_nil)) (pg_tup rfl (pgs_cons (pg_name (i := 2) scFws.nd rfl (.inl rfl)) (pgs_cons (pg_name (i := 3) scFws.nd rfl (.inl rfl)) pgs_nil))) (pss_cons (ps_if (PW.pt (pw_or (pt_cmpR op_eq (pv 2) (pe_glob (v := .int 5) (by rfl) msT ⟨_, rfl⟩) (nomark _)) (pw_or1 (pt_not (pt_val (pe_call GI hr (by rfl) gI FI.kp bI .nil pass0 (pa_cons (pv 3) pa_nil))))))) (pss_one (ps_ret (pv 2))) pss_nil)
      (pss_cons (ps_set (i := 1) scFws.nd rfl (.inl rfl) (pe_op op_mul (pv 1) (pv 3)))
      (pss_one (ps_if (pt_cmpR op_gt (pv 1) (pe_glob (v := .int 48) (by rfl) mtT ⟨_, rfl⟩) (nomark _)) (pss_one (ps_ret (pv 2))) pss_nil)))))
      (pss_one (ps_ret pe_non)))), ?_⟩
    refine ⟨_, rfl, a, _, rfl, hS, for_enumT (xs := ns.map V.int) (fun i σ H' => ∃ (m : Int) (y1 y2 : Option V), σ = [some (.ref a), some (.int m), y1, y2] ∧ Same H H' ∧ 0 < m ∧ m ≤ 48 ∧ fwsAt i m (ns.drop i) = fwsAt 0 1 ns)
      ⟨1, none, none, rfl, Same.refl H, by decide, by decide, rfl⟩ (fun i σ H' ⟨_, _, _, _, s1, _⟩ => same_tup s1 hS) ?_ ?_⟩
    · rintro i x t σ H' hx ⟨m, y1, y2, rfl, s1, m0, m1, e⟩ nt
      rw [List.getElem?_map] at hx
      cases hn : ns[i]? with
      | none =>
        rw [hn] at hx
        cases hx
      | some n =>
        rw [hn] at hx
        cases hx
        have hd : ns.drop i = n :: ns.drop (i + 1) := by
          obtain ⟨hlt, en⟩ := List.getElem?_eq_some_iff.mp hn
          rw [← en]
          exact List.drop_eq_getElem_cons hlt
        rw [hd] at e
        have s2 : Same H (upd H' t (.tup [.int (i : Nat), .int n])) := s1.trans (same_new nt)
        refine ⟨t, _, rfl, .inl (.inl upd_same), rfl, _, _, rfl, _, _, rfl, rfl, ?_⟩
        have ci : decide ((i : Int) = 5) = decide (i = 5) := by
          by_cases z : i = 5
          · subst z; rfl
          · rw [decide_eq_false z, decide_eq_false (by omega)]
        have di : decide (V.int (i : Int) = V.int 5) = decide (i = 5) := by
          rw [dec_int]
          by_cases z : i = 5
          · subst z; rfl
          · rw [decide_eq_false z]
            exact beq_eq_false_iff_ne.mpr fun e => z (by omega)
        have wrong : ∀ H2, Same H H2 → i = 5 ∨ isz n = false → Q (.int (i : Nat)) H2 := by
          intro H2 s3 z
          have e2 : fwsAt 0 1 ns = some i := by
            rw [← e]
            unfold fwsAt
            rw [if_pos z]
          rw [e2] at q
          exact q H2 s3
        refine ⟨_, rfl, rfl, _, rfl, ?_⟩
        rw [di]
        refine ite2 (fun z => ?_) (fun z => ?_)
        · exact iteT ⟨_, rfl, wrong _ s2 (.inl (of_decide_eq_true z))⟩
        · refine ⟨_, rfl, n, rfl, fun H2 s3 => ?_⟩
          refine ⟨_, rfl, ite2 (fun z2 => ?_) (fun z2 => ?_)⟩
          · exact ⟨_, rfl, wrong _ (s2.trans s3) (.inr (by simpa using z2))⟩
          · have z2 : isz n = true := by simpa using z2
            have z1 : ¬ i = 5 := fun y => z (decide_eq_true y)
            have nb : n = 2 ∨ n = 3 := of_decide_eq_true z2
            have pos : 0 < m * n := by rcases nb with y | y <;> subst y <;> omega
            refine ⟨_, rfl, _, rfl, _, _, rfl, rfl, .inl ⟨by omega, by omega⟩, ?_⟩
            rw [fws_cons, if_neg (by rw [z2]; simp [z1])] at e
            refine ⟨_, rfl, _, _, rfl, rfl, _, rfl, ite2 (fun z3 => ?_) (fun z3 => ?_)⟩
            · have z3 : 48 < m * n := of_decide_eq_true z3
              rw [if_pos z3] at e
              rw [← e] at q
              exact ⟨_, rfl, q _ (s2.trans s3)⟩
            · have z3 : ¬ 48 < m * n := fun y => z3 (decide_eq_true y)
              rw [if_neg z3] at e
              exact ⟨m * n, _, _, rfl, s2.trans s3, pos, by omega, e⟩
    · rintro σ H' ⟨m, y1, y2, rfl, s1, m0, m1, e⟩
      have e2 : fwsAt 0 1 ns = none := by
        rw [← e, List.length_map, List.drop_length]
        rfl
      rw [e2] at q
      exact q H' s1
end

/-! ### the settings of a part -/
def sets1 (S : List Str) (z : Str) : List Str := S.flatMap fun s => (chars z).map fun c => s ++ c
def setsOf (zs : List Str) : List Str := zs.foldl sets1 [""]
/-- short texts, few of them -/
structure Fits (zs : List Str) : Prop where
  many : zs.length ≤ 5
  each : ∀ z ∈ zs, (chars z).length ≤ 3
theorem sets1_len (S : List Str) (z : Str) : (sets1 S z).length = S.length * (chars z).length := by
  unfold sets1
  induction S with
  | nil => simp
  | cons s S ih => rw [List.flatMap_cons, List.length_append, ih, List.length_map, List.length_cons, Nat.succ_mul]; omega
theorem setsOf_snoc (zs : List Str) (z : Str) : setsOf (zs ++ [z]) = sets1 (setsOf zs) z := by
  unfold setsOf
  rw [List.foldl_append]
  rfl
theorem fold_len : ∀ (zs : List Str) (S : List Str), (∀ z ∈ zs, (chars z).length ≤ 3) → (zs.foldl sets1 S).length ≤ S.length * 3 ^ zs.length
  | [], S, _ => by simp
  | z :: zs, S, h => by
    have h1 := fold_len zs (sets1 S z) fun y m => h y (.tail _ m)
    have h2 := h z (.head _)
    rw [sets1_len] at h1
    rw [List.foldl_cons]
    refine Nat.le_trans h1 ?_
    rw [List.length_cons, Nat.pow_succ, Nat.mul_comm (3 ^ zs.length) 3, ← Nat.mul_assoc]
    exact Nat.mul_le_mul_right _ (Nat.mul_le_mul_left _ h2)
theorem setsOf_len {zs : List Str} (h : Fits zs) : (setsOf zs).length ≤ 243 := by
  have h1 := fold_len zs [""] h.each
  refine Nat.le_trans h1 ?_
  rw [List.length_singleton, Nat.one_mul]
  calc 3 ^ zs.length ≤ 3 ^ 5 := Nat.pow_le_pow_right (by decide) h.many
    _ = 243 := by decide
theorem str_len_app (a b : Str) : (a ++ b).length = a.length + b.length := by
  show (a.cps ++ b.cps).size = _
  rw [Array.size_append]
  rfl
theorem at_map {α : Type} {f : α → V} {xs : List α} {i : Nat} {v : V} (h : (xs.map f)[i]? = some v) : ∃ x, xs[i]? = some x ∧ v = f x := by
  rw [List.getElem?_map] at h
  cases e : xs[i]? with
  | none =>
    rw [e] at h
    cases h
  | some x =>
    rw [e] at h
    cases h
    exact ⟨x, rfl, rfl⟩
theorem take_next {α : Type} {xs : List α} {i : Nat} {x : α} (h : xs[i]? = some x) : xs.take (i + 1) = xs.take i ++ [x] := by
  rw [List.take_add_one, h]
  rfl
theorem comp_same {H : Hp} {D : Addr} {o : HO} {H0 : Hp} (s : Same H0 H) (n : H0 D = none) : Same H0 (upd H D o) := fun b u e => by
  rw [upd_ne (ne_of_none e n)]
  exact s b u e
def accS (S : List Str) (z s : Str) (i j : Nat) : List Str := sets1 (S.take i) z ++ ((chars z).take j).map fun c => s ++ c
theorem accS_next {S : List Str} {z s c : Str} {i j : Nat} (h : (chars z)[j]? = some c) : accS S z s i (j + 1) = accS S z s i j ++ [s ++ c] := by
  unfold accS
  rw [take_next h, List.map_append, List.append_assoc]
  rfl
theorem sets1_next {S : List Str} {z s : Str} {i : Nat} (h : S[i]? = some s) : sets1 (S.take (i + 1)) z = sets1 (S.take i) z ++ (chars z).map fun c => s ++ c := by
  unfold sets1
  rw [take_next h, List.flatMap_append]
  simp
theorem accS_done {S : List Str} {z s : Str} {i : Nat} (h : S[i]? = some s) : accS S z s i (chars z).length = sets1 (S.take (i + 1)) z := by
  rw [sets1_next h]
  unfold accS
  rw [List.take_length]
theorem accS_zero {S : List Str} {z s : Str} {i : Nat} : accS S z s i 0 = sets1 (S.take i) z := by
  unfold accS
  simp
theorem sets1_take_len {S : List Str} {z : Str} {i : Nat} : (sets1 (S.take i) z).length ≤ S.length * (chars z).length := by
  rw [sets1_len, List.length_take]
  exact Nat.mul_le_mul_right _ (Nat.min_le_right _ _)
theorem lst_next {xs : List Str} {ys : List Str} {x : Str} (h : ys = xs ++ [x]) : some (HO.lst (xs.map V.str ++ [V.str x])) = some (HO.lst (ys.map V.str)) := by
  rw [h, List.map_append]
  rfl
theorem sets1_each {S : List Str} {z : Str} {n : Nat} (h : ∀ s ∈ S, s.length = n) : ∀ s ∈ sets1 S z, s.length = n + 1 := by
  intro s hs
  unfold sets1 at hs
  obtain ⟨u, hu, hs⟩ := List.mem_flatMap.mp hs
  obtain ⟨c, hc, rfl⟩ := List.mem_map.mp hs
  unfold chars at hc
  obtain ⟨k, _, rfl⟩ := List.mem_map.mp hc
  rw [str_len_app, h u hu]
  rfl
theorem fold_each : ∀ (zs : List Str) (S : List Str) (n : Nat), (∀ s ∈ S, s.length = n) → ∀ s ∈ zs.foldl sets1 S, s.length = n + zs.length
  | [], S, n, h => h
  | z :: zs, S, n, h => by
    have h1 := fold_each zs (sets1 S z) (n + 1) (sets1_each h)
    intro s hs
    rw [h1 s hs, List.length_cons]
    omega
theorem setsOf_each {zs : List Str} : ∀ s ∈ setsOf zs, s.length = zs.length := fun s hs => by
  have := fold_each zs [""] 0 (fun s hs => by rw [List.mem_singleton.mp hs]; rfl) s hs
  omega
theorem Fits.take {zs : List Str} (h : Fits zs) (i : Nat) : Fits (zs.take i) := ⟨by rw [List.length_take]; have := h.many; omega, fun z m => h.each z (List.mem_of_mem_take m)⟩
section
variable {P : Program} {w : World} {K : PySem.W.Frag} {mg : Str → Option Value} {base : Heap}
def spSets (K : PySem.W.Frag) : Sp := fun vs H Q _ => ∃ (a : Addr) (zs : List Str), vs = [.ref a] ∧ SqT K H a (zs.map V.str) ∧ Fits zs ∧
  ∀ H' p, Same H H' → H p = none → H' p = some (.tup ((setsOf zs).map V.str)) → Q (.ref p) H'
theorem ok_sets {f : Addr} {fd : FuncData} (F : Fun K "settings_of" "settings_of" sSets f fd) (T : TxB mg) :
    FnOk P w K mg base CX0 1 f fd ["part"] (spSets K) := by
  refine F.ok scSets (fun vs H Q E h => ?_) (fun cdv A outer s H vs Q E hr h => ?_)
  · obtain ⟨a, zs, rfl, _⟩ := h
    rfl
  · obtain ⟨a, zs, rfl, hS, fit, q⟩ := h
    refine ⟨_, (pss_cons (ps_set (i := 1) scSets.nd rfl (.inl rfl) (pe_lst (pa_cons pe_str pa_nil)))
      (pss_cons (ps_for PassesOwn.never rfl (pi_tup (pv 0)) (pg_name (i := 2) scSets.nd rfl (.inr rfl)) (pss_one (ps_setLc2 (i := 1) (own := [("setting", 3), ("stand", 4)]) (vs1 := [4]) (tt := tYes) (tt1 := tYes) (g := gName 3) (g1 := gName 4) rfl scSets.nd rfl rfl (sw_true rfl rfl rfl (by decide +kernel)) (pi_list (pv 1)) (blkOk_by (N := ["part","settings","stands","setting","stand"]) (sc := defScope sSets) (by decide +kernel)) (by decide) (fun _ _ _ _ _ => pg_name (i := 3) scSets.nd rfl (Or.inl rfl)) (fun _ _ _ _ _ => pts_nil) (fun _ _ _ _ _ => (pi_str (pv 2))) (fun _ _ _ _ _ => pg_name (i := 4) scSets.nd rfl (Or.inl rfl)) (fun _ _ _ _ _ => pts_nil) (fun _ _ _ _ _ => (pe_op op_add_str (pv 3) (pv 4))))))
      (pss_one (ps_ret (pe_tupleOf (by rfl) T.tup (pv 1)))))), ?_⟩
    refine ⟨by show 1 ≤ sizeLine; decide, fun l nl => ?_⟩
    refine ⟨_, rfl, a, rfl, ⟨_, same_tup (same_new nl) hS⟩, for_it (walk_tup (K := K) (a := a) (xs := zs.map V.str)) (fun i σ H' => ∃ (l : Addr) (y : Option V), σ = [some (.ref a), some (.ref l), y, none, none] ∧ Same H H' ∧ H l = none ∧ H' l = some (.lst ((setsOf (zs.take i)).map V.str)))
      ⟨l, none, rfl, same_new nl, nl, upd_same⟩ (fun i σ H' _ ⟨_, _, _, s1, _⟩ => same_tup s1 hS) ?_ ?_⟩
    · rintro i x σ H1 H2 hi ⟨l, y, rfl, s1, nl, hl⟩ ⟨rfl, hx⟩
      obtain ⟨z, hz, rfl⟩ := at_map hx
      have z3 := fit.each z (List.mem_of_getElem? hz)
      have sl : (setsOf (zs.take i)).length ≤ 243 := setsOf_len (fit.take i)
      have each := setsOf_each (zs := zs.take i)
      generalize hSS : setsOf (zs.take i) = S at hl sl each
      refine ⟨_, rfl, l, rfl, ⟨_, .inl (.inl hl)⟩, fun D nD => lc2_out (walk_list (K := K) (a := l) (xs := S.map V.str)) (fun i H3 => Same H2 H3 ∧ H3 D = some (.lst ((sets1 (S.take i) z).map V.str)))
        ⟨same_new nD, upd_same⟩ (fun i H3 _ p => .inl (.inl (p.1 _ _ hl))) ?_ ?_⟩
      · rintro j x H3 H4 hj ⟨s3, e3⟩ ⟨rfl, hx2⟩
        obtain ⟨s, hs, rfl⟩ := at_map hx2
        have ls := each s (List.mem_of_getElem? hs)
        refine ⟨rfl, _, rfl, z, rfl, lc2_in (walk_chars (z := z)) (fun k H5 => Same H2 H5 ∧ H5 D = some (.lst ((accS S z s j k).map V.str))) ⟨s3, by rw [accS_zero]; exact e3⟩ (fun _ _ _ _ => True.intro) ?_ ?_⟩
        · rintro k x H5 H6 hk ⟨s5, e5⟩ ⟨rfl, c, hc, rfl⟩
          refine ⟨rfl, _, rfl, _, rfl, s, c, rfl, rfl, ?_, _, e5, ?_, comp_same s5 nD, upd_same.trans (lst_next (accS_next hc))⟩
          · have c1 : c.length = 1 := by
              unfold chars at hc
              rw [List.getElem?_map] at hc
              cases e : z.cps.toList[k]? with
              | none =>
                rw [e] at hc
                cases hc
              | some u =>
                rw [e] at hc
                cases hc
                rfl
            have l5 : (zs.take i).length ≤ 5 := (fit.take i).many
            rw [ls, c1]
            exact Nat.le_of_lt (small1000 (by omega))
          · have g1 := sets1_take_len (S := S) (z := z) (i := j)
            have g2 : S.length * (chars z).length ≤ 243 * 3 := Nat.mul_le_mul sl z3
            rw [List.length_map]
            unfold accS
            rw [List.length_append, List.length_map, List.length_take]
            exact small1000 (by omega)
        · rintro H5 ⟨s5, e5⟩
          exact ⟨s5, by rw [← accS_done hs]; exact e5⟩
      · rintro H3 ⟨s3, e3⟩
        have nD' : H D = none := s1.free nD
        refine ⟨D, _, rfl, s1.trans s3, nD', ?_⟩
        rw [List.length_map, List.take_length] at e3
        rw [take_next hz, setsOf_snoc, hSS]
        exact e3
    · rintro σ H1 ⟨l, y, rfl, s1, nl, hl⟩
      rw [List.length_map, List.take_length] at hl
      exact ⟨_, rfl, .inl ⟨l, _, rfl, .inl (.inl hl), fun p np => q _ p (s1.trans (same_new np)) (s1.free np) upd_same⟩⟩
end
end Sw

set_option Elab.async false
set_option linter.all false
set_option maxRecDepth 100000
set_option maxHeartbeats 16000000

/-! Boards: the neighbours of a setting; the stands of a switch, alone and two by two. -/
namespace Sw
open PySem PySem.Spec PyProof.Rows L2
theorem scNbr : FnScope ["setting", "whole", "found", "switch", "stands", "front", "back", "stand"] ["setting", "whole"] (defScope sNbr) :=
  ⟨rfl, rfl, rfl, by decide +kernel, rfl, by decide +kernel, by decide +kernel⟩
theorem scOat : FnScope ["stands", "twos", "low", "high"] ["stands"] (defScope sOat) :=
  ⟨rfl, rfl, rfl, by decide +kernel, rfl, by decide +kernel, by decide +kernel⟩

/-! ### filtered doubles -/
section
variable {α β γ : Type}
def dblAt (ys : α → List β) (p : α → β → Bool) (f : α → β → γ) (a : α) (j : Nat) : List γ := (((ys a).take j).filter (p a)).map (f a)
def dbl (ys : α → List β) (p : α → β → Bool) (f : α → β → γ) (xs : List α) : List γ := xs.flatMap fun a => ((ys a).filter (p a)).map (f a)
theorem dblAt_zero {ys : α → List β} {p : α → β → Bool} {f : α → β → γ} {a : α} : dblAt ys p f a 0 = [] := by
  unfold dblAt
  simp
theorem dblAt_yes {ys : α → List β} {p : α → β → Bool} {f : α → β → γ} {a : α} {j : Nat} {b : β} (h : (ys a)[j]? = some b) (hp : p a b = true) : dblAt ys p f a (j + 1) = dblAt ys p f a j ++ [f a b] := by
  unfold dblAt
  rw [take_next h, List.filter_append, List.map_append, List.filter_cons_of_pos hp]
  rfl
theorem dblAt_no {ys : α → List β} {p : α → β → Bool} {f : α → β → γ} {a : α} {j : Nat} {b : β} (h : (ys a)[j]? = some b) (hp : p a b = false) : dblAt ys p f a (j + 1) = dblAt ys p f a j := by
  unfold dblAt
  rw [take_next h, List.filter_append, List.map_append, List.filter_cons_of_neg (by rw [hp]; decide)]
  simp
theorem dblAt_all {ys : α → List β} {p : α → β → Bool} {f : α → β → γ} {a : α} : dblAt ys p f a (ys a).length = ((ys a).filter (p a)).map (f a) := by
  unfold dblAt
  rw [List.take_length]
theorem dblAt_len {ys : α → List β} {p : α → β → Bool} {f : α → β → γ} {a : α} {j : Nat} : (dblAt ys p f a j).length ≤ (ys a).length := by
  unfold dblAt
  rw [List.length_map]
  refine Nat.le_trans (List.length_filter_le _ _) ?_
  rw [List.length_take]
  exact Nat.min_le_right _ _
theorem dbl_next {ys : α → List β} {p : α → β → Bool} {f : α → β → γ} {xs : List α} {i : Nat} {a : α} (h : xs[i]? = some a) :
    dbl ys p f (xs.take (i + 1)) = dbl ys p f (xs.take i) ++ dblAt ys p f a (ys a).length := by
  rw [dblAt_all]
  unfold dbl
  rw [take_next h, List.flatMap_append]
  simp
theorem dbl_len {ys : α → List β} {p : α → β → Bool} {f : α → β → γ} {m : Nat} : ∀ {xs : List α}, (∀ a ∈ xs, (ys a).length ≤ m) → (dbl ys p f xs).length ≤ xs.length * m
  | [], _ => Nat.zero_le _
  | a :: xs, h => by
    have h1 := dbl_len (ys := ys) (p := p) (f := f) (m := m) (xs := xs) fun b hb => h b (.tail _ hb)
    have h2 : (((ys a).filter (p a)).map (f a)).length ≤ m := by
      rw [List.length_map]
      exact Nat.le_trans (List.length_filter_le _ _) (h a (.head _))
    unfold dbl at h1 ⊢
    rw [List.flatMap_cons, List.length_append, List.length_cons, Nat.succ_mul]
    omega
theorem dbl_take_len {ys : α → List β} {p : α → β → Bool} {f : α → β → γ} {m i : Nat} {xs : List α} (h : ∀ a ∈ xs, (ys a).length ≤ m) : (dbl ys p f (xs.take i)).length ≤ xs.length * m := by
  refine Nat.le_trans (dbl_len fun a ha => h a (List.mem_of_mem_take ha)) ?_
  rw [List.length_take]
  exact Nat.mul_le_mul_right _ (Nat.min_le_right _ _)
end
theorem char_len {z c : Str} {k : Nat} (hc : (chars z)[k]? = some c) : c.length = 1 := by
  unfold chars at hc
  rw [List.getElem?_map] at hc
  cases e : z.cps.toList[k]? with
  | none =>
    rw [e] at hc
    cases hc
  | some u =>
    rw [e] at hc
    cases hc
    rfl
theorem strs_next {a b : List Str} {x : Str} {ys : List Str} (h : ys = b ++ [x]) : some (HO.lst ((a ++ b).map V.str ++ [V.str x])) = some (HO.lst ((a ++ ys).map V.str)) := by
  rw [h, List.map_append, List.map_append, List.map_append, List.append_assoc]
  rfl

/-! ### the stands of a switch, alone and two by two -/
def ltS (a b : Str) : Bool := decide (a.cps.toList < b.cps.toList)
def twosOf (z : Str) : List Str := dbl (fun _ => chars z) ltS (fun a b => a ++ b) (chars z)
def oats (z : Str) : List Str := chars z ++ twosOf z
section
variable {P : Program} {w : World} {K : PySem.W.Frag} {mg : Str → Option Value} {base : Heap}
def spOat : Sp := fun vs H Q _ => ∃ (z : Str), vs = [.str z] ∧ (chars z).length ≤ 3 ∧
  ∀ H' p, Same H H' → H p = none → H' p = some (.lst ((oats z).map V.str)) → Q (.ref p) H'
theorem ok_oat {f : Addr} {fd : FuncData} (F : Fun K "ones_and_twos" "ones_and_twos" sOat f fd) :
    FnOk P w K mg base CX0 1 f fd ["stands"] spOat := by
  refine F.ok scOat (fun vs H Q E h => ?_) (fun cdv A outer s H vs Q E hr h => ?_)
  · obtain ⟨z, rfl, _⟩ := h
    rfl
  · obtain ⟨z, rfl, z3, q⟩ := h
    refine ⟨_, (pss_cons (ps_setLc2 (i := 1) (own := [("low", 2), ("high", 3)]) (vs1 := [3]) (tt := tYes) (tt1 := _) (g := gName 2) (g1 := gName 3) rfl scOat.nd rfl rfl (sw_true rfl rfl rfl (by decide +kernel)) (pi_str (pv 0)) (blkOk_by (N := ["stands", "twos", "low", "high"]) (sc := defScope sOat) (by decide +kernel)) (by decide) (fun _ _ _ _ _ => pg_name (i := 2) scOat.nd rfl (Or.inl rfl)) (fun _ _ _ _ _ => pts_nil) (fun _ _ _ _ _ => (pi_str (pv 0))) (fun _ _ _ _ _ => pg_name (i := 3) scOat.nd rfl (Or.inl rfl)) (fun _ _ _ _ _ => (pts_one (pt_cmpR op_lt_str (pv 2) (pv 3) (nomark _)))) (fun _ _ _ _ _ => (pe_op op_add_str (pv 2) (pv 3))))
      (pss_one (ps_ret (pe_lst (pa_starS rfl (pv 0) (StX.pa_star (pv 1) pa_nil)))))), ?_⟩
    have cl := chars_len z
    refine ⟨_, rfl, z, rfl, fun D nD => lc2_out (walk_chars (z := z)) (fun i H3 => Same H H3 ∧ H3 D = some (.lst ((dbl (fun _ => chars z) ltS (fun a b => a ++ b) ((chars z).take i)).map V.str)))
      ⟨same_new nD, upd_same⟩ (fun _ _ _ _ => True.intro) ?_ ?_⟩
    · rintro i x H3 H4 hi ⟨s3, e3⟩ ⟨rfl, a, ha, rfl⟩
      have la := char_len ha
      refine ⟨rfl, _, rfl, z, rfl, lc2_in (walk_chars (z := z)) (fun j H5 => Same H H5 ∧ H5 D = some (.lst ((dbl (fun _ => chars z) ltS (fun a b => a ++ b) ((chars z).take i) ++ dblAt (fun _ => chars z) ltS (fun a b => a ++ b) a j).map V.str)))
        ⟨s3, by rw [dblAt_zero, List.append_nil]; exact e3⟩ (fun _ _ _ _ => True.intro) ?_ ?_⟩
      · rintro j x H5 H6 hj ⟨s5, e5⟩ ⟨rfl, b, hb, rfl⟩
        have lb := char_len hb
        refine ⟨rfl, _, rfl, _, rfl, a, b, rfl, rfl, _, rfl, ?_⟩
        cases hp : ltS a b with
        | true =>
          rw [show decide (a.cps.toList < b.cps.toList) = true from hp]
          refine iteT ⟨_, rfl, _, rfl, a, b, rfl, rfl, ?_, _, e5, ?_, comp_same s5 nD, upd_same.trans (strs_next (dblAt_yes (p := ltS) hb hp))⟩
          · rw [la, lb]
            exact Nat.le_of_lt (small1000 (by omega))
          · have g1 := dbl_take_len (ys := fun _ : Str => chars z) (p := ltS) (f := fun a b : Str => a ++ b) (i := i) (xs := chars z) (m := 3) fun _ _ => z3
            have g2 := dblAt_len (ys := fun _ : Str => chars z) (p := ltS) (f := fun a b : Str => a ++ b) (a := a) (j := j)
            rw [List.length_map, List.length_append]
            exact small1000 (by omega)
        | false =>
          rw [show decide (a.cps.toList < b.cps.toList) = false from hp]
          refine iteF ⟨s5, ?_⟩
          rw [dblAt_no (ys := fun _ : Str => chars z) (p := ltS) (f := fun a b : Str => a ++ b) (a := a) hb hp]
          exact e5
      · rintro H5 ⟨s5, e5⟩
        exact ⟨s5, by rw [dbl_next ha]; exact e5⟩
    · rintro H3 ⟨s3, e3⟩
      rw [List.take_length] at e3
      refine ⟨_, rfl, z, rfl, ?_, _, rfl, D, _, rfl, .inr (.inl (.inl e3)), ?_⟩
      · rw [← cl]
        exact Nat.le_of_lt (small1000 (by omega))
      · refine ⟨?_, fun p np => ?_⟩
        · have g1 := dbl_len (ys := fun _ : Str => chars z) (p := ltS) (f := fun a b : Str => a ++ b) (xs := chars z) (m := 3) fun _ _ => z3
          rw [List.length_append, List.length_append, List.length_map, List.length_map]
          exact Nat.le_of_lt (small1000 (by simp only [List.length_nil]; omega))
        · refine q _ p (s3.trans (same_new np)) (s3.free np) (upd_same.trans ?_)
          rw [List.append_nil]
          unfold oats twosOf
          rw [List.map_append]
end

/-! ### the neighbours of a setting -/
def neS (a b : Str) : Bool := !(b == a)
def nbr1 (s z c : Str) (k j : Nat) : List Str := dblAt (fun _ => chars z) neS (fun _ b => (cutS s none (some (k : Int)) ++ b) ++ cutS s (some ((k : Int) + 1)) none) c j
def nbrN (s : Str) (zs : List Str) : Nat → List Str
  | 0 => []
  | k + 1 => nbrN s zs k ++ (match zs[k]?, (chars s)[k]? with
    | some z, some c => nbr1 s z c k (chars z).length
    | _, _ => [])
def nbrs (s : Str) (zs : List Str) : List Str := (nbrN s zs zs.length).mergeSort strLe
theorem nbrN_next {s z c : Str} {zs : List Str} {k : Nat} (h : zs[k]? = some z) (h2 : (chars s)[k]? = some c) : nbrN s zs (k + 1) = nbrN s zs k ++ nbr1 s z c k (chars z).length := by
  show nbrN s zs k ++ (match zs[k]?, (chars s)[k]? with
    | some z, some c => nbr1 s z c k (chars z).length
    | _, _ => []) = _
  rw [h, h2]
theorem nbrN_len {s : Str} {zs : List Str} (f : Fits zs) : ∀ k, (nbrN s zs k).length ≤ k * 3
  | 0 => Nat.zero_le _
  | k + 1 => by
    have ih := nbrN_len (s := s) f k
    cases h : zs[k]? with
    | none =>
      have e : nbrN s zs (k + 1) = nbrN s zs k ++ (match zs[k]?, (chars s)[k]? with
        | some z, some c => nbr1 s z c k (chars z).length
        | _, _ => []) := rfl
      rw [e, h]
      simp only [List.append_nil]
      omega
    | some z =>
      cases h2 : (chars s)[k]? with
      | none =>
        have e : nbrN s zs (k + 1) = nbrN s zs k ++ (match zs[k]?, (chars s)[k]? with
          | some z, some c => nbr1 s z c k (chars z).length
          | _, _ => []) := rfl
        rw [e, h, h2]
        simp only [List.append_nil]
        omega
      | some c =>
        rw [nbrN_next h h2, List.length_append]
        have g := dblAt_len (ys := fun _ : Str => chars z) (p := neS) (f := fun _ b => (cutS s none (some (k : Int)) ++ b) ++ cutS s (some ((k : Int) + 1)) none) (a := c) (j := (chars z).length)
        have g2 := f.each z (List.mem_of_getElem? h)
        unfold nbr1
        omega
section
variable {P : Program} {w : World} {K : PySem.W.Frag} {mg : Str → Option Value} {base : Heap}
def spNbr (K : PySem.W.Frag) : Sp := fun vs H Q _ => ∃ (s : Str) (a : Addr) (zs : List Str), vs = [.str s, .ref a] ∧ SqT K H a (zs.map V.str) ∧ Fits zs ∧ s.length = zs.length ∧
  ∀ H' p, Same H H' → H p = none → H' p = some (.tup ((nbrs s zs).map V.str)) → Q (.ref p) H'
theorem ok_nbr {f : Addr} {fd : FuncData} (F : Fun K "neighbours_of" "neighbours_of" sNbr f fd) (T : TxB mg) :
    FnOk P w K mg base CX0 1 f fd ["setting", "whole"] (spNbr K) := by
  refine F.ok scNbr (fun vs H Q E h => ?_) (fun cdv A outer s H vs Q E hr h => ?_)
  · obtain ⟨s, a, zs, rfl, _⟩ := h
    rfl
  · obtain ⟨s, a, zs, rfl, hS, fit, sl, q⟩ := h
    refine ⟨_, (pss_cons (ps_set (i := 2) scNbr.nd rfl (.inl rfl) (pe_lst pa_nil))
      (pss_cons (ps_for PassesOwn.never rfl (pi_enumT (by rfl) T.enm (pa_cons (pv 1) pa_nil)) (pg_tup rfl (pgs_cons (pg_name (i := 3) scNbr.nd rfl (.inr rfl)) (pgs_cons (pg_name (i := 4) scNbr.nd rfl (.inl rfl)) pgs_nil))) (pss_cons (ps_set (i := 5) scNbr.nd rfl (.inr rfl) (pe_slice sl_str (pv 0) po_none (po_some (pv 3))))
      (pss_cons (ps_set (i := 6) scNbr.nd rfl (.inr rfl) (pe_slice sl_str (pv 0) (po_some (pe_op op_add (pv 3) pe_int)) po_none))
      (pss_one (ps_expr (pe_bm PySem.F.plainAttrs_list PySem.F.slot_list_extend PySem.F.type_list_extend mt_extend (pv 2) (pa_cons (pe_lc (own := [("stand", 7)]) (g := gName 7)  rfl scNbr.nd (pi_str (pv 4)) (blkOk_by (N := ["setting", "whole", "found", "switch", "stands", "front", "back", "stand"]) (sc := defScope sNbr) (by decide +kernel)) (fun _ _ _ _ _ => pg_name (i := 7) scNbr.nd rfl (Or.inl rfl)) (fun _ _ _ _ _ => (pts_one (pt_cmpR op_ne (pv 7) (pe_item_str (pv 0) (pv 3) (fun _ _ => rfl)) (nomark _)))) (fun _ _ _ _ _ => (pe_op op_add_str (pe_op op_add_str (pv 5) (pv 7)) (pv 6)))) pa_nil)))))))
      (pss_one (ps_ret (pe_tupleOf (by rfl) T.tup (pe_callB (call_sortS hr.units) (by rfl) T.srt boot_sorted (pa_cons (pv 2) pa_nil))))))), ?_⟩
    have s5 : s.length ≤ 5 := by have := fit.many; omega
    have sz : s.length ≤ sizeLine := Nat.le_of_lt (small1000 (by omega))
    refine ⟨by show 0 ≤ sizeLine; decide, fun l nl => ?_⟩
    have nl0 := nl
    refine ⟨_, rfl, a, _, rfl, same_tup (same_new nl) hS, for_enumT (xs := zs.map V.str) (fun i σ H' => ∃ (y1 y2 y3 y4 : Option V), σ = [some (.str s), some (.ref a), some (.ref l), y1, y2, y3, y4, none] ∧ Same H H' ∧ H' l = some (.lst ((nbrN s zs i).map V.str)))
      ⟨none, none, none, none, rfl, same_new nl, upd_same⟩ (fun i σ H' ⟨_, _, _, _, _, s1, _⟩ => same_tup s1 hS) ?_ ?_⟩
    · rintro k x t σ H1 hx ⟨y1, y2, y3, y4, rfl, s1, hl⟩ nt
      obtain ⟨z, hz, rfl⟩ := at_map hx
      have z3 := fit.each z (List.mem_of_getElem? hz)
      have kl : k < zs.length := (List.getElem?_eq_some_iff.mp hz).1
      obtain ⟨u, hu⟩ : ∃ u, s.cps[k]? = some u := ⟨s.cps[k]'(by show k < s.cps.size; have : s.cps.size = zs.length := sl; omega), by simp⟩
      have hc := chars_at hu
      have nlt : l ≠ t := ne_of_none hl nt
      have s2 : Same H (upd H1 t (.tup [.int (k : Nat), .str z])) := s1.trans (same_new nt)
      have hl2 : (upd H1 t (.tup [.int (k : Nat), .str z])) l = some (.lst ((nbrN s zs k).map V.str)) := (same_new nt) _ _ hl
      refine ⟨t, _, rfl, .inl (.inl upd_same), rfl, _, _, rfl, _, _, rfl, rfl, ?_⟩
      generalize upd H1 t (.tup [.int (k : Nat), .str z]) = H2 at s2 hl2 ⊢
      refine ⟨_, rfl, _, rfl, _, rfl, s, rfl, sz, ?_⟩
      refine ⟨_, rfl, _, rfl, _, _, rfl, rfl, _, rfl, s, rfl, sz, ?_⟩
      refine ⟨_, rfl, .inl ⟨rfl, _, .inl (.inl hl2)⟩, _, rfl, z, rfl, fun D nD => lc_it (walk_chars (z := z)) (fun j H3 => Same H2 H3 ∧ H3 D = some (.lst ((nbr1 s z ⟨#[u]⟩ k j).map V.str)))
        ⟨same_new nD, upd_same.trans (by unfold nbr1; rw [dblAt_zero]; rfl)⟩ (fun _ _ _ _ => True.intro) ?_ ?_⟩
      · rintro j x H3 H4 hj ⟨s3, e3⟩ ⟨rfl, b, hb, rfl⟩
        have lb := char_len hb
        refine ⟨rfl, _, rfl, _, rfl, _, rfl, s, (k : Int), u, rfl, rfl, by omega, by omega, by omega, by simpa using hu, rfl, _, rfl, ?_⟩
        have dd : (!decide (V.str b = V.str (⟨#[u]⟩ : Str))) = neS ⟨#[u]⟩ b := by
          rw [dec_str]
          rfl
        rw [dd]
        cases hp : neS ⟨#[u]⟩ b with
        | true =>
          have c1 := cutS_length s none (some (k : Int))
          have c2 := cutS_length s (some ((k : Int) + 1)) none
          refine iteT ⟨_, rfl, _, rfl, _, _, rfl, rfl, ?_, _, rfl, _, _, rfl, rfl, ?_, _, e3, ?_, comp_same s3 nD, upd_same.trans (lst_next (dblAt_yes (p := neS) hb hp))⟩
          · exact Nat.le_of_lt (small1000 (by omega))
          · rw [str_len_app]
            exact Nat.le_of_lt (small1000 (by omega))
          · have g2 := dblAt_len (ys := fun _ : Str => chars z) (p := neS) (f := fun _ b => (cutS s none (some (k : Int)) ++ b) ++ cutS s (some ((k : Int) + 1)) none) (a := ⟨#[u]⟩) (j := j)
            rw [List.length_map]
            exact small1000 (by unfold nbr1; omega)
        | false =>
          refine iteF ⟨s3, ?_⟩
          unfold nbr1
          rw [dblAt_no (ys := fun _ : Str => chars z) (p := neS) (a := ⟨#[u]⟩) hb hp]
          exact e3
      · rintro H3 ⟨s3, e3⟩
        refine ⟨l, D, _, _, rfl, rfl, s3 _ _ hl2, e3, ?_, ?_⟩
        · have g1 := nbrN_len (s := s) fit k
          have g2 := dblAt_len (ys := fun _ : Str => chars z) (p := neS) (f := fun _ b => (cutS s none (some (k : Int)) ++ b) ++ cutS s (some ((k : Int) + 1)) none) (a := ⟨#[u]⟩) (j := (chars z).length)
          have g3 := fit.many
          rw [List.length_map, List.length_map]
          exact Nat.le_of_lt (small1000 (by unfold nbr1; omega))
        · refine ⟨_, _, _, _, rfl, comp_same (s2.trans s3) nl0, upd_same.trans ?_⟩
          rw [nbrN_next hz hc, List.map_append]
    · rintro σ H1 ⟨y1, y2, y3, y4, rfl, s1, hl⟩
      rw [List.length_map] at hl
      refine ⟨_, rfl, l, _, rfl, .inl (.inl hl), fun p np => .inl ⟨p, _, rfl, .inl (.inl upd_same), fun r nr => ?_⟩⟩
      exact q _ r (s1.trans ((same_new np).trans (same_new nr))) ((s1.trans (same_new np)).free nr) upd_same
end
end Sw

set_option Elab.async false
set_option linter.all false
set_option maxRecDepth 100000
set_option maxHeartbeats 16000000

/-! Boards: a board is made. -/
namespace Sw
open PySem PySem.Spec PyProof.Rows L2
theorem scInit : FnScope ["self", "sizes", "index", "size", "setting"] ["self", "sizes"] (defScope sInit) :=
  ⟨rfl, rfl, rfl, by decide +kernel, rfl, by decide +kernel, by decide +kernel⟩

def bf1 (a : Addr) : List (Str × V) := putF "_sizes" (.ref a) []
def bf2 (a aw : Addr) : List (Str × V) := putF "_whole" (.ref aw) (bf1 a)
def bf3 (a aw as : Addr) : List (Str × V) := putF "_settings" (.ref as) (bf2 a aw)
def bf4 (a aw as ab : Addr) : List (Str × V) := putF "_beside" (.ref ab) (bf3 a aw as)
theorem putF_few (f : Str) (v : V) : ∀ fs : List (Str × V), (putF f v fs).length ≤ fs.length + 1
  | [] => Nat.le_refl 1
  | p :: fs => by
    have ih := putF_few f v fs
    unfold putF
    split
    · simp
    · simp only [List.length_cons]; omega
theorem bf1_len (a : Addr) : (bf1 a).length ≤ 1 := putF_few _ _ _
theorem bf2_len (a aw : Addr) : (bf2 a aw).length ≤ 2 := Nat.le_trans (putF_few _ _ _) (Nat.succ_le_succ (bf1_len a))
theorem bf3_len (a aw as : Addr) : (bf3 a aw as).length ≤ 3 := Nat.le_trans (putF_few _ _ _) (Nat.succ_le_succ (bf2_len a aw))
section
variable {a aw as ab : Addr}
theorem bf2_whole : (bf2 a aw).lookup ("_whole" : Str) = some (.ref aw) := by unfold bf2; rw [lookup_putF, if_pos rfl]
theorem bf3_whole : (bf3 a aw as).lookup ("_whole" : Str) = some (.ref aw) := by unfold bf3; rw [lookup_putF, if_neg (by decide +kernel), bf2_whole]
theorem bf3_settings : (bf3 a aw as).lookup ("_settings" : Str) = some (.ref as) := by unfold bf3; rw [lookup_putF, if_pos rfl]
theorem bf4_beside : (bf4 a aw as ab).lookup ("_beside" : Str) = some (.ref ab) := by unfold bf4; rw [lookup_putF, if_pos rfl]
theorem bf4_settings : (bf4 a aw as ab).lookup ("_settings" : Str) = some (.ref as) := by unfold bf4; rw [lookup_putF, if_neg (by decide +kernel), bf3_settings]
theorem bf4_whole : (bf4 a aw as ab).lookup ("_whole" : Str) = some (.ref aw) := by unfold bf4; rw [lookup_putF, if_neg (by decide +kernel), bf3_whole]
theorem bf4_sizes : (bf4 a aw as ab).lookup ("_sizes" : Str) = some (.ref a) := by
  unfold bf4 bf3 bf2 bf1
  rw [lookup_putF, if_neg (by decide +kernel), lookup_putF, if_neg (by decide +kernel), lookup_putF, if_neg (by decide +kernel), lookup_putF, if_pos rfl]
theorem bf4_no {m : Str} (h1 : ¬ m = "_sizes") (h2 : ¬ m = "_whole") (h3 : ¬ m = "_settings") (h4 : ¬ m = "_beside") : (bf4 a aw as ab).lookup m = none := by
  unfold bf4 bf3 bf2 bf1
  rw [lookup_putF, if_neg h4, lookup_putF, if_neg h3, lookup_putF, if_neg h2, lookup_putF, if_neg h1]
  rfl
end
/-- what the top has made of the class -/
structure TxC (K : PySem.W.Frag) (mg : Str → Option Value) (C fI : Addr) : Prop where
  cl : Cls K C
  n1 : NoAttr K C "_sizes"
  n2 : NoAttr K C "_whole"
  n3 : NoAttr K C "_settings"
  n4 : NoAttr K C "_beside"
  mgC : mg "Board" = some (.ref C)
  mkB : Mk K C fI
/-- the defs beside it -/
structure TxD (K : PySem.W.Frag) (mg : Str → Option Value) (a : Nat → Addr) (d : Nat → FuncData) : Prop where
  FI : Fun K "is_size" "is_size" sIsz (a 0) (d 0)
  bI : Binds K (d 0) ["value"] []
  gI : mg "is_size" = some (.ref (a 0))
  FF : Fun K "first_wrong_size" "first_wrong_size" sFws (a 1) (d 1)
  bF : Binds K (d 1) ["sizes"] []
  gF : mg "first_wrong_size" = some (.ref (a 1))
  FS : Fun K "settings_of" "settings_of" sSets (a 2) (d 2)
  bS : Binds K (d 2) ["part"] []
  gS : mg "settings_of" = some (.ref (a 2))
  FN : Fun K "neighbours_of" "neighbours_of" sNbr (a 3) (d 3)
  bN : Binds K (d 3) ["setting", "whole"] []
  gN : mg "neighbours_of" = some (.ref (a 3))

def wholeOf (ns : List Int) : List Str := ns.map fun n => cutS "012" none (some n)
theorem fws_ok : ∀ (ns : List Int) (i : Nat) (m : Int), i ≤ 5 → fwsAt i m ns = none → i + ns.length ≤ 5 ∧ ∀ n ∈ ns, isz n = true
  | [], i, m, hi, _ => ⟨hi, fun n h => by cases h⟩
  | n :: r, i, m, hi, h => by
    rw [fws_cons] at h
    by_cases h1 : i = 5 ∨ isz n = false
    · rw [if_pos h1] at h
      cases h
    · rw [if_neg h1] at h
      by_cases h2 : 48 < m * n
      · rw [if_pos h2] at h
        cases h
      · rw [if_neg h2] at h
        have i5 : ¬ i = 5 := fun z => h1 (.inl z)
        obtain ⟨h3, h4⟩ := fws_ok r (i + 1) (m * n) (by omega) h
        refine ⟨by rw [List.length_cons]; omega, fun k hk => ?_⟩
        rcases List.mem_cons.mp hk with e | e
        · rw [e]
          cases z : isz n with
          | true => rfl
          | false => exact absurd (.inr z) h1
        · exact h4 k e
theorem cut_few {n : Int} (h : isz n = true) : (chars (cutS "012" none (some n))).length ≤ 3 := by
  have := of_decide_eq_true h
  rcases this with e | e <;> subst e <;> decide +kernel
theorem whole_fits {ns : List Int} (h : fwsAt 0 1 ns = none) : Fits (wholeOf ns) := by
  obtain ⟨h1, h2⟩ := fws_ok ns 0 1 (by decide) h
  refine ⟨by unfold wholeOf; rw [List.length_map]; omega, fun z hz => ?_⟩
  unfold wholeOf at hz
  obtain ⟨n, hn, rfl⟩ := List.mem_map.mp hz
  exact cut_few (h2 n hn)
section
variable {J : It} {n : Nat} {G : Hp → Prop} {Y : Nat → Hp → V → Hp → Prop}
/-- a dict comprehension over a walk -/
theorem dc_it (w : Walk J n G Y) {g : TG} {tt : TT} {tk tv : TE} {vs : List Nat} {σ : L2.St} {H1 : Hp} {D : Addr} {Qd : Hp → Prop} (Pv : Nat → Hp → Prop) (h0 : Pv 0 (upd H1 D (.dK []))) (hG : ∀ i H, i ≤ n → Pv i H → G H)
    (hs : ∀ i x H H', i < n → Pv i H → Y i H x H' → g x (wipe σ vs) H' fun σ2 H2 => wipe σ2 vs = wipe σ vs ∧ tt σ2 H2 fun b H3 =>
      if b = true then tk σ2 H3 fun y H4 => tv σ2 H4 fun z H5 => ∃ kvs k, y = kV k ∧ H5 D = some (.dK kvs) ∧ kvs.length < sizeLine ∧ Pv (i + 1) (upd H5 D (.dK (putK kvs k z))) else Pv (i + 1) H3) (hd : ∀ H, Pv n H → Qd H) :
    ∃ W : Nat → Nat → Hp → Prop, (∃ m, W 0 m (upd H1 D (.dK []))) ∧ ∀ i m H, W i m H →
      (J.stop i H ∧ Qd H) ∨ (J.go i H ∧ ∃ Nx : Hp → Prop, (∀ H', Nx H' → ∃ m', m' < m ∧ W (i + 1) m' H') ∧ ∀ x H', J.yld i H x H' → g x (wipe σ vs) H' fun σ2 H2 => wipe σ2 vs = wipe σ vs ∧ tt σ2 H2 fun b H3 =>
        if b = true then tk σ2 H3 fun y H4 => tv σ2 H4 fun z H5 => ∃ kvs k, y = kV k ∧ H5 D = some (.dK kvs) ∧ kvs.length < sizeLine ∧ Nx (upd H5 D (.dK (putK kvs k z))) else Nx H3) := by
  refine ⟨fun i m H => m = n - i ∧ i ≤ n ∧ Pv i H, ⟨n, by simp, Nat.zero_le _, h0⟩, ?_⟩
  rintro i m H ⟨rfl, hi, p⟩
  have q := hG i H hi p
  by_cases hlt : i < n
  · refine .inr ⟨w.goes i H hlt q, Pv (i + 1), fun H' p' => ⟨n - (i + 1), by omega, rfl, hlt, p'⟩, fun x H' y => hs i x H H' hlt p (w.yields i H x H' hlt q y)⟩
  · have e : i = n := by omega
    subst e
    exact .inl ⟨w.stops H q, hd H p⟩
end
theorem whole_next {ns : List Int} {i : Nat} {n : Int} (h : ns[i]? = some n) : wholeOf (ns.take (i + 1)) = wholeOf (ns.take i) ++ [cutS "012" none (some n)] := by
  unfold wholeOf
  rw [take_next h, List.map_append]
  rfl
theorem putK_few (c : List (Key × V)) (k : Key) (x : V) : (putK c k x).length ≤ c.length + 1 := by
  unfold putK
  by_cases e : (c.any fun kv => decide (kv.1 = k)) = true
  · rw [if_pos e, List.length_map]
    omega
  · rw [if_neg e, List.length_append]
    simp
/-- what a dict of neighbours holds -/
structure Besides (H : Hp) (kvs : List (Key × V)) (ss zs : List Str) : Prop where
  has : ∀ s ∈ ss, ∃ p, valV kvs (Sum.inr s : Key) = some (.ref p) ∧ H p = some (.tup ((nbrs s zs).map V.str))
  only : ∀ k, (valV kvs k).isSome = true → ∃ s ∈ ss, k = Sum.inr s
/-- a board stands at x -/
def BoardAt (K : PySem.W.Frag) (C : Addr) (H : Hp) (x : Addr) (ns : List Int) : Prop := ∃ (dx a aw as ab : Addr) (kvs : List (Key × V)),
  H x = some (.ins C dx (bf4 a aw as ab)) ∧ SqT K H a (ns.map V.int) ∧ H aw = some (.tup ((wholeOf ns).map V.str)) ∧
  H as = some (.tup ((setsOf (wholeOf ns)).map V.str)) ∧ H ab = some (.dK kvs) ∧ Besides H kvs (setsOf (wholeOf ns)) (wholeOf ns)
theorem Besides.same {H H' : Hp} {kvs : List (Key × V)} {ss zs : List Str} (s : Same H H') (b : Besides H kvs ss zs) : Besides H' kvs ss zs :=
  ⟨fun x hx => let ⟨p, e1, e2⟩ := b.has x hx; ⟨p, e1, s _ _ e2⟩, b.only⟩
theorem BoardAt.same {K : PySem.W.Frag} {C : Addr} {H H' : Hp} {x : Addr} {ns : List Int} (s : Same H H') (b : BoardAt K C H x ns) : BoardAt K C H' x ns := by
  obtain ⟨dx, a, aw, as, ab, kvs, h1, h2, h3, h4, h5, h6⟩ := b
  exact ⟨dx, a, aw, as, ab, kvs, s _ _ h1, same_tup s h2, s _ _ h3, s _ _ h4, s _ _ h5, h6.same s⟩
theorem tyx_tup {K : PySem.W.Frag} {H : Hp} {a : Addr} {xs : List V} (h : SqT K H a xs) : TyX K H (.ref a) (.type "tuple") := by
  rcases h with (h | ⟨o, h⟩) | ⟨o, its, n, h1, h2, _⟩
  · exact .base (.tup h)
  · exact .fTuple h
  · exact .kTuple h1 h2
/-- all but one stand as they stood -/
def Keeps (x : Addr) (H H' : Hp) : Prop := ∀ b o, H b = some o → b ≠ x → H' b = some o
theorem Keeps.trans {x : Addr} {H H1 H2 : Hp} (a : Keeps x H H1) (b : Keeps x H1 H2) : Keeps x H H2 := fun c o e n => b c o (a c o e n) n
theorem Keeps.of {x : Addr} {H H' : Hp} (s : Same H H') : Keeps x H H' := fun b o e _ => s b o e
theorem Keeps.upd {x : Addr} {H : Hp} {o : HO} : Keeps x H (upd H x o) := fun b u e n => by rw [upd_ne n]; exact e
theorem Keeps.tup {K : PySem.W.Frag} {x C dx a : Addr} {H H' : Hp} {fs : List (Str × V)} {xs : List V} (k : Keeps x H H') (hx : H x = some (.ins C dx fs)) (h : SqT K H a xs) : SqT K H' a xs := by
  rcases h with (h | ⟨o, h⟩) | h
  · exact .inl (.inl (k _ _ h (ne_of h hx (by intro z; cases z))))
  · exact .inl (.inr ⟨o, k _ _ h (ne_of h hx (by intro z; cases z))⟩)
  · exact .inr h
section
variable {P : Program} {w : World} {K : PySem.W.Frag} {mg : Str → Option Value} {base : Heap} {C fI : Addr} {ad : Nat → Addr} {dd : Nat → FuncData}
def spInit (K : PySem.W.Frag) (C : Addr) : Sp := fun vs H Q _ => ∃ (x a dx : Addr) (ns : List Int), vs = [.ref x, .ref a] ∧ H x = some (.ins C dx []) ∧ SqT K H a (ns.map V.int) ∧ ns ≠ [] ∧ fwsAt 0 1 ns = none ∧
  ∀ H', Keeps x H H' → BoardAt K C H' x ns → Q .non H'
theorem ok_init {f : Addr} {fd : FuncData} (F : Fun K "__init__" "Board.__init__" sInit f fd) (T : TxB mg) (B : TxC K mg C fI) (L : TxD K mg ad dd) :
    FnOk P w K mg base CX0 3 f fd ["self", "sizes"] (spInit K C) := by
  have GF : FnOk P w K mg base CX0 2 (ad 1) (dd 1) ["sizes"] (spFws K) := ok_fws L.FF L.FI L.bI L.gI T
  have GS : FnOk P w K mg base CX0 1 (ad 2) (dd 2) ["part"] (spSets K) := ok_sets L.FS T
  have GN : FnOk P w K mg base CX0 1 (ad 3) (dd 3) ["setting", "whole"] (spNbr K) := ok_nbr L.FN T
  obtain ⟨_, stT⟩ := T.st
  refine F.ok scInit (fun vs H Q E h => ?_) (fun cdv A outer s H vs Q E hr h => ?_)
  · obtain ⟨x, a, dx, ns, rfl, _⟩ := h
    rfl
  · obtain ⟨x, a, dx, ns, rfl, hx, hS, ne, hw, q⟩ := h
    have hr1 : Room 1 (A.deeper (envOfC "Board.__init__" (defScope sInit) s.heap.objs.size f cdv)) := hr.mono (by decide)
    have fit := whole_fits hw
    refine ⟨_, (pss_cons (ps_if (PW.pt (pw_or (pt_not (pt_val (pe_callB call_isi (by rfl) T.isi (by decide +kernel) (pa_cons (pv 1) (pa_cons (pe_bltn (v := .ty "tuple") (by rfl) T.tup (by decide +kernel) rfl) pa_nil))))) (pw_or1 (pt_cmpR op_eq (pe_callB call_len_seq (by rfl) T.len PySem.boot_len (pa_cons (pv 1) pa_nil)) pe_int (nomark _))))) (pss_one ps_never) pss_nil)
      (pss_cons (ps_set (i := 2) scInit.nd rfl (.inl rfl) (pe_call GF hr (by rfl) L.gF L.FF.kp L.bF .nil pass0 (pa_cons (pv 1) pa_nil)))
      (pss_cons (ps_if (pt_cmpR op_notN (pv 2) pe_non (nomark _)) (pss_one ps_never) pss_nil)
      (pss_cons (ps_fld (pv 0) (pv 1) rfl)
      (pss_cons (ps_fld (pv 0) (pe_tupleOf (by rfl) T.tup (pe_lc (own := [("size", 3)]) (g := gName 3) (tt := tYes) rfl scInit.nd (pi_tup (pv 1)) (blkOk_by (N := ["self", "sizes", "index", "size", "setting"]) (sc := defScope sInit) (by decide +kernel)) (fun _ _ _ _ _ => pg_name (i := 3) scInit.nd rfl (Or.inl rfl)) (fun _ _ _ _ _ => pts_nil) (fun _ _ _ _ _ => (pe_slice sl_str (pe_glob (v := .str "012") (by rfl) stT ⟨_, rfl⟩) po_none (po_some (pv 3)))))) rfl)
      (pss_cons (ps_fld (pv 0) (pe_call GS hr1 (by rfl) L.gS L.FS.kp L.bS .nil pass0 (pa_cons (pe_fldK K rfl (pv 0) (by rfl)) pa_nil)) rfl)
      (pss_one (ps_fld (pv 0) (pe_dc (own := [("setting", 4)]) (g := gName 4) (tt := tYes) rfl scInit.nd (pi_tup (pe_fld (pv 0) rfl)) (blkOk_by (N := ["self", "sizes", "index", "size", "setting"]) (sc := defScope sInit) (by decide +kernel)) (fun _ _ _ _ _ => pg_name (i := 4) scInit.nd rfl (Or.inl rfl)) (fun _ _ _ _ _ => pts_nil) (fun _ _ _ _ _ => (pv 4)) (fun _ _ _ _ _ => (pe_call GN hr1 (by rfl) L.gN L.FN.kp L.bN .nil pass0 (pa_cons (pv 4) (pa_cons (pe_fldK K rfl (pv 0) (by rfl)) pa_nil))))) rfl)))))))), ?_⟩
    refine ⟨_, rfl, .ref a, .ty "tuple", .type "tuple", .type "tuple", true, rfl, .ty _, tyx_tup hS, kit_ty (by decide +kernel), _, rfl, iteF ⟨_, rfl, a, _, rfl, .inr hS, rfl, _, rfl, ite2 (fun z => ?_) (fun _ => ?_)⟩⟩
    · have z := V.int.inj (of_decide_eq_true z)
      rw [List.length_map] at z
      exact ne (List.eq_nil_of_length_eq_zero (by omega))
    refine ⟨_, rfl, a, ns, rfl, hS, fun H1 s1 => ?_⟩
    rw [hw]
    refine ⟨_, rfl, rfl, _, rfl, iteF ?_⟩
    have hx1 := s1 _ _ hx
    -- self._sizes = sizes
    refine ⟨_, rfl, _, rfl, x, C, dx, [], rfl, hx1, B.cl, B.n1, by decide, ?_⟩
    generalize hH2 : upd H1 x (.ins C dx (putF "_sizes" (.ref a) [])) = H2
    have hx2 : H2 x = some (.ins C dx (bf1 a)) := by rw [← hH2]; exact upd_same
    have k2 : Keeps x H H2 := by rw [← hH2]; exact (Keeps.of s1).trans Keeps.upd
    have hS2 := k2.tup hx hS
    -- self._whole = tuple(..)
    refine ⟨_, rfl, a, rfl, ⟨_, hS2⟩, fun D nD => lc_it (walk_tup (K := K) (a := a) (xs := ns.map V.int)) (fun j H3 => Same H2 H3 ∧ H3 D = some (.lst ((wholeOf (ns.take j)).map V.str)))
      ⟨same_new nD, upd_same⟩ (fun j H3 _ p => same_tup p.1 hS2) ?_ ?_⟩
    · rintro j v H3 H4 hj ⟨s3, e3⟩ ⟨rfl, hv⟩
      obtain ⟨n, hn, rfl⟩ := at_map hv
      refine ⟨rfl, _, rfl, n, rfl, _, rfl, by decide +kernel, _, e3, ?_, comp_same s3 nD, upd_same.trans (lst_next (whole_next hn))⟩
      have g := fit.many
      have g2 : (wholeOf (ns.take j)).length ≤ (wholeOf ns).length := by unfold wholeOf; rw [List.length_map, List.length_map, List.length_take]; exact Nat.min_le_right _ _
      rw [List.length_map]
      exact small1000 (by omega)
    rintro H3 ⟨s3, e3⟩
    rw [List.length_map, List.take_length] at e3
    refine .inl ⟨D, _, rfl, .inl (.inl e3), fun aw naw => ?_⟩
    have xaw : x ≠ aw := ne_of_none (s3 _ _ hx2) naw
    have hx4 : (upd H3 aw (.tup ((wholeOf ns).map V.str))) x = some (.ins C dx (bf1 a)) := (same_new naw) _ _ (s3 _ _ hx2)
    refine ⟨_, rfl, x, C, dx, bf1 a, rfl, hx4, B.cl, B.n2, Nat.lt_of_le_of_lt (bf1_len a) (by decide), ?_⟩
    generalize hH5 : upd (upd H3 aw (.tup ((wholeOf ns).map V.str))) x (.ins C dx (putF "_whole" (.ref aw) (bf1 a))) = H5
    have hx5 : H5 x = some (.ins C dx (bf2 a aw)) := by rw [← hH5]; exact upd_same
    have k5 : Keeps x H2 H5 := by rw [← hH5]; exact (Keeps.of (s3.trans (same_new naw))).trans Keeps.upd
    have hw5 : H5 aw = some (.tup ((wholeOf ns).map V.str)) := by rw [← hH5, upd_ne xaw.symm]; exact upd_same
    -- self._settings = settings_of(self._whole)
    refine ⟨_, rfl, x, C, dx, _, _, rfl, hx5, B.cl, B.n2, bf2_whole, aw, wholeOf ns, rfl, .inl (.inl hw5), fit, fun H6 as s6 nas has => ?_⟩
    have xas : x ≠ as := ne_of_none hx5 nas
    refine ⟨_, rfl, x, C, dx, bf2 a aw, rfl, s6 _ _ hx5, B.cl, B.n3, Nat.lt_of_le_of_lt (bf2_len a aw) (by decide), ?_⟩
    generalize hH7 : upd H6 x (.ins C dx (putF "_settings" (.ref as) (bf2 a aw))) = H7
    have hx7 : H7 x = some (.ins C dx (bf3 a aw as)) := by rw [← hH7]; exact upd_same
    have k7 : Keeps x H5 H7 := by rw [← hH7]; exact (Keeps.of s6).trans Keeps.upd
    have hw7 : H7 aw = some (.tup ((wholeOf ns).map V.str)) := k7 _ _ hw5 xaw.symm
    have hs7 : H7 as = some (.tup ((setsOf (wholeOf ns)).map V.str)) := by rw [← hH7, upd_ne xas.symm]; exact has
    -- self._beside = {..}
    have lens := setsOf_each (zs := wholeOf ns)
    have few := setsOf_len fit
    refine ⟨_, rfl, x, C, dx, _, _, rfl, hx7, B.cl, B.n3, bf3_settings, as, rfl, ⟨_, .inl (.inl hs7)⟩, fun D2 nD2 => dc_it (walk_tup (K := K) (a := as) (xs := (setsOf (wholeOf ns)).map V.str)) (fun j H8 => Same H7 H8 ∧ ∃ kvs, H8 D2 = some (.dK kvs) ∧ kvs.length ≤ j ∧ Besides H8 kvs ((setsOf (wholeOf ns)).take j) (wholeOf ns))
      ⟨same_new nD2, [], upd_same, Nat.le_refl _, (fun s hs => by cases hs), (fun k hk => by cases hk)⟩ (fun j H8 _ p => .inl (.inl (p.1 _ _ hs7))) ?_ ?_⟩
    · rintro j v H8 H9 hj ⟨s8, kvs, e8, l8, b8⟩ ⟨rfl, hv⟩
      obtain ⟨s, hs, rfl⟩ := at_map hv
      rw [List.length_map] at hj
      refine ⟨rfl, _, rfl, _, rfl, _, rfl, x, C, dx, _, _, rfl, s8 _ _ hx7, B.cl, B.n2, bf3_whole, s, aw, wholeOf ns, rfl, .inl (.inl (s8 _ _ hw7)), fit, lens s (List.mem_of_getElem? hs), fun H10 p s10 np hp => ?_⟩
      have pD : D2 ≠ p := ne_of_none e8 np
      refine ⟨kvs, Sum.inr s, rfl, s10 _ _ e8, small1000 (by omega), comp_same (s8.trans s10) nD2, _, upd_same, Nat.le_trans (putK_few _ _ _) (Nat.succ_le_succ l8), ?_, ?_⟩
      · intro t ht
        rw [take_next hs] at ht
        rw [valV_put]
        by_cases e : (Sum.inr t : Key) = Sum.inr s
        · rw [if_pos e]
          have e2 : t = s := by cases e; rfl
          subst e2
          exact ⟨p, rfl, by rw [upd_ne pD.symm]; exact hp⟩
        · rw [if_neg e]
          rcases List.mem_append.mp ht with h1 | h1
          · obtain ⟨r, e1, e2⟩ := b8.has t h1
            have rD : r ≠ D2 := ne_of e2 e8 (by intro z; cases z)
            exact ⟨r, e1, by rw [upd_ne rD]; exact s10 _ _ e2⟩
          · rw [List.mem_singleton.mp h1] at e
            exact absurd rfl e
      · intro k hk
        rw [valV_put] at hk
        rw [take_next hs]
        by_cases e : k = Sum.inr s
        · exact ⟨s, List.mem_append.mpr (.inr (.head _)), e⟩
        · rw [if_neg e] at hk
          obtain ⟨t, h1, h2⟩ := b8.only k hk
          exact ⟨t, List.mem_append.mpr (.inl h1), h2⟩
    · rintro H8 ⟨s8, kvs, e8, l8, b8⟩
      rw [List.length_map, List.take_length] at b8
      have hx8 := s8 _ _ hx7
      have xD : x ≠ D2 := ne_of_none hx7 nD2
      refine ⟨_, rfl, x, C, dx, bf3 a aw as, rfl, hx8, B.cl, B.n4, Nat.lt_of_le_of_lt (bf3_len a aw as) (by decide), ?_⟩
      have k9 : Keeps x H7 (upd H8 x (.ins C dx (putF "_beside" (.ref D2) (bf3 a aw as)))) := (Keeps.of s8).trans Keeps.upd
      have kk := (k2.trans k5).trans (k7.trans k9)
      refine q _ kk ⟨dx, a, aw, as, D2, kvs, upd_same, kk.tup hx hS, k9 _ _ hw7 xaw.symm, k9 _ _ hs7 xas.symm, by rw [upd_ne xD.symm]; exact e8, fun s hs => ?_, b8.only⟩
      obtain ⟨r, e1, e2⟩ := b8.has s hs
      exact ⟨r, e1, by rw [upd_ne (ne_of e2 hx8 (by intro z; cases z))]; exact e2⟩
end
end Sw

set_option Elab.async false
set_option linter.all false
set_option maxRecDepth 100000
set_option maxHeartbeats 16000000

/-! Boards: the squares. -/
namespace Sw
open PySem PySem.Spec PyProof.Rows L2
theorem scSqs : FnScope ["self", "parts", "stands", "corners", "part", "some"] ["self"] (defScope sSqs) :=
  ⟨rfl, rfl, rfl, by decide +kernel, rfl, by decide +kernel, by decide +kernel⟩

def part1 (ps : List (List Str)) (z : Str) : List (List Str) := dbl (fun _ : List Str => oats z) (fun _ _ => true) (fun p s => p ++ [s]) ps
def partsOf (zs : List Str) : List (List Str) := zs.foldl part1 [[]]
def okPart (p : List Str) : Bool := (Txt.join "" p).length == p.length + 2
def cornersOf (zs : List Str) : List (List Str) := ((partsOf zs).filter okPart).map setsOf
def sqData (zs : List Str) : List PyData := ((cornersOf zs).map tupD).mergeSort (PySem.W.dataLe false fun d => d)
theorem partsOf_snoc (zs : List Str) (z : Str) : partsOf (zs ++ [z]) = part1 (partsOf zs) z := by
  unfold partsOf
  rw [List.foldl_append]
  rfl
theorem oats_len {z : Str} (h : (chars z).length ≤ 3) : (oats z).length ≤ 12 := by
  have g := dbl_len (ys := fun _ : Str => chars z) (p := ltS) (f := fun a b : Str => a ++ b) (xs := chars z) (m := 3) fun _ _ => h
  unfold oats twosOf
  rw [List.length_append]
  have : (chars z).length * 3 ≤ 9 := by omega
  omega
theorem oats_short {z s : Str} (h : s ∈ oats z) : 1 ≤ s.length ∧ s.length ≤ 2 := by
  unfold oats at h
  rcases List.mem_append.mp h with h | h
  · obtain ⟨k, hk⟩ := List.getElem?_of_mem h
    rw [char_len hk]
    exact ⟨Nat.le_refl _, by decide⟩
  · unfold twosOf dbl at h
    obtain ⟨a, ha, h⟩ := List.mem_flatMap.mp h
    obtain ⟨b, hb, rfl⟩ := List.mem_map.mp h
    obtain ⟨k, hk⟩ := List.getElem?_of_mem ha
    obtain ⟨j, hj⟩ := List.getElem?_of_mem (List.mem_filter.mp hb).1
    rw [str_len_app, char_len hk, char_len hj]
    exact ⟨by decide, by decide⟩
/-- parts as they come: n stands' texts each, short -/
def Parts (n : Nat) (ps : List (List Str)) : Prop := ∀ p ∈ ps, p.length = n ∧ ∀ s ∈ p, 1 ≤ s.length ∧ s.length ≤ 2
theorem part1_parts {ps : List (List Str)} {z : Str} {n : Nat} (h : Parts n ps) : Parts (n + 1) (part1 ps z) := by
  intro p hp
  unfold part1 dbl at hp
  obtain ⟨q, hq, hp⟩ := List.mem_flatMap.mp hp
  obtain ⟨s, hs, rfl⟩ := List.mem_map.mp hp
  obtain ⟨h1, h2⟩ := h q hq
  refine ⟨by rw [List.length_append, h1]; rfl, fun t ht => ?_⟩
  rcases List.mem_append.mp ht with e | e
  · exact h2 t e
  · rw [List.mem_singleton.mp e]
    exact oats_short (List.mem_filter.mp hs).1
theorem fold_parts : ∀ (zs : List Str) (ps : List (List Str)) (n : Nat), Parts n ps → Parts (n + zs.length) (zs.foldl part1 ps)
  | [], ps, n, h => h
  | z :: zs, ps, n, h => by
    have := fold_parts zs (part1 ps z) (n + 1) (part1_parts h)
    rw [List.length_cons, show n + (zs.length + 1) = n + 1 + zs.length by omega]
    exact this
theorem partsOf_parts (zs : List Str) : Parts zs.length (partsOf zs) := by
  have := fold_parts zs [[]] 0 (fun p hp => by rw [List.mem_singleton.mp hp]; exact ⟨rfl, fun s hs => by cases hs⟩)
  rw [Nat.zero_add] at this
  exact this
theorem fold_parts_len : ∀ (zs : List Str) (ps : List (List Str)), (∀ z ∈ zs, (chars z).length ≤ 3) → (zs.foldl part1 ps).length ≤ ps.length * 12 ^ zs.length
  | [], ps, _ => by simp
  | z :: zs, ps, h => by
    have h1 := fold_parts_len zs (part1 ps z) fun y m => h y (.tail _ m)
    have h2 := dbl_len (ys := fun _ : List Str => oats z) (p := fun _ _ => true) (f := fun p s => p ++ [s]) (xs := ps) (m := 12) fun _ _ => oats_len (h z (.head _))
    rw [List.foldl_cons]
    refine Nat.le_trans h1 ?_
    rw [List.length_cons, Nat.pow_succ, Nat.mul_comm (12 ^ zs.length) 12, ← Nat.mul_assoc]
    exact Nat.mul_le_mul_right _ h2
theorem partsOf_len {zs : List Str} (h : Fits zs) : (partsOf zs).length ≤ 248832 := by
  have h1 := fold_parts_len zs [[]] h.each
  refine Nat.le_trans h1 ?_
  rw [List.length_singleton, Nat.one_mul]
  calc 12 ^ zs.length ≤ 12 ^ 5 := Nat.pow_le_pow_right (by decide) h.many
    _ = 248832 := by decide
theorem part_fits {n : Nat} {ps : List (List Str)} (h : Parts n ps) (hn : n ≤ 5) {p : List Str} (hp : p ∈ ps) : Fits p := by
  obtain ⟨h1, h2⟩ := h p hp
  refine ⟨by omega, fun z hz => ?_⟩
  rw [chars_len]
  have := (h2 z hz).2
  have e : z.length = z.cps.size := rfl
  omega
theorem sets1_ne {S : List Str} {z : Str} (hS : S ≠ []) (hz : chars z ≠ []) : sets1 S z ≠ [] := by
  intro e
  have l := sets1_len S z
  rw [e] at l
  have h1 : 0 < S.length := List.length_pos_iff.mpr hS
  have h2 : 0 < (chars z).length := List.length_pos_iff.mpr hz
  have h3 := Nat.mul_pos h1 h2
  rw [← l] at h3
  exact absurd h3 (by decide)
theorem fold_ne : ∀ (zs : List Str) (S : List Str), S ≠ [] → (∀ z ∈ zs, 1 ≤ z.length) → zs.foldl sets1 S ≠ []
  | [], S, h, _ => h
  | z :: zs, S, h, hz => fold_ne zs (sets1 S z) (sets1_ne h (by
      have h1 := hz z (.head _)
      intro e
      have l := chars_len z
      rw [e] at l
      have e2 : z.length = z.cps.size := rfl
      rw [e2, ← l] at h1
      exact absurd h1 (by decide))) fun y m => hz y (.tail _ m)
theorem sum_len {p : List Str} (h : ∀ s ∈ p, s.length ≤ 2) : (p.map (·.length)).sum ≤ p.length * 2 := by
  induction p with
  | nil => simp
  | cons s p ih =>
    have h1 := ih fun t m => h t (.tail _ m)
    have h2 := h s (.head _)
    rw [List.map_cons, List.sum_cons, List.length_cons, Nat.succ_mul]
    omega
theorem join_len {p : List Str} (h1 : p.length ≤ 5) (h : ∀ s ∈ p, s.length ≤ 2) : (Txt.join "" p).length ≤ sizeLine := by
  refine joinFit_length ?_
  rw [StrLaws.joinTotal]
  have h2 := sum_len h
  have h3 : p.length * (("" : Str)).length = 0 := Nat.mul_zero _
  rw [h3]
  unfold Builtin.Str.tooLong
  have h4 : sizeLine = 16777216 := by decide
  exact decide_eq_false (by omega)
theorem okPart_is {p : List Str} {xs : List V} (h : xs.length = p.length) : decide (V.int ((Txt.join "" p).length : Nat) = V.int (((xs.length : Nat) : Int) + 2)) = okPart p := by
  rw [dec_int, h]
  unfold okPart
  by_cases e : (Txt.join "" p).length = p.length + 2
  · rw [e]
    simp
  · rw [beq_eq_false_iff_ne.mpr e]
    exact beq_eq_false_iff_ne.mpr fun z => e (by omega)
/-- a reference to a tuple of these texts -/
def TupS (K : PySem.W.Frag) (H : Hp) (b : V × List Str) : Prop := ∃ a, b.1 = .ref a ∧ SqT K H a (b.2.map V.str)
theorem TupS.same {K : PySem.W.Frag} {H H' : Hp} {b : V × List Str} (s : Same H H') (t : TupS K H b) : TupS K H' b := by
  obtain ⟨a, e, h⟩ := t
  exact ⟨a, e, sqt_same s h⟩
theorem TupS.keep {K : PySem.W.Frag} {H H' : Hp} {b : V × List Str} {D : Addr} {xs : List V} (k : Keeps D H H') (hD : H D = some (.lst xs)) (t : TupS K H b) : TupS K H' b := by
  obtain ⟨a, e, h⟩ := t
  refine ⟨a, e, ?_⟩
  rcases h with (h | ⟨o, h⟩) | h
  · exact .inl (.inl (k _ _ h (ne_of h hD (by intro z; cases z))))
  · exact .inl (.inr ⟨o, k _ _ h (ne_of h hD (by intro z; cases z))⟩)
  · exact .inr h
theorem fst_snd_at {α : Type} {L : List (V × α)} {i : Nat} {v : V} (h : (L.map (·.1))[i]? = some v) : ∃ b, L[i]? = some b ∧ v = b.1 ∧ (L.map (·.2))[i]? = some b.2 := by
  obtain ⟨b, hb, e⟩ := at_map (f := fun b : V × α => b.1) h
  exact ⟨b, hb, e, by rw [List.getElem?_map, hb]; rfl⟩
section
variable {P : Program} {w : World} {K : PySem.W.Frag} {mg : Str → Option Value} {base : Heap} {C fI : Addr} {ad : Nat → Addr} {dd : Nat → FuncData}
def spSqs (K : PySem.W.Frag) (C : Addr) : Sp := fun vs H Q _ => ∃ (x : Addr) (ns : List Int), vs = [.ref x] ∧ BoardAt K C H x ns ∧ Fits (wholeOf ns) ∧
  ∀ H' p ws, Same H H' → H p = none → H' p = some (.tup ws) → DpAll K H' ws (sqData (wholeOf ns)) → Q (.ref p) H'
theorem ok_sqs {f fO : Addr} {fd fdO : FuncData} (F : Fun K "squares" "Board.squares" sSqs f fd) (T : TxB mg) (B : TxC K mg C fI) (L : TxD K mg ad dd)
    (FO : Fun K "ones_and_twos" "ones_and_twos" sOat fO fdO) (bO : Binds K fdO ["stands"] []) (gO : mg "ones_and_twos" = some (.ref fO)) :
    FnOk P w K mg base CX0 2 f fd ["self"] (spSqs K C) := by
  have GS : FnOk P w K mg base CX0 1 (ad 2) (dd 2) ["part"] (spSets K) := ok_sets L.FS T
  have GO : FnOk P w K mg base CX0 1 fO fdO ["stands"] spOat := ok_oat FO
  refine F.ok scSqs (fun vs H Q E h => ?_) (fun cdv A outer s H vs Q E hr h => ?_)
  · obtain ⟨x, ns, rfl, _⟩ := h
    rfl
  · obtain ⟨x, ns, rfl, hB, fit, q⟩ := h
    have hr1 := hr
    obtain ⟨dx, a, aw, as, ab, kvs, hx, _, haw, _⟩ := hB
    generalize wholeOf ns = zs at fit q haw
    refine ⟨_, (pss_cons (ps_set (i := 1) scSqs.nd rfl (.inl rfl) (pe_lst (pa_cons (pe_tup pa_nil) pa_nil)))
      (pss_cons (ps_for PassesOwn.never rfl (pi_tup (pe_fldK K rfl (pv 0) (by rfl))) (pg_name (i := 2) scSqs.nd rfl (.inr rfl)) (pss_one (ps_setLc2 (i := 1) (own := [("part", 4), ("some", 5)]) (vs1 := [5]) (tt := tYes) (tt1 := tYes) (g := gName 4) (g1 := gName 5) rfl scSqs.nd rfl rfl (sw_true rfl rfl rfl (by decide +kernel)) (pi_list (pv 1)) (blkOk_by (N := ["self", "parts", "stands", "corners", "part", "some"]) (sc := defScope sSqs) (by decide +kernel)) (by decide) (fun _ _ _ _ _ => pg_name (i := 4) scSqs.nd rfl (Or.inl rfl)) (fun _ _ _ _ _ => pts_nil) (fun _ _ _ _ _ => (pi_listK K rfl (pe_call GO hr1 (by rfl) gO FO.kp bO .nil pass0 (pa_cons (pv 2) pa_nil)))) (fun _ _ _ _ _ => pg_name (i := 5) scSqs.nd rfl (Or.inl rfl)) (fun _ _ _ _ _ => pts_nil) (fun _ _ _ _ _ => (pe_op (op_catAK K rfl) (pv 4) (pe_tup (pa_cons (pv 5) pa_nil)))))))
      (pss_cons (ps_setLc (i := 3) (own := [("part", 4)]) (g := gName 4)  rfl scSqs.nd rfl rfl (sw_true rfl rfl rfl (by decide +kernel)) (pi_list (pv 1)) (blkOk_by (N := ["self", "parts", "stands", "corners", "part", "some"]) (sc := defScope sSqs) (by decide +kernel)) (fun _ _ _ _ _ => pg_name (i := 4) scSqs.nd rfl (Or.inl rfl)) (fun _ _ _ _ _ => (pts_one (pt_cmpR op_eq (pe_callB call_len_str (by rfl) T.len PySem.boot_len (pa_cons (pe_join K rfl pe_str (pa_cons (pv 4) pa_nil)) pa_nil)) (pe_op op_add (pe_callB (call_lenK K rfl) (by rfl) T.len PySem.boot_len (pa_cons (pv 4) pa_nil)) pe_int) (nomark _)))) (fun _ _ _ _ _ => (pe_call GS hr1 (by rfl) L.gS L.FS.kp L.bS .nil pass0 (pa_cons (pv 4) pa_nil))))
      (pss_one (ps_ret (pe_tupleOf (by rfl) T.tup (pe_callB (call_sortD hr.units) (by rfl) T.srt boot_sorted (pa_cons (pv 3) pa_nil)))))))), ?_⟩
    refine ⟨by show 0 ≤ sizeLine; decide, fun t nt => ⟨by show 1 ≤ sizeLine; decide, fun l nl => ?_⟩⟩
    have s0 := (same_new (o := .tup []) nt).trans (same_new (o := .lst [V.ref t]) nl)
    refine ⟨_, rfl, x, C, dx, _, _, rfl, s0 _ _ hx, B.cl, B.n2, bf4_whole, aw, rfl, ⟨_, .inl (.inl (s0 _ _ haw))⟩, for_it (walk_tup (K := K) (a := aw) (xs := zs.map V.str))
      (fun i σ H' => ∃ (l : Addr) (L : List (V × List Str)) (y1 : Option V), σ = [some (.ref x), some (.ref l), y1, none, none, none] ∧ Same H H' ∧ H l = none ∧ H' l = some (.lst (L.map (·.1))) ∧ L.map (·.2) = partsOf (zs.take i) ∧ ∀ b ∈ L, TupS K H' b)
      ⟨l, [(V.ref t, [])], none, rfl, s0, (same_new (o := .tup []) nt).free nl, upd_same, rfl, fun b hb => ?_⟩ (fun i σ H' _ ⟨_, _, _, _, s1, _⟩ => .inl (.inl (s1 _ _ haw))) ?_ ?_⟩
    · rw [List.mem_singleton.mp hb]
      exact ⟨t, rfl, .inl (.inl ((same_new nl) _ _ upd_same))⟩
    · rintro i v σ H1 H2 hi ⟨l, L, y1, rfl, s1, nl, hl, eL, tL⟩ ⟨rfl, hx2⟩
      obtain ⟨z, hz, rfl⟩ := at_map hx2
      have z3 := fit.each z (List.mem_of_getElem? hz)
      have pl := partsOf_len (fit.take i)
      have pp := partsOf_parts (zs.take i)
      rw [take_next hz, partsOf_snoc]
      generalize partsOf (zs.take i) = PS at eL pl pp ⊢
      have o12 := oats_len z3
      refine ⟨_, rfl, l, rfl, ⟨_, .inl (.inl hl)⟩, fun D nD => lc2_out (walk_list (K := K) (a := l) (xs := L.map (·.1))) (fun j H3 => Same H2 H3 ∧ ∃ M : List (V × List Str), H3 D = some (.lst (M.map (·.1))) ∧ M.map (·.2) = part1 (PS.take j) z ∧ ∀ b ∈ M, TupS K H3 b)
        ⟨same_new nD, [], upd_same, rfl, fun b hb => by cases hb⟩ (fun j H3 _ p => .inl (.inl (p.1 _ _ hl))) ?_ ?_⟩
      · rintro j v H3 H4 hj ⟨s3, M3, e3, m3, t3⟩ ⟨rfl, hv⟩
        obtain ⟨⟨bv, bp⟩, hb, rfl, hp⟩ := fst_snd_at hv
        obtain ⟨r, er, hr⟩ := (tL _ (List.mem_of_getElem? hb)).same s3
        cases er
        rw [eL] at hp
        refine ⟨rfl, _, rfl, z, rfl, z3, fun H5 o s5 no ho => ?_⟩
        have Do : D ≠ o := ne_of_none e3 no
        refine ⟨o, rfl, ⟨_, .inl (.inl ho)⟩, lc2_in (walk_list (K := K) (a := o) (xs := (oats z).map V.str)) (fun k H6 => Same H2 H6 ∧ H6 o = some (.lst ((oats z).map V.str)) ∧ SqT K H6 r (bp.map V.str) ∧ ∃ M : List (V × List Str), H6 D = some (.lst (M.map (·.1))) ∧
            M.map (·.2) = part1 (PS.take j) z ++ dblAt (fun _ : List Str => oats z) (fun _ _ => true) (fun p s => p ++ [s]) bp k ∧ ∀ b ∈ M, TupS K H6 b)
          ⟨s3.trans s5, ho, sqt_same s5 hr, M3, s5 _ _ e3, by rw [dblAt_zero, List.append_nil]; exact m3, fun b hb => (t3 b hb).same s5⟩ (fun k H6 _ p => .inl (.inl p.2.1)) ?_ ?_⟩
        · rintro k v H60 H6 hk ⟨s6, o6, r6, M, e6, m6, t6⟩ ⟨rfl, hv⟩
          obtain ⟨c, hc, rfl⟩ := at_map hv
          have fin : ∀ (H8 : Hp) (v' : V), Same H6 H8 → TupS K H8 (v', bp ++ [c]) → ∃ acc, H8 D = some (.lst acc) ∧ acc.length < sizeLine ∧ (Same H2 (upd H8 D (.lst (acc ++ [v']))) ∧ (upd H8 D (.lst (acc ++ [v']))) o = some (.lst ((oats z).map V.str)) ∧
              SqT K (upd H8 D (.lst (acc ++ [v']))) r (bp.map V.str) ∧ ∃ M : List (V × List Str), (upd H8 D (.lst (acc ++ [v']))) D = some (.lst (M.map (·.1))) ∧
              M.map (·.2) = part1 (PS.take j) z ++ dblAt (fun _ : List Str => oats z) (fun _ _ => true) (fun p s => p ++ [s]) bp (k + 1) ∧ ∀ b ∈ M, TupS K (upd H8 D (.lst (acc ++ [v']))) b) := by
            intro H8 v' s8 tv
            have e8 := s8 _ _ e6
            have kp : Keeps D H8 (upd H8 D (.lst (M.map (·.1) ++ [v']))) := Keeps.upd
            refine ⟨_, e8, ?_, comp_same (s6.trans s8) nD, by rw [upd_ne Do.symm]; exact s8 _ _ o6, ?_, M ++ [(v', bp ++ [c])], upd_same.trans (by rw [List.map_append]; rfl), ?_, ?_⟩
            · have g0 : (M.map (·.2)).length = M.length := List.length_map _
              have g1 := dbl_take_len (ys := fun _ : List Str => oats z) (p := fun _ _ => true) (f := fun p s => p ++ [s]) (i := j) (xs := PS) (m := 12) fun _ _ => o12
              have g2 := dblAt_len (ys := fun _ : List Str => oats z) (p := fun _ _ => true) (f := fun p s => p ++ [s]) (a := bp) (j := k)
              rw [m6, List.length_append] at g0
              rw [List.length_map]
              have g3 : PS.length * 12 ≤ 248832 * 12 := Nat.mul_le_mul_right _ pl
              have g4 : (part1 (PS.take j) z).length ≤ PS.length * 12 := g1
              have g5 : (dblAt (fun _ : List Str => oats z) (fun _ _ => true) (fun p s => p ++ [s]) bp k).length ≤ (oats z).length := g2
              exact Nat.lt_of_le_of_lt (m := 2985996) (by omega) (by decide)
            · obtain ⟨r', er, hr'⟩ := TupS.keep kp e8 (b := (V.ref r, bp)) ⟨r, rfl, sqt_same s8 r6⟩
              cases er
              exact hr'
            · rw [List.map_append, m6, dblAt_yes (ys := fun _ : List Str => oats z) (p := fun (_ : List Str) (_ : Str) => true) (f := fun p s => p ++ [s]) (a := bp) hc rfl, List.append_assoc]
              rfl
            · intro b hb
              rcases List.mem_append.mp hb with e | e
              · exact ((t6 b e).same s8).keep kp e8
              · rw [List.mem_singleton.mp e]
                exact tv.keep kp e8
          refine ⟨rfl, _, rfl, _, rfl, by show 1 ≤ sizeLine; decide, fun u nu => ?_⟩
          have su := same_new (o := .tup [V.str c]) nu
          refine ⟨r, u, bp.map V.str, [V.str c], rfl, rfl, sqt_same su r6, .inl (.inl upd_same), ?_, fun e0 => ?_, fun _ e1 => ?_, fun _ _ p np => ?_⟩
          · have g := (pp bp (List.mem_of_getElem? hp)).1
            have g2 := (fit.take i).many
            rw [List.length_map, g]
            exact Nat.le_of_lt (small1000 (by show (zs.take i).length + 1 ≤ 1000; omega))
          · have e2 : bp = [] := List.map_eq_nil_iff.mp e0
            subst e2
            exact fin _ _ su ⟨u, rfl, .inl (.inl upd_same)⟩
          · cases e1
          · exact fin _ _ (su.trans (same_new np)) ⟨p, rfl, .inl (.inl (upd_same.trans (by rw [List.map_append]; rfl)))⟩
        · rintro H6 ⟨s6, _, _, M, e6, m6, t6⟩
          rw [List.length_map] at m6
          refine ⟨s6, M, e6, ?_, t6⟩
          rw [m6]
          exact (dbl_next hp).symm
      · rintro H3 ⟨s3, M, e3, m3, t3⟩
        have e0 : (L.map (·.1)).length = PS.length := by rw [List.length_map, ← eL, List.length_map]
        rw [e0, List.take_length] at m3
        exact ⟨D, M, _, rfl, s1.trans s3, s1.free nD, e3, m3, t3⟩
    · rintro σ H1 ⟨l, L, y1, rfl, s1, nl, hl, eL, tL⟩
      rw [List.length_map, List.take_length] at eL
      have pl := partsOf_len fit
      have pp := partsOf_parts zs
      refine ⟨_, rfl, l, rfl, ⟨_, .inl (.inl hl)⟩, fun D nD => lc_it (walk_list (K := K) (a := l) (xs := L.map (·.1))) (fun j H3 => Same H1 H3 ∧ ∃ M : List (V × List Str), H3 D = some (.lst (M.map (·.1))) ∧ M.map (·.2) = (((partsOf zs).take j).filter okPart).map setsOf ∧ ∀ b ∈ M, TupS K H3 b)
        ⟨same_new nD, [], upd_same, rfl, fun b hb => by cases hb⟩ (fun j H3 _ p => .inl (.inl (p.1 _ _ hl))) ?_ ?_⟩
      · rintro j v H30 H3 hj ⟨s3, M, e3, m3, t3⟩ ⟨rfl, hv⟩
        obtain ⟨⟨bv, bp⟩, hb, rfl, hp⟩ := fst_snd_at hv
        obtain ⟨r, er, hr⟩ := (tL _ (List.mem_of_getElem? hb)).same s3
        cases er
        rw [eL] at hp
        have mp := List.mem_of_getElem? hp
        obtain ⟨p1, p2⟩ := pp bp mp
        have p5 : bp.length ≤ 5 := by have := fit.many; omega
        have psum := sum_len fun s m => (p2 s m).2
        have hr' : SqT K H3 r (bp.map V.str) := hr
        refine ⟨rfl, rfl, _, rfl, "", r, bp, rfl, rfl, .inr hr', ?_, _, rfl, join_len p5 fun s m => (p2 s m).2, _, rfl, r, _, rfl, .inr hr', _, _, rfl, rfl, rfl, _, rfl, ?_⟩
        · have z0 : bp.length * ("" : Str).length = 0 := Nat.mul_zero _
          rw [z0]
          omega
        · rw [okPart_is (p := bp) (by rw [List.length_map])]
          cases ok : okPart bp with
          | true =>
            refine iteT ⟨_, rfl, r, bp, rfl, hr', part_fits pp fit.many mp, fun H5 p s5 np hp5 => ?_⟩
            have e5 := s5 _ _ e3
            have kp : Keeps D H5 (upd H5 D (.lst (M.map (·.1) ++ [V.ref p]))) := Keeps.upd
            refine ⟨_, e5, ?_, comp_same (s3.trans s5) nD, M ++ [(V.ref p, setsOf bp)], upd_same.trans (by rw [List.map_append]; rfl), ?_, ?_⟩
            · have g0 : (M.map (·.2)).length = M.length := List.length_map _
              rw [m3, List.length_map] at g0
              have g1 := List.length_filter_le okPart ((partsOf zs).take j)
              rw [List.length_take] at g1
              rw [List.length_map]
              exact Nat.lt_of_le_of_lt (m := 248832) (by omega) (by decide)
            · rw [List.map_append, m3, take_next hp, List.filter_append, List.filter_cons_of_pos ok, List.map_append]
              rfl
            · intro b hb
              rcases List.mem_append.mp hb with e | e
              · exact ((t3 b e).same s5).keep kp e5
              · rw [List.mem_singleton.mp e]
                exact TupS.keep kp e5 ⟨p, rfl, .inl (.inl hp5)⟩
          | false =>
            refine iteF ⟨s3, M, e3, ?_, t3⟩
            rw [m3, take_next hp, List.filter_append, List.filter_cons_of_neg (by rw [ok]; decide)]
            simp
      · rintro H3 ⟨s3, M, e3, m3, t3⟩
        have e0 : (L.map (·.1)).length = (partsOf zs).length := by rw [List.length_map, ← eL, List.length_map]
        rw [e0, List.take_length] at m3
        have fs : (M.map fun b => (b.1, tupD b.2)).map (·.1) = M.map (·.1) := by rw [List.map_map]; rfl
        have sn : (M.map fun b => (b.1, tupD b.2)).map (·.2) = (cornersOf zs).map tupD := by
          unfold cornersOf
          rw [← m3, List.map_map, List.map_map]
          rfl
        have dp : ∀ b ∈ M.map fun b => (b.1, tupD b.2), Dp K H3 b.1 b.2 := by
          intro b hb
          obtain ⟨c, hc, rfl⟩ := List.mem_map.mp hb
          obtain ⟨r, er, hr⟩ := t3 c hc
          show Dp K H3 c.1 (tupD c.2)
          rw [er]
          exact .tup hr (dat_strs _)
        have ne : ∀ ss ∈ cornersOf zs, ss ≠ [] := by
          intro ss hs
          unfold cornersOf at hs
          obtain ⟨p, hp, rfl⟩ := List.mem_map.mp hs
          exact fold_ne p [""] (by simp) fun z hz => ((pp p (List.mem_filter.mp hp).1).2 z hz).1
        refine ⟨_, rfl, D, M.map fun b => (b.1, tupD b.2), rfl, .inl (.inl (by rw [fs]; exact e3)), dp, ?_, ?_, ?_, fun p np => .inl ⟨p, _, rfl, .inl (.inl upd_same), fun r nr => ?_⟩⟩
        · rw [sn]
          intro d hd d' hd'
          obtain ⟨x, _, rfl⟩ := List.mem_map.mp hd
          obtain ⟨y, _, rfl⟩ := List.mem_map.mp hd'
          exact alike_tup x y
        · rw [sn]
          refine .inl fun d hd => ?_
          obtain ⟨ss, hs, rfl⟩ := List.mem_map.mp hd
          cases ss with
          | nil => exact absurd rfl (ne _ hs)
          | cons x r => exact ⟨.str x, r.map .str, rfl⟩
        · intro b hb
          obtain ⟨c, _, rfl⟩ := List.mem_map.mp hb
          exact depth_tup _
        · have sf := (same_new (o := .lst (((M.map fun b => (b.1, tupD b.2)).mergeSort (PySem.W.dataLe false fun b => b.2)).map (·.1))) np).trans (same_new (o := .tup (((M.map fun b => (b.1, tupD b.2)).mergeSort (PySem.W.dataLe false fun b => b.2)).map (·.1))) nr)
          refine q _ r _ (s1.trans (s3.trans sf)) ((s1.trans (s3.trans (same_new np))).free nr) upd_same ?_
          have h1 := dat_pairs (K := K) (H := H3) ((M.map fun b => (b.1, tupD b.2)).mergeSort (PySem.W.dataLe false fun b => b.2)) fun b hb => dp b (List.mem_mergeSort.mp hb)
          rw [mergeSort_snd, sn] at h1
          exact datA_same sf h1
end
end Sw

set_option Elab.async false
set_option linter.all false
set_option maxRecDepth 100000
set_option maxHeartbeats 16000000

/-! The law's own defs: where draws come from; drawn numbers of stands; all settings. -/
namespace Sw
open PySem PySem.Spec PyProof.Rows L2
abbrev sJar : Stmt := topB 20
abbrev sDip : Stmt := topB 21
abbrev sPick : Stmt := topB 22
abbrev sSpans : Stmt := topB 23
abbrev sAll : Stmt := topB 24
abbrev sTiles : Stmt := topB 25
abbrev sRight : Stmt := topB 26
abbrev sLaw : Stmt := topB 27
theorem scJar : FnScope ["script", "k", "mixed", "cell", "own", "digits"] ["script", "k"] (defScope sJar) :=
  ⟨rfl, rfl, rfl, by decide +kernel, rfl, by decide +kernel, by decide +kernel⟩
theorem scDip : FnScope ["jar", "most", "digit", "seed"] ["jar", "most"] (defScope sDip) :=
  ⟨rfl, rfl, rfl, by decide +kernel, rfl, by decide +kernel, by decide +kernel⟩
theorem scPick : FnScope ["jar", "menu", "at"] ["jar", "menu"] (defScope sPick) :=
  ⟨rfl, rfl, rfl, by decide +kernel, rfl, by decide +kernel, by decide +kernel⟩

/-- a jar stands at j: its digits not below nought -/
def JarAt (H : Hp) (j : Addr) : Prop := ∃ d s c : Int, H j = some (.lst [.int d, .int s, .int c]) ∧ 0 ≤ d

def spJar (K : PySem.W.Frag) : Sp := fun vs H Q _ => ∃ (a : Addr) (ns : List Int) (k : Nat), vs = [.ref a, .int k] ∧
  SqL K H a (ns.map V.int) ∧ ns.length ≤ 63 ∧ k < 63 ∧
  ∀ H' p, Same H H' → H p = none → JarAt H' p → Q (.ref p) H'

section
variable {P : Program} {w : World} {K : PySem.W.Frag} {mg : Str → Option Value} {base : Heap}
structure TxJ (mg : Str → Option Value) : Prop where
  len : mg "len" = none
  int : mg "int" = none
  abs : mg "abs" = none

theorem ok_jar {f : Addr} {fd : FuncData} (F : Fun K "_law_jar" "_law_jar" sJar f fd) (T : TxJ mg) :
    FnOk P w K mg base CX0 1 f fd ["script", "k"] (spJar K) := by
  refine F.ok scJar (fun vs H Q E h => ?_) (fun cdv A outer s H vs Q E hr h => ?_)
  · obtain ⟨a, ns, k, rfl, _⟩ := h
    rfl
  · obtain ⟨a, ns, k, rfl, hS, hl, hk, q⟩ := h
    refine ⟨_, (pss_cons (ps_set (i := 2) scJar.nd rfl (.inl rfl) (pe_op op_add (pe_op op_mul (pe_op op_mul pe_int (pe_op op_add (pv 1) pe_int)) (pe_op op_add (pv 1) pe_int)) (pe_op op_mul pe_int (pe_callB call_len_seq (by rfl) T.len PySem.boot_len (pa_cons (pv 0) pa_nil)))))
      (pss_cons (ps_for PassesOwn.never rfl (pi_list (pe_slice sl_list (pv 0) po_none (po_some pe_int))) (pg_name (i := 3) scJar.nd rfl (.inl rfl)) (pss_one (ps_set (i := 2) scJar.nd rfl (.inl rfl) (pe_op op_mod (pe_callTy call_int1 (by rfl) T.int (by decide +kernel) (pa_cons (pe_op op_add (pe_op op_mul (pv 2) pe_int) (pv 3)) pa_nil)) pe_int))))
      (pss_cons (ps_set (i := 4) scJar.nd rfl (.inl rfl) (pe_ifExp (pt_cmpR op_lt (pv 1) (pe_callB call_len_seq (by rfl) T.len PySem.boot_len (pa_cons (pv 0) pa_nil)) (nomark _)) (pe_ix ix_list (pv 0) (pv 1) (fun _ _ => rfl)) pe_int))
      (pss_cons (ps_set (i := 5) scJar.nd rfl (.inl rfl) (pe_ifExp (PW.pt (pw_or (pt_cmpR op_lt (pv 4) pe_int (nomark _)) (pw_or1 (pt_cmpR op_ge (pv 4) (pe_op op_pow pe_int pe_int) (nomark _))))) (pe_callB call_abs (by rfl) T.abs (by decide +kernel) (pa_cons (pv 4) pa_nil)) pe_int))
      (pss_one (ps_ret (pe_lst (pa_cons (pv 5) (pa_cons (pe_op op_mod (pe_callTy call_int1 (by rfl) T.int (by decide +kernel) (pa_cons (pe_op op_add (pe_op op_add (pe_op op_mul (pv 2) pe_int) (pe_op op_mul (pv 4) pe_int)) (pe_op op_mul pe_int (pe_op op_add (pv 1) pe_int))) pa_nil)) pe_int) (pa_cons pe_int pa_nil)))))))))), ?_⟩
    refine ⟨_, rfl, _, _, rfl, rfl, _, _, rfl, rfl, .inl ⟨by decide, by decide⟩, _, rfl, _, _, rfl, rfl, _, _, rfl, rfl,
      .inr ⟨by omega, by omega⟩, _, rfl, a, _, rfl, .inl hS, _, _, rfl, rfl, .inl ⟨by decide, by decide⟩, _, _, rfl, rfl, ?_⟩
    refine ⟨_, rfl, 4, rfl, a, ns.map V.int, rfl, hS, fun c nc => ?_⟩
    have s1 : Same H (upd H c (.lst (cutV (ns.map V.int) none (some 4)))) := same_new nc
    have itemInt : ∀ (i : Nat) (x : V), (cutV (ns.map V.int) none (some 4))[i]? = some x → ∃ z, x = V.int z := by
      intro i x hx
      have m1 := List.mem_of_getElem? hx
      unfold cutV at m1
      have m2 := List.mem_of_mem_drop (List.mem_of_mem_take m1)
      obtain ⟨z, _, rfl⟩ := List.mem_map.mp m2
      exact ⟨z, rfl⟩
    refine ⟨c, rfl, ⟨_, .inl (.inl upd_same)⟩, for_list (K := K) (a := c) (xs := cutV (ns.map V.int) none (some 4))
      (fun i σ H2 => ∃ (m : Int) (y : Option V), σ = [some (.ref a), some (.int k), some (.int m), y, none, none] ∧
        H2 = upd H c (.lst (cutV (ns.map V.int) none (some 4))))
      ⟨_, none, rfl, rfl⟩ (fun i σ H2 _ ⟨_, _, _, e⟩ => by rw [e]; exact .inl (.inl upd_same)) ?_ ?_⟩
    · rintro i x σ H2 hx ⟨m, y, rfl, rfl⟩
      obtain ⟨z, rfl⟩ := itemInt i x hx
      refine ⟨_, rfl, _, _, rfl, rfl, .inr ⟨by decide, by decide⟩, _, rfl, _, _, rfl, rfl, .inl ⟨_, rfl, _, _, rfl, rfl, (by show (0 : Int) < _; decide), ?_⟩⟩
      exact ⟨_, _, rfl, rfl⟩
    · rintro σ H2 ⟨m, y, rfl, rfl⟩
      have hS1 := s1.seq hS
      have done : ∀ (H' : Hp) (p : Addr) (d s : Int), Same (upd H c (.lst (cutV (ns.map V.int) none (some 4)))) H' → H' p = none → 0 ≤ d →
          Q (.ref p) (upd H' p (.lst [.int d, .int s, .int 0])) := by
        intro H' p d s sm np hd
        have sm2 := s1.trans (sm.trans (same_new (o := .lst [.int d, .int s, .int 0]) np))
        exact q _ p sm2 ((s1.trans sm).free np) ⟨d, s, 0, upd_same, hd⟩
      have s0 := Same.refl (upd H c (.lst (cutV (ns.map V.int) none (some 4))))
      refine ⟨_, rfl, _, rfl, a, _, rfl, .inl hS1, _, _, rfl, rfl, _, rfl, ite2 (fun e => ?_) (fun e => ?_)⟩
      · have lt : k < ns.length := by
          have e2 := of_decide_eq_true e
          rw [List.length_map] at e2
          omega
        refine ⟨_, rfl, _, rfl, a, _, _, .int ns[k], rfl, rfl, hS1, atI_nat (j := k) (by rw [List.getElem?_map, List.getElem?_eq_getElem lt]; rfl), ?_⟩
        refine ⟨_, rfl, _, _, rfl, rfl, _, rfl, ite2 (fun e1 => ?_) (fun e1 => ⟨_, rfl, _, _, rfl, rfl, ⟨by decide, by decide, by decide⟩, _, _, rfl, rfl, _, rfl, ite2 (fun e2 => ?_) (fun e2 => ?_)⟩)⟩
        · refine ⟨_, rfl, _, rfl, _, rfl, _, rfl, _, _, rfl, rfl, .inr ⟨by decide, by decide⟩, _, rfl, _, _, rfl, rfl, .inr ⟨by decide, by decide⟩, _, _, rfl, rfl, _, rfl, _, _, rfl, rfl, _, _, rfl, rfl, .inl ⟨by decide, by decide⟩, _, _, rfl, rfl, .inl ⟨_, rfl, _, _, rfl, rfl, (by show (0 : Int) < _; decide), (by show 3 ≤ sizeLine; decide), fun p np => ?_⟩⟩
          refine done _ p _ _ s0 np ?_
          split <;> omega
        · refine ⟨_, rfl, _, rfl, _, rfl, _, rfl, _, _, rfl, rfl, .inr ⟨by decide, by decide⟩, _, rfl, _, _, rfl, rfl, .inr ⟨by decide, by decide⟩, _, _, rfl, rfl, _, rfl, _, _, rfl, rfl, _, _, rfl, rfl, .inl ⟨by decide, by decide⟩, _, _, rfl, rfl, .inl ⟨_, rfl, _, _, rfl, rfl, (by show (0 : Int) < _; decide), (by show 3 ≤ sizeLine; decide), fun p np => ?_⟩⟩
          refine done _ p _ _ s0 np ?_
          split <;> omega
        · refine ⟨_, rfl, _, rfl, _, _, rfl, rfl, .inr ⟨by decide, by decide⟩, _, rfl, _, _, rfl, rfl, .inr ⟨by decide, by decide⟩, _, _, rfl, rfl, _, rfl, _, _, rfl, rfl, _, _, rfl, rfl, .inl ⟨by decide, by decide⟩, _, _, rfl, rfl, .inl ⟨_, rfl, _, _, rfl, rfl, (by show (0 : Int) < _; decide), (by show 3 ≤ sizeLine; decide), fun p np => ?_⟩⟩
          exact done _ p _ _ s0 np (Int.le_refl _)
      · refine ⟨_, rfl, _, _, rfl, rfl, _, rfl, ite2 (fun e1 => ?_) (fun e1 => ⟨_, rfl, _, _, rfl, rfl, ⟨by decide, by decide, by decide⟩, _, _, rfl, rfl, _, rfl, ite2 (fun e2 => ?_) (fun e2 => ?_)⟩)⟩
        · exact absurd (of_decide_eq_true e1) (by decide)
        · exact absurd (of_decide_eq_true e2) (by decide)
        · refine ⟨_, rfl, _, rfl, _, _, rfl, rfl, .inr ⟨by decide, by decide⟩, _, rfl, _, _, rfl, rfl, .inr ⟨by decide, by decide⟩, _, _, rfl, rfl, _, rfl, _, _, rfl, rfl, _, _, rfl, rfl, .inl ⟨by decide, by decide⟩, _, _, rfl, rfl, .inl ⟨_, rfl, _, _, rfl, rfl, (by show (0 : Int) < _; decide), (by show 3 ≤ sizeLine; decide), fun p np => ?_⟩⟩
          exact done _ p _ _ s0 np (Int.le_refl _)

/-- the jar at j as it was drawn from -/
def jarAs (d s c : Int) : HO := .lst [.int d, .int s, .int c]
def spDip : Sp := fun vs H Q _ => ∃ (j : Addr) (m d s c : Int), vs = [.ref j, .int m] ∧ H j = some (jarAs d s c) ∧ 0 ≤ d ∧ 0 < m ∧ m < 1000 ∧
  ∀ r d' s' c' : Int, 0 ≤ r → r < m → 0 ≤ d' → Q (.int r) (upd H j (jarAs d' s' c'))
theorem ok_dip {f : Addr} {fd : FuncData} (F : Fun K "_law_dip" "_law_dip" sDip f fd) (T : TxJ mg) :
    FnOk P w K mg base CX0 1 f fd ["jar", "most"] spDip := by
  refine F.ok scDip (fun vs H Q E h => ?_) (fun cdv A outer s H vs Q E hr h => ?_)
  · obtain ⟨j, m, d, s, c, rfl, _⟩ := h
    rfl
  · obtain ⟨j, m, d, s, c, rfl, hj, hd, hm0, hm, q⟩ := h
    refine ⟨_, (pss_cons (ps_asg (pe_op op_add (pe_ix ix_list (pv 0) pe_int (fun _ _ => rfl)) pe_int) (pg_sub (pv 0) pe_int set_list))
      (pss_cons (ps_if (pt_cmpR op_gt (pe_ix ix_list (pv 0) pe_int (fun _ _ => rfl)) pe_int (nomark _)) (pss_cons (ps_set (i := 2) scDip.nd rfl (.inl rfl) (pe_op op_modN (pe_callTy call_int1 (by rfl) T.int (by decide +kernel) (pa_cons (pe_ix ix_list (pv 0) pe_int (fun _ _ => rfl)) pa_nil)) (pv 1)))
      (pss_cons (ps_asg (pe_op op_fdivN (pe_callTy call_int1 (by rfl) T.int (by decide +kernel) (pa_cons (pe_ix ix_list (pv 0) pe_int (fun _ _ => rfl)) pa_nil)) (pv 1)) (pg_sub (pv 0) pe_int set_list))
      (pss_one (ps_ret (pv 2))))) pss_nil)
      (pss_cons (ps_set (i := 3) scDip.nd rfl (.inl rfl) (pe_callTy call_int1 (by rfl) T.int (by decide +kernel) (pa_cons (pe_ix ix_list (pv 0) pe_int (fun _ _ => rfl)) pa_nil)))
      (pss_cons (ps_asg (pe_op op_mod (pe_callTy call_int1 (by rfl) T.int (by decide +kernel) (pa_cons (pe_op op_add (pe_op op_add (pe_op op_mul (pv 3) pe_int) (pe_op op_mul (pe_ix ix_list (pv 0) pe_int (fun _ _ => rfl)) pe_int)) pe_int) pa_nil)) pe_int) (pg_sub (pv 0) pe_int set_list))
      (pss_one (ps_ret (pe_op op_modN (pe_callTy call_int1 (by rfl) T.int (by decide +kernel) (pa_cons (pe_op op_fdiv (pe_ix ix_list (pv 0) pe_int (fun _ _ => rfl)) pe_int) pa_nil)) (pv 1)))))))), ?_⟩
    refine ⟨_, rfl, j, _, 2, .int c, rfl, rfl, .inl (.inl hj), rfl, _, _, rfl, rfl, _, rfl, j, _, _, 2, rfl, rfl, hj, rfl, ?_⟩
    have h1 : (upd H j (jarAs d s (c + 1))) j = some (jarAs d s (c + 1)) := upd_same
    have fin : ∀ (r d' s' c' : Int) (o1 : HO), 0 ≤ r → r < m → 0 ≤ d' → Q (.int r) (upd (upd H j o1) j (jarAs d' s' c')) := by
      intro r d' s' c' o1 a1 a2 a3
      rw [upd_upd]
      exact q r d' s' c' a1 a2 a3
    refine ⟨_, rfl, j, _, 0, .int d, rfl, rfl, .inl (.inl h1), rfl, _, _, rfl, rfl, _, rfl, ite2 (fun e => ?_) (fun e => ?_)⟩
    · have hd2 : 0 < d := of_decide_eq_true e
      refine ⟨_, rfl, j, _, 0, .int d, rfl, rfl, .inl (.inl h1), rfl, .inl ⟨_, rfl, _, rfl, _, _, rfl, rfl, by omega, ?_⟩⟩
      refine ⟨_, rfl, j, _, 0, .int d, rfl, rfl, .inl (.inl h1), rfl, .inl ⟨_, rfl, _, rfl, _, _, rfl, rfl, ⟨by omega, by omega⟩, ?_⟩⟩
      refine ⟨_, rfl, j, _, _, 0, rfl, rfl, h1, rfl, _, rfl, ?_⟩
      have r0 : 0 ≤ d.fmod m := Int.fmod_nonneg_of_pos _ hm0
      have r1 : d.fmod m < m := Int.fmod_lt_of_pos _ hm0
      have r2 : 0 ≤ d.fdiv m := Int.fdiv_nonneg (by omega) (by omega)
      exact fin _ _ s (c + 1) _ r0 r1 r2
    · refine ⟨_, rfl, j, _, 1, .int s, rfl, rfl, .inl (.inl h1), rfl, .inl ⟨_, rfl, ?_⟩⟩
      refine ⟨_, rfl, _, _, rfl, rfl, .inr ⟨by decide, by decide⟩, _, rfl, j, _, 2, .int (c + 1), rfl, rfl, .inl (.inl h1), rfl, _, _, rfl, rfl, .inr ⟨by decide, by decide⟩,
        _, _, rfl, rfl, _, _, rfl, rfl, .inl ⟨_, rfl, _, _, rfl, rfl, (by show (0 : Int) < _; decide), ?_⟩⟩
      refine ⟨_, rfl, j, _, _, 1, rfl, rfl, h1, rfl, ?_⟩
      have h2 : ∀ z : Int, (upd (upd H j (jarAs d s (c + 1))) j (jarAs d z (c + 1))) j = some (jarAs d z (c + 1)) := fun z => upd_same
      refine ⟨_, rfl, j, _, 1, .int _, rfl, rfl, .inl (.inl (h2 _)), rfl, _, _, rfl, rfl, ⟨by decide, by decide⟩, .inl ⟨_, rfl, _, rfl, _, _, rfl, rfl, by omega, ?_⟩⟩
      have r0 : ∀ z : Int, 0 ≤ z.fmod m := fun z => Int.fmod_nonneg_of_pos _ hm0
      have r1 : ∀ z : Int, z.fmod m < m := fun z => Int.fmod_lt_of_pos _ hm0
      exact fin _ d _ (c + 1) _ (r0 _) (r1 _) hd

/-- one of several things -/
def spPick : Sp := fun vs H Q _ => ∃ (j l : Addr) (xs : List V) (d s c : Int), vs = [.ref j, .ref l] ∧ H j = some (jarAs d s c) ∧ 0 ≤ d ∧
  H l = some (.lst xs) ∧ l ≠ j ∧ 0 < xs.length ∧ xs.length < 1000 ∧
  ∀ (v : V) (d' s' c' : Int), v ∈ xs → 0 ≤ d' → Q v (upd H j (jarAs d' s' c'))
theorem ok_pick {f fD : Addr} {fd fdD : FuncData} (F : Fun K "_law_pick" "_law_pick" sPick f fd) (FD : Fun K "_law_dip" "_law_dip" sDip fD fdD)
    (bD : Binds K fdD ["jar", "most"] []) (gD : mg "_law_dip" = some (.ref fD)) (T : TxJ mg) :
    FnOk P w K mg base CX0 2 f fd ["jar", "menu"] spPick := by
  have GD : FnOk P w K mg base CX0 1 fD fdD ["jar", "most"] spDip := ok_dip FD T
  refine F.ok scPick (fun vs H Q E h => ?_) (fun cdv A outer s H vs Q E hr h => ?_)
  · obtain ⟨j, l, xs, d, s, c, rfl, _⟩ := h
    rfl
  · obtain ⟨j, l, xs, d, s, c, rfl, hj, hd, hl, ne, h0, h1, q⟩ := h
    refine ⟨_, (pss_cons (ps_set (i := 2) scPick.nd rfl (.inl rfl) (pe_call GD hr (by rfl) gD FD.kp bD .nil pass0 (pa_cons (pv 0) (pa_cons (pe_callB call_len_seq (by rfl) T.len PySem.boot_len (pa_cons (pv 1) pa_nil)) pa_nil))))
      (pss_one (ps_ret (pe_ix ix_list (pv 1) (pv 2) (fun _ _ => rfl))))), ?_⟩
    refine ⟨_, rfl, _, rfl, l, _, rfl, .inl (.inl (.inl hl)), j, _, d, s, c, rfl, hj, hd, by omega, by omega, fun r d' s' c' a1 a2 a3 => ?_⟩
    obtain ⟨n, rfl⟩ := Int.eq_ofNat_of_zero_le a1
    have lt : n < xs.length := by omega
    have hl2 : (upd H j (jarAs d' s' c')) l = some (.lst xs) := by rw [upd_ne ne]; exact hl
    refine ⟨_, rfl, _, rfl, l, _, _, xs[n], rfl, rfl, .inl (.inl hl2), atI_nat (List.getElem?_eq_getElem lt), ?_⟩
    exact q _ d' s' c' (List.getElem_mem lt) a3

end
theorem scSpans : FnScope ["jar", "most", "found", "many", "turn", "size"] ["jar", "most"] (defScope sSpans) :=
  ⟨rfl, rfl, rfl, by decide +kernel, rfl, by decide +kernel, by decide +kernel⟩
theorem scAll : FnScope ["spans", "found", "size", "longer", "begun", "glyph"] ["spans"] (defScope sAll) :=
  ⟨rfl, rfl, rfl, by decide +kernel, rfl, by decide +kernel, by decide +kernel⟩

/-- the law's own defs as the top has left them -/
structure TxL (K : PySem.W.Frag) (mg : Str → Option Value) (a : Nat → Addr) (d : Nat → FuncData) : Prop where
  J : TxJ mg
  FD : Fun K "_law_dip" "_law_dip" sDip (a 0) (d 0)
  bD : Binds K (d 0) ["jar", "most"] []
  gD : mg "_law_dip" = some (.ref (a 0))
  FP : Fun K "_law_pick" "_law_pick" sPick (a 1) (d 1)
  bP : Binds K (d 1) ["jar", "menu"] []
  gP : mg "_law_pick" = some (.ref (a 1))
  range : mg "range" = none
/-- right numbers of stands of at most m settings -/
def prodOf (ns : List Int) : Int := ns.foldl (fun m n => m * n) 1
structure Good (m : Int) (ns : List Int) : Prop where
  some_ : ns ≠ []
  few : ns.length ≤ 5
  each : ∀ n ∈ ns, isz n = true
  prod : prodOf ns ≤ m
theorem sqt_keep {K : PySem.W.Frag} {H H' : Hp} {D a : Addr} {xs ys : List V} (k : Keeps D H H') (hD : H D = some (.lst xs)) (h : SqT K H a ys) : SqT K H' a ys := by
  rcases h with (h | ⟨o, h⟩) | h
  · exact .inl (.inl (k _ _ h (ne_of h hD (by intro z; cases z))))
  · exact .inl (.inr ⟨o, k _ _ h (ne_of h hD (by intro z; cases z))⟩)
  · exact .inr h
section
variable {P : Program} {w : World} {K : PySem.W.Frag} {mg : Str → Option Value} {base : Heap} {la : Nat → Addr} {ld : Nat → FuncData}
/-! ### all settings -/
def spAll (K : PySem.W.Frag) : Sp := fun vs H Q _ => ∃ (a : Addr) (ns : List Int), vs = [.ref a] ∧ SqT K H a (ns.map V.int) ∧ Fits (wholeOf ns) ∧
  ∀ H' p, Same H H' → H p = none → H' p = some (.lst ((setsOf (wholeOf ns)).map V.str)) → Q (.ref p) H'
theorem ok_all {f : Addr} {fd : FuncData} (F : Fun K "_law_all" "_law_all" sAll f fd) :
    FnOk P w K mg base CX0 1 f fd ["spans"] (spAll K) := by
  refine F.ok scAll (fun vs H Q E h => ?_) (fun cdv A outer s H vs Q E hr h => ?_)
  · obtain ⟨a, ns, rfl, _⟩ := h
    rfl
  · obtain ⟨a, ns, rfl, hS, fit, q⟩ := h
    refine ⟨_, (pss_cons (ps_set (i := 1) scAll.nd rfl (.inl rfl) (pe_lst (pa_cons pe_str pa_nil)))
      (pss_cons (ps_for PassesOwn.never rfl (pi_tup (pv 0)) (pg_name (i := 2) scAll.nd rfl (.inl rfl)) (pss_cons (ps_set (i := 3) scAll.nd rfl (.inl rfl) (pe_lst pa_nil))
      (pss_cons (ps_for PassesOwn.never rfl (pi_list (pv 1)) (pg_name (i := 4) scAll.nd rfl (.inr rfl)) (pss_one (ps_set (i := 3) scAll.nd rfl (.inl rfl) (pe_op op_cat (pv 3) (pe_lc (own := [("glyph", 5)]) (g := gName 5) (tt := tYes) rfl scAll.nd (pi_str (pe_slice sl_str pe_str po_none (po_some (pv 2)))) (blkOk_by (N := ["spans", "found", "size", "longer", "begun", "glyph"]) (sc := defScope sAll) (by decide +kernel)) (fun _ _ _ _ _ => pg_name (i := 5) scAll.nd rfl (Or.inl rfl)) (fun _ _ _ _ _ => pts_nil) (fun _ _ _ _ _ => (pe_op op_add_str (pv 4) (pv 5))))))))
      (pss_one (ps_set (i := 1) scAll.nd rfl (.inl rfl) (pv 3))))))
      (pss_one (ps_ret (pv 1))))), ?_⟩
    refine ⟨by show 1 ≤ sizeLine; decide, fun l nl => ?_⟩
    refine ⟨_, rfl, a, rfl, ⟨_, same_tup (same_new nl) hS⟩, for_it (walk_tup (K := K) (a := a) (xs := ns.map V.int)) (fun i σ H' => ∃ (l : Addr) (y1 y2 y3 : Option V), σ = [some (.ref a), some (.ref l), y1, y2, y3, none] ∧ Same H H' ∧ H l = none ∧ H' l = some (.lst ((setsOf ((wholeOf ns).take i)).map V.str)))
      ⟨l, none, none, none, rfl, same_new nl, nl, upd_same⟩ (fun i σ H' _ ⟨_, _, _, _, _, s1, _⟩ => same_tup s1 hS) ?_ ?_⟩
    · rintro i v H10 H1 H2 hi ⟨l, y1, y2, y3, rfl, s1, nl, hl⟩ ⟨rfl, hv⟩
      obtain ⟨n, hn, rfl⟩ := at_map hv
      have hz : (wholeOf ns)[i]? = some (cutS "012" none (some n)) := by
        unfold wholeOf
        rw [List.getElem?_map, hn]
        rfl
      generalize hzz : cutS "012" none (some n) = z at hz
      have z3 := fit.each z (List.mem_of_getElem? hz)
      have sl := setsOf_len (fit.take i)
      have each := setsOf_each (zs := (wholeOf ns).take i)
      have l5 : ((wholeOf ns).take i).length ≤ 5 := (fit.take i).many
      rw [take_next hz, setsOf_snoc]
      generalize setsOf ((wholeOf ns).take i) = S at hl sl each ⊢
      refine ⟨by show 0 ≤ sizeLine; decide, fun e ne => ?_⟩
      have ne0 := s1.free ne
      refine ⟨_, rfl, l, rfl, ⟨_, .inl (.inl ((same_new ne) _ _ hl))⟩, for_it (walk_list (K := K) (a := l) (xs := S.map V.str)) (fun j σ H3 => ∃ (e : Addr) (y3 : Option V), σ = [some (.ref a), some (.ref l), some (.int n), some (.ref e), y3, none] ∧ Same H2 H3 ∧ H2 e = none ∧ H3 e = some (.lst ((sets1 (S.take j) z).map V.str)))
        ⟨e, _, rfl, same_new ne, ne, upd_same⟩ (fun j σ H3 _ ⟨_, _, _, s3, _⟩ => .inl (.inl (s3 _ _ hl))) ?_ ?_⟩
      · rintro j v H30 H31 H3 hj ⟨e, y3, rfl, s3, ne, he⟩ ⟨rfl, hv⟩
        obtain ⟨s, hs, rfl⟩ := at_map hv
        have ls := each s (List.mem_of_getElem? hs)
        refine ⟨_, rfl, _, rfl, n, rfl, _, rfl, by decide +kernel, z, by rw [hzz], fun D nD => lc_it (walk_chars (z := z)) (fun k H5 => Same H3 H5 ∧ H5 D = some (.lst ((((chars z).take k).map fun c => s ++ c).map V.str)))
          ⟨same_new nD, upd_same⟩ (fun _ _ _ _ => True.intro) ?_ ?_⟩
        · rintro k v H50 H5 hk ⟨s5, e5⟩ ⟨rfl, c, hc, rfl⟩
          refine ⟨rfl, _, rfl, _, rfl, s, c, rfl, rfl, ?_, _, e5, ?_, comp_same s5 nD, upd_same.trans (lst_next ?_)⟩
          · rw [ls, char_len hc]
            exact Nat.le_of_lt (small1000 (by omega))
          · rw [List.length_map, List.length_map, List.length_take]
            exact small1000 (by omega)
          · rw [take_next hc, List.map_append]
            rfl
        · rintro H5 ⟨s5, e5⟩
          rw [List.take_length] at e5
          have g1 := sets1_take_len (S := S) (z := z) (i := j)
          have g2 : S.length * (chars z).length ≤ 243 * 3 := Nat.mul_le_mul sl z3
          refine ⟨e, D, _, _, rfl, rfl, s5 _ _ he, e5, ?_, fun p np => ⟨p, _, rfl, s3.trans (s5.trans (same_new np)), (s3.trans s5).free np, upd_same.trans ?_⟩⟩
          · rw [List.length_map, List.length_map, List.length_map]
            exact Nat.le_of_lt (small1000 (by omega))
          · rw [sets1_next hs, List.map_append]
      · rintro σ H3 ⟨e, y3, rfl, s3, ne, he⟩
        rw [List.length_map, List.take_length] at he
        exact ⟨_, rfl, e, _, _, _, rfl, s1.trans s3, s1.free ne, he⟩
    · rintro σ H1 ⟨l, y1, y2, y3, rfl, s1, nl, hl⟩
      have e0 : (ns.map V.int).length = (wholeOf ns).length := by unfold wholeOf; rw [List.length_map, List.length_map]
      rw [e0, List.take_length] at hl
      exact ⟨_, rfl, q _ l s1 nl hl⟩
end

/-! ### drawn numbers of stands -/
theorem lay_ints : ∀ ns : List Int, PyData.canLayAll0 (ns.map PyData.int) = true
  | [] => rfl
  | n :: ns => by
    show (PyData.canLay0 (.int n) && PyData.canLayAll0 (ns.map PyData.int)) = true
    rw [lay_ints ns]; rfl
theorem shape_tups (ns : List Int) : SeqAt.shaped (.tuple (ns.map PyData.int)) = true := by
  unfold SeqAt.shaped
  have h1 : PyData.canLay0 (.tuple (ns.map PyData.int)) = true := by simp only [PyData.canLay0]; exact lay_ints ns
  have h2 : PyData.depth (.tuple (ns.map PyData.int)) ≤ 64 := by
    rw [PyData.depth, PySem.W.depth_ints]
    decide
  rw [h1, decide_eq_true h2]; rfl
theorem prod_snoc (ns : List Int) (n : Int) : prodOf (ns ++ [n]) = prodOf ns * n := by
  unfold prodOf
  rw [List.foldl_append]
  rfl
section
variable {P : Program} {w : World} {K : PySem.W.Frag} {mg : Str → Option Value} {base : Heap} {la : Nat → Addr} {ld : Nat → FuncData}
theorem dat_ints {H : Hp} : ∀ ns : List Int, DpAll K H (ns.map V.int) (ns.map PyData.int)
  | [] => .nil
  | n :: ns => .cons (.int n) (dat_ints ns)
def JarIs (H : Hp) (j : Addr) : Prop := ∃ d s c : Int, H j = some (jarAs d s c) ∧ 0 ≤ d
theorem JarIs.same {H H' : Hp} {j : Addr} (s : Same H H') (h : JarIs H j) : JarIs H' j := by
  obtain ⟨d, sd, c, e, hd⟩ := h
  exact ⟨d, sd, c, s _ _ e, hd⟩
def spSpans (K : PySem.W.Frag) : Sp := fun vs H Q _ => ∃ (j : Addr) (m : Int), vs = [.ref j, .int m] ∧ JarIs H j ∧ 2 ≤ m ∧ m ≤ 48 ∧
  ∀ H' p ns, Keeps j H H' → JarIs H' j → SqT K H' p (ns.map V.int) → Good m ns → Q (.ref p) H'
theorem ok_spans {f : Addr} {fd : FuncData} (F : Fun K "_law_spans" "_law_spans" sSpans f fd) (L : TxL K mg la ld) :
    FnOk P w K mg base CX0 3 f fd ["jar", "most"] (spSpans K) := by
  have GD : FnOk P w K mg base CX0 1 (la 0) (ld 0) ["jar", "most"] spDip := ok_dip L.FD L.J
  have GP : FnOk P w K mg base CX0 2 (la 1) (ld 1) ["jar", "menu"] spPick := ok_pick L.FP L.FD L.bD L.gD L.J
  refine F.ok scSpans (fun vs H Q E h => ?_) (fun cdv A outer s H vs Q E hr h => ?_)
  · obtain ⟨j, m, rfl, _⟩ := h
    rfl
  · obtain ⟨j, m, rfl, ⟨d, sd, c, hj, hd⟩, m2, m48, q⟩ := h
    have hr1 : Room 1 (A.deeper (envOfC "_law_spans" (defScope sSpans) s.heap.objs.size f cdv)) := hr.mono (by decide)
    refine ⟨_, (pss_cons (ps_asg (pe_tup (pa_cons (pe_tup pa_nil) (pa_cons pe_int pa_nil))) (pg_tup rfl (pgs_cons (pg_name (i := 2) scSpans.nd rfl (.inl rfl)) (pgs_cons (pg_name (i := 3) scSpans.nd rfl (.inl rfl)) pgs_nil))))
      (pss_cons (ps_for PassesOwn.never rfl (pi_range1 rfl L.range (pa_cons (pe_op op_add pe_int (pe_call GD hr1 (by rfl) L.gD L.FD.kp L.bD .nil pass0 (pa_cons (pv 0) (pa_cons pe_int pa_nil)))) pa_nil)) (pg_name (i := 4) scSpans.nd rfl (.inl rfl)) (pss_cons (ps_set (i := 5) scSpans.nd rfl (.inl rfl) (pe_call GP hr (by rfl) L.gP L.FP.kp L.bP .nil pass0 (pa_cons (pv 0) (pa_cons (pe_lst (pa_cons pe_int (pa_cons pe_int (pa_cons pe_int pa_nil)))) pa_nil))))
      (pss_one (ps_if (pt_cmpR op_le (pe_op op_mul (pv 3) (pv 5)) (pv 1) (nomark _)) (pss_one (ps_par (i := 2) (j := 3) (by rfl) scSpans.nd rfl rfl (by decide) rfl rfl (pa_cons (pe_op op_catA (pv 2) (pe_tup (pa_cons (pv 5) pa_nil))) (pa_cons (pe_op op_mul (pv 3) (pv 5)) pa_nil)) (by rfl))) pss_nil))))
      (pss_one (ps_ret (pe_ifExp (pt_cmpR (op_neD hr.units) (pv 2) (pe_tup pa_nil) (nomark _)) (pv 2) (pe_tup (pa_cons pe_int pa_nil))))))), ?_⟩
    refine ⟨by show 0 ≤ sizeLine; decide, fun t nt => ⟨by show 2 ≤ sizeLine; decide, fun t2 nt2 => ?_⟩⟩
    have jt : j ≠ t := ne_of_none hj nt
    refine ⟨t2, _, rfl, .inl (.inl upd_same), rfl, _, _, rfl, _, _, rfl, rfl, ?_⟩
    have s0 := (same_new (o := .tup []) nt).trans (same_new (o := .tup [.ref t, .int 1]) nt2)
    have ht : (upd (upd H t (.tup [])) t2 (.tup [.ref t, .int 1])) t = some (.tup []) := (same_new nt2) _ _ upd_same
    generalize upd (upd H t (.tup [])) t2 (.tup [.ref t, .int 1]) = H0 at s0 ht ⊢
    refine ⟨_, rfl, j, 5, d, sd, c, rfl, s0 _ _ hj, hd, by decide, by decide, fun r d' s' c' r0 r5 hd' => ?_⟩
    obtain ⟨n, rfl⟩ := Int.eq_ofNat_of_zero_le r0
    have n5 : 1 + n ≤ 5 := by omega
    have k0 : Keeps j H (upd H0 j (jarAs d' s' c')) := (Keeps.of s0).trans Keeps.upd
    have ht2 : (upd H0 j (jarAs d' s' c')) t = some (.tup []) := by rw [upd_ne jt.symm]; exact ht
    have j0 : JarIs (upd H0 j (jarAs d' s' c')) j := ⟨d', s', c', upd_same, hd'⟩
    generalize upd H0 j (jarAs d' s' c') = H1 at k0 ht2 j0 ⊢
    refine ⟨_, _, rfl, rfl, 1 + (n : Int), rfl, by omega, by omega, for_range (fun i σ H2 => ∃ (p : Addr) (ns : List Int) (y4 y5 : Option V), σ = [some (.ref j), some (.int m), some (.ref p), some (.int (prodOf ns)), y4, y5] ∧ Keeps j H H2 ∧ JarIs H2 j ∧ SqT K H2 p (ns.map V.int) ∧ ns.length ≤ i ∧
      (∀ n ∈ ns, isz n = true) ∧ prodOf ns ≤ m ∧ 1 ≤ prodOf ns) ⟨t, [], none, none, rfl, k0, j0, .inl (.inl ht2), Nat.le_refl _, (fun _ z => by cases z), by show (1 : Int) ≤ m; omega, Int.le_refl _⟩ ?_ ?_⟩
    · rintro i σ H2 hi ⟨p, ns, y4, y5, rfl, k2, ⟨d2, s2, c2, j2, hd2⟩, hp, li, each, pm, p1⟩
      have i5 : i < 5 := by
        have e : (1 + (n : Int)).toNat = 1 + n := by omega
        omega
      refine ⟨_, rfl, by show 3 ≤ sizeLine; decide, fun l nl => ?_⟩
      have sl := same_new (o := .lst [V.int 2, V.int 2, V.int 3]) nl
      refine ⟨j, l, _, d2, s2, c2, rfl, sl _ _ j2, hd2, upd_same, (ne_of_none j2 nl).symm, by decide, by decide, fun v d3 s3 c3 hv hd3 => ?_⟩
      have hv2 : ∃ k : Int, v = .int k ∧ isz k = true := by
        simp only [List.mem_cons, List.not_mem_nil, or_false] at hv
        rcases hv with e | e | e
        · exact ⟨2, e, by decide⟩
        · exact ⟨2, e, by decide⟩
        · exact ⟨3, e, by decide⟩
      obtain ⟨k, rfl, zk⟩ := hv2
      have kb : k = 2 ∨ k = 3 := of_decide_eq_true zk
      have ks : Keeps j (upd H2 l (.lst [V.int 2, V.int 2, V.int 3])) (upd (upd H2 l (.lst [V.int 2, V.int 2, V.int 3])) j (jarAs d3 s3 c3)) := Keeps.upd
      have k3 : Keeps j H2 (upd (upd H2 l (.lst [V.int 2, V.int 2, V.int 3])) j (jarAs d3 s3 c3)) := (Keeps.of sl).trans ks
      have j3 : JarIs (upd (upd H2 l (.lst [V.int 2, V.int 2, V.int 3])) j (jarAs d3 s3 c3)) j := ⟨d3, s3, c3, upd_same, hd3⟩
      have hp3 := sqt_keep k3 j2 hp
      generalize upd (upd H2 l (.lst [V.int 2, V.int 2, V.int 3])) j (jarAs d3 s3 c3) = H3 at k3 j3 hp3 ⊢
      have pb : prodOf ns * k = prodOf ns * 2 ∨ prodOf ns * k = prodOf ns * 3 := by rcases kb with e | e <;> subst e <;> simp
      refine ⟨_, rfl, _, rfl, _, _, rfl, rfl, .inl ⟨by omega, by omega⟩, _, rfl, _, _, rfl, rfl, _, rfl, ite2 (fun e => ?_) (fun e => ?_)⟩
      · have le : prodOf ns * k ≤ m := of_decide_eq_true e
        have next : ∀ (H4 : Hp) (p' : Addr), Same H3 H4 → SqT K H4 p' ((ns ++ [k]).map V.int) → (∃ (p : Addr) (ns' : List Int) (y4' y5' : Option V), [some (V.ref j), some (.int m), some (.ref p'), some (.int (prodOf ns * k)), some (.int (0 + (i : Int))), some (.int k)] =
            [some (.ref j), some (.int m), some (.ref p), some (.int (prodOf ns')), y4', y5'] ∧ Keeps j H H4 ∧ JarIs H4 j ∧ SqT K H4 p (ns'.map V.int) ∧ ns'.length ≤ i + 1 ∧ (∀ n ∈ ns', isz n = true) ∧ prodOf ns' ≤ m ∧ 1 ≤ prodOf ns') := by
          intro H4 p' s4 hp4
          refine ⟨p', ns ++ [k], _, _, by rw [prod_snoc], k2.trans (k3.trans (Keeps.of s4)), j3.same s4, hp4, by rw [List.length_append]; exact Nat.succ_le_succ li, fun n hn => ?_, by rw [prod_snoc]; exact le, by rw [prod_snoc]; omega⟩
          rcases List.mem_append.mp hn with e | e
          · exact each n e
          · rw [List.mem_singleton.mp e]
            exact zk
        refine ⟨_, rfl, _, rfl, by show 1 ≤ sizeLine; decide, fun u nu => ?_⟩
        have su := same_new (o := .tup [V.int k]) nu
        refine ⟨p, u, _, [V.int k], rfl, rfl, same_tup su hp3, .inl (.inl upd_same), ?_, fun e0 => ?_, fun _ e1 => ?_, fun _ _ r nr => ?_⟩
        · rw [List.length_map]
          exact Nat.le_of_lt (small1000 (by show ns.length + 1 ≤ 1000; omega))
        · have e2 : ns = [] := List.map_eq_nil_iff.mp e0
          subst e2
          exact ⟨_, rfl, _, rfl, _, _, rfl, rfl, .inl ⟨by omega, by omega⟩, _, _, rfl, next _ u su (.inl (.inl upd_same))⟩
        · cases e1
        · exact ⟨_, rfl, _, rfl, _, _, rfl, rfl, .inl ⟨by omega, by omega⟩, _, _, rfl, next _ r (su.trans (same_new nr)) (.inl (.inl (upd_same.trans (by rw [List.map_append]; rfl))))⟩
      · exact ⟨p, ns, _, _, rfl, k2.trans k3, j3, hp3, Nat.le_succ_of_le li, each, pm, p1⟩
    · rintro σ H2 ⟨p, ns, y4, y5, rfl, k2, j2, hp, li, each, pm, p1⟩
      have l5 : ns.length ≤ 5 := by
        have e : (1 + (n : Int)).toNat = 1 + n := by omega
        omega
      refine ⟨_, rfl, by show 0 ≤ sizeLine; decide, fun u nu => ?_⟩
      have su := same_new (o := .tup []) nu
      refine ⟨.tuple (ns.map .int), .tuple [], .tup (same_tup su hp) (dat_ints ns), .tup (.inl (.inl upd_same)) .nil, shape_tups ns, by decide, ?_⟩
      cases ns with
      | nil =>
        refine ⟨_, rfl, iteF ⟨by show 1 ≤ sizeLine; decide, fun r nr => ?_⟩⟩
        exact q _ r [2] (k2.trans (Keeps.of (su.trans (same_new nr)))) (j2.same (su.trans (same_new nr))) (.inl (.inl upd_same)) ⟨by simp, by decide, (fun n hn => by rw [List.mem_singleton.mp hn]; decide), by show (2 : Int) ≤ m; omega⟩
      | cons n0 ns =>
        refine ⟨_, rfl, iteT ⟨_, rfl, ?_⟩⟩
        exact q _ p (n0 :: ns) (k2.trans (Keeps.of su)) (j2.same su) (same_tup su hp) ⟨by simp, l5, each, pm⟩
end
end Sw

set_option Elab.async false
set_option linter.all false
set_option maxRecDepth 100000
set_option maxHeartbeats 16000000

/-! The law's own squares. -/
namespace Sw
open PySem PySem.Spec PyProof.Rows L2
theorem scTiles : FnScope ["spans", "spots", "found", "low", "high", "far", "a", "b", "one_spot", "other_spot", "k"] ["spans"] (defScope sTiles) :=
  ⟨rfl, rfl, rfl, by decide +kernel, rfl, by decide +kernel, by decide +kernel⟩

def ch (s : Str) (k : Nat) : Str := (chars s).getD k ""
def farOf (low high : Str) (n : Nat) : List Nat := (List.range n).filter fun k => ltS (ch low k) (ch high k)
def revOf (low high : Str) (n : Nat) : List Bool := (List.range n).map fun k => ltS (ch high k) (ch low k)
def turned (low high : Str) (b : Nat) : Str := (cutS low none (some (b : Int)) ++ cutS high (some (b : Int)) (some ((b : Int) + 1))) ++ cutS low (some ((b : Int) + 1)) none
def tileL (low high : Str) (n : Nat) : List (List Str) := match farOf low high n with
  | [a, b] => if (revOf low high n).any id then [] else [[low, turned low high b, turned low high a, high]]
  | _ => []
def tilesRow (S : List Str) (n : Nat) (low : Str) : List (List Str) := S.flatMap fun high => tileL low high n
def tilesOf (S : List Str) (n : Nat) : List (List Str) := S.flatMap (tilesRow S n)
def tlData (S : List Str) (n : Nat) : List PyData := ((tilesOf S n).map tupD).mergeSort (PySem.W.dataLe false fun d => d)
theorem flat_next {α β : Type} {f : α → List β} {xs : List α} {i : Nat} {x : α} (h : xs[i]? = some x) : (xs.take (i + 1)).flatMap f = (xs.take i).flatMap f ++ f x := by
  rw [take_next h, List.flatMap_append]
  simp
theorem flat_len {α β : Type} {f : α → List β} {m : Nat} : ∀ {xs : List α}, (∀ x ∈ xs, (f x).length ≤ m) → (xs.flatMap f).length ≤ xs.length * m
  | [], _ => Nat.zero_le _
  | x :: xs, h => by
    have h1 := flat_len (f := f) (m := m) (xs := xs) fun y hy => h y (.tail _ hy)
    have h2 := h x (.head _)
    rw [List.flatMap_cons, List.length_append, List.length_cons, Nat.succ_mul]
    omega
theorem tileL_len (low high : Str) (n : Nat) : (tileL low high n).length ≤ 1 := by
  unfold tileL
  split
  · split <;> simp
  · simp
theorem tiles_ne {S : List Str} {n : Nat} : ∀ t ∈ tilesOf S n, t ≠ [] := by
  intro t ht
  unfold tilesOf tilesRow at ht
  obtain ⟨low, _, ht⟩ := List.mem_flatMap.mp ht
  obtain ⟨high, _, ht⟩ := List.mem_flatMap.mp ht
  unfold tileL at ht
  split at ht
  · split at ht
    · cases ht
    · rw [List.mem_singleton.mp ht]
      simp
  · cases ht
theorem ch_at {s : Str} {k : Nat} (h : k < s.length) : ∃ u, s.cps[k]? = some u ∧ ch s k = ⟨#[u]⟩ := by
  have h' : k < s.cps.size := h
  have e : s.cps[k]? = some s.cps[k] := by simp [h']
  refine ⟨s.cps[k], e, ?_⟩
  unfold ch
  rw [List.getD_eq_getElem?_getD, chars_at e]
  rfl
section
variable {P : Program} {w : World} {K : PySem.W.Frag} {mg : Str → Option Value} {base : Heap} {la : Nat → Addr} {ld : Nat → FuncData}
def spTiles (K : PySem.W.Frag) : Sp := fun vs H Q _ => ∃ (a : Addr) (ns : List Int), vs = [.ref a] ∧ SqT K H a (ns.map V.int) ∧ Fits (wholeOf ns) ∧
  ∀ H' p ws, Same H H' → H p = none → H' p = some (.lst ws) → DpAll K H' ws (tlData (setsOf (wholeOf ns)) ns.length) → Q (.ref p) H'
theorem ok_tiles {f fA : Addr} {fd fdA : FuncData} (F : Fun K "_law_tiles" "_law_tiles" sTiles f fd) (T : TxB mg) (FA : Fun K "_law_all" "_law_all" sAll fA fdA) (bA : Binds K fdA ["spans"] []) (gA : mg "_law_all" = some (.ref fA))
    (rangeT : mg "range" = none) (anyT : mg "any" = none) :
    FnOk P w K mg base CX0 2 f fd ["spans"] (spTiles K) := by
  have GA : FnOk P w K mg base CX0 1 fA fdA ["spans"] (spAll K) := ok_all FA
  refine F.ok scTiles (fun vs H Q E h => ?_) (fun cdv A outer s H vs Q E hr h => ?_)
  · obtain ⟨a, ns, rfl, _⟩ := h
    rfl
  · obtain ⟨a, ns, rfl, hS, fit, q⟩ := h
    refine ⟨_, (pss_cons (ps_par (i := 1) (j := 2) (by rfl) scTiles.nd rfl rfl (by decide) rfl rfl (pa_cons (pe_call GA hr (by rfl) gA FA.kp bA .nil pass0 (pa_cons (pv 0) pa_nil)) (pa_cons (pe_lst pa_nil) pa_nil)) (by rfl))
      (pss_cons (ps_for PassesOwn.never rfl (pi_list (pv 1)) (pg_name (i := 3) scTiles.nd rfl (.inr rfl)) (pss_one (ps_for PassesOwn.never rfl (pi_list (pv 1)) (pg_name (i := 4) scTiles.nd rfl (.inr rfl)) (pss_cons (ps_setLc (i := 5) (own := [("k", 10)]) (g := gName 10)  rfl scTiles.nd rfl rfl (sw_true rfl rfl rfl (by decide +kernel)) (pi_range1 rfl rangeT (pa_cons (pe_callB (call_lenK K rfl) (by rfl) T.len PySem.boot_len (pa_cons (pv 0) pa_nil)) pa_nil)) (blkOk_by (N := ["spans", "spots", "found", "low", "high", "far", "a", "b", "one_spot", "other_spot", "k"]) (sc := defScope sTiles) (by decide +kernel)) (fun _ _ _ _ _ => pg_name (i := 10) scTiles.nd rfl (Or.inl rfl)) (fun _ _ _ _ _ => (pts_one (pt_cmpR op_lt_str (pe_item_str (pv 3) (pv 10) (fun _ _ => rfl)) (pe_item_str (pv 4) (pv 10) (fun _ _ => rfl)) (nomark _)))) (fun _ _ _ _ _ => (pv 10)))
      (pss_one (ps_if (PW.pt (pw_and (pt_cmpR op_eq (pe_callB (call_lenK K rfl) (by rfl) T.len PySem.boot_len (pa_cons (pv 5) pa_nil)) pe_int (nomark _)) (pw_and1 (pt_not (pt_val (pe_callB (cr_any rfl) (by rfl) anyT (by decide +kernel) (pa_cons (pe_lc (own := [("k", 10)]) (g := gName 10) (tt := tYes) rfl scTiles.nd (pi_range1 rfl rangeT (pa_cons (pe_callB (call_lenK K rfl) (by rfl) T.len PySem.boot_len (pa_cons (pv 0) pa_nil)) pa_nil)) (blkOk_by (N := ["spans", "spots", "found", "low", "high", "far", "a", "b", "one_spot", "other_spot", "k"]) (sc := defScope sTiles) (by decide +kernel)) (fun _ _ _ _ _ => pg_name (i := 10) scTiles.nd rfl (Or.inl rfl)) (fun _ _ _ _ _ => pts_nil) (fun _ _ _ _ _ => (pe_cmpR op_gt_str (pe_item_str (pv 3) (pv 10) (fun _ _ => rfl)) (pe_item_str (pv 4) (pv 10) (fun _ _ => rfl)) (nomark _)))) pa_nil))))))) (pss_cons (ps_asg (pv 5) (pg_unl rfl (pgs_cons (pg_name (i := 6) scTiles.nd rfl (.inl rfl)) (pgs_cons (pg_name (i := 7) scTiles.nd rfl (.inl rfl)) pgs_nil))))
      (pss_cons (ps_set (i := 8) scTiles.nd rfl (.inl rfl) (pe_op op_add_str (pe_op op_add_str (pe_slice sl_str (pv 3) po_none (po_some (pv 7))) (pe_slice sl_str (pv 4) (po_some (pv 7)) (po_some (pe_op op_add (pv 7) pe_int)))) (pe_slice sl_str (pv 3) (po_some (pe_op op_add (pv 7) pe_int)) po_none)))
      (pss_cons (ps_set (i := 9) scTiles.nd rfl (.inl rfl) (pe_op op_add_str (pe_op op_add_str (pe_slice sl_str (pv 3) po_none (po_some (pv 6))) (pe_slice sl_str (pv 4) (po_some (pv 6)) (po_some (pe_op op_add (pv 6) pe_int)))) (pe_slice sl_str (pv 3) (po_some (pe_op op_add (pv 6) pe_int)) po_none)))
      (pss_one (ps_expr (pe_bm PySem.F.plainAttrs_list PySem.F.slot_list_append PySem.F.type_list_append mt_append (pv 2) (pa_cons (pe_tup (pa_cons (pv 3) (pa_cons (pv 8) (pa_cons (pv 9) (pa_cons (pv 4) pa_nil))))) pa_nil))))))) pss_nil))))))
      (pss_one (ps_ret (pe_callB (call_sortD hr.units) (by rfl) T.srt boot_sorted (pa_cons (pv 2) pa_nil)))))), ?_⟩
    have few := setsOf_len fit
    have each := setsOf_each (zs := wholeOf ns)
    have wl : (wholeOf ns).length = ns.length := by unfold wholeOf; rw [List.length_map]
    have n5 : ns.length ≤ 5 := by have := fit.many; omega
    rw [wl] at each
    refine ⟨_, rfl, a, ns, rfl, hS, fit, fun H1 l s1 nl hl => ⟨by show 0 ≤ sizeLine; decide, fun f nf => ⟨_, _, rfl, ?_⟩⟩⟩
    have nf0 := s1.free nf
    generalize setsOf (wholeOf ns) = S at few each hl q ⊢
    have hS1 := same_tup s1 hS
    have s2 := same_new (o := .lst []) nf
    refine ⟨_, rfl, l, rfl, ⟨_, .inl (.inl (s2 _ _ hl))⟩, for_it (walk_list (K := K) (a := l) (xs := S.map V.str)) (fun i σ H' => ∃ (L : List (V × List Str)) (y3 y4 y5 y6 y7 y8 y9 : Option V), σ = [some (.ref a), some (.ref l), some (.ref f), y3, y4, y5, y6, y7, y8, y9, none] ∧ Same H1 H' ∧
        H' f = some (.lst (L.map (·.1))) ∧ L.map (·.2) = (S.take i).flatMap (tilesRow S ns.length) ∧ ∀ b ∈ L, TupS K H' b)
      ⟨[], none, none, none, none, none, none, none, rfl, s2, upd_same, rfl, (fun b hb => by cases hb)⟩ (fun i σ H' _ ⟨_, _, _, _, _, _, _, _, _, s3, _⟩ => .inl (.inl (s3 _ _ hl))) ?_ ?_⟩
    · rintro i v H20 H2 H3 hi ⟨L, y3, y4, y5, y6, y7, y8, y9, rfl, s3, hf, eL, tL⟩ ⟨rfl, hv⟩
      obtain ⟨low, hlow, rfl⟩ := at_map hv
      have ll := each low (List.mem_of_getElem? hlow)
      rw [List.length_map] at hi
      refine ⟨_, rfl, l, rfl, ⟨_, .inl (.inl (s3 _ _ hl))⟩, for_it (walk_list (K := K) (a := l) (xs := S.map V.str)) (fun j σ H' => ∃ (L : List (V × List Str)) (y4 y5 y6 y7 y8 y9 : Option V), σ = [some (.ref a), some (.ref l), some (.ref f), some (.str low), y4, y5, y6, y7, y8, y9, none] ∧ Same H1 H' ∧
          H' f = some (.lst (L.map (·.1))) ∧ L.map (·.2) = (S.take i).flatMap (tilesRow S ns.length) ++ (S.take j).flatMap (fun high => tileL low high ns.length) ∧ ∀ b ∈ L, TupS K H' b)
        ⟨L, _, _, _, _, _, _, rfl, s3, hf, eL.trans (List.append_nil _).symm, tL⟩ (fun i σ H' _ ⟨_, _, _, _, _, _, _, _, s4, _⟩ => .inl (.inl (s4 _ _ hl))) ?_ ?_⟩
      · clear eL tL hf L s3
        rintro j v H30 H40 H4 hj ⟨L, y4, y5, y6, y7, y8, y9, rfl, s4, hf, eL, tL⟩ ⟨rfl, hv⟩
        obtain ⟨high, hhigh, rfl⟩ := at_map hv
        have lh := each high (List.mem_of_getElem? hhigh)
        rw [List.length_map] at hj
        have tn : ((((ns.map V.int).length : Nat) : Int)).toNat = ns.length := by rw [Int.toNat_natCast, List.length_map]
        have lowz : low.length ≤ sizeLine := Nat.le_of_lt (small1000 (by omega))
        have highz : high.length ≤ sizeLine := Nat.le_of_lt (small1000 (by omega))
        -- far
        refine ⟨_, rfl, a, _, rfl, .inr (same_tup s4 hS1), _, rfl, by omega, by rw [List.length_map]; omega, fun D nD => lc_it walk_range (fun k H5 => Same H4 H5 ∧ H5 D = some (.lst (((List.range k).filter fun k => ltS (ch low k) (ch high k)).map fun k => V.int (k : Nat))))
          ⟨same_new nD, upd_same⟩ (fun _ _ _ _ => True.intro) ?_ ?_⟩
        · rintro k v H50 H5 hk ⟨s5, e5⟩ ⟨rfl, rfl⟩
          rw [tn] at hk
          obtain ⟨u, hu, cu⟩ := ch_at (s := low) (k := k) (by omega)
          obtain ⟨u2, hu2, cu2⟩ := ch_at (s := high) (k := k) (by omega)
          refine ⟨rfl, _, rfl, _, rfl, low, _, u, rfl, rfl, by omega, by omega, by omega, by simpa using hu, _, rfl, _, rfl, high, _, u2, rfl, rfl, by omega, by omega, by omega, by simpa using hu2, _, _, rfl, rfl, _, rfl, ?_⟩
          have pe : decide ((⟨#[u]⟩ : Str).cps.toList < (⟨#[u2]⟩ : Str).cps.toList) = ltS (ch low k) (ch high k) := by rw [cu, cu2]; rfl
          rw [pe]
          cases hp : ltS (ch low k) (ch high k) with
          | true =>
            refine iteT ⟨_, rfl, _, e5, ?_, comp_same s5 nD, upd_same.trans ?_⟩
            · have g := List.length_filter_le (fun k => ltS (ch low k) (ch high k)) (List.range k)
              rw [List.length_range] at g
              rw [List.length_map]
              exact small1000 (by omega)
            · rw [List.range_succ, List.filter_append, List.filter_cons_of_pos (by exact hp), List.map_append]
              show some (HO.lst (_ ++ [V.int (0 + (k : Int))])) = _
              rw [Int.zero_add]
              rfl
          | false =>
            refine iteF ⟨s5, ?_⟩
            rw [List.range_succ, List.filter_append, List.filter_cons_of_neg (by rw [hp]; decide)]
            simpa using e5
        rintro H5 ⟨s5, e5⟩
        rw [tn] at e5
        have e5 : H5 D = some (.lst ((farOf low high ns.length).map fun k => V.int (k : Nat))) := e5
        have nD1 : H1 D = none := s4.free nD
        have fD : f ≠ D := ne_of_none hf nD
        have skip : tileL low high ns.length = [] → ∀ H6, Same H5 H6 → (∃ (L : List (V × List Str)) (z4 z5 z6 z7 z8 z9 : Option V), (([some (V.ref a), some (.ref l), some (.ref f), some (.str low), y4, y5, y6, y7, y8, y9, none].set 4 (some (V.str high))).set 5 (some (V.ref D))) =
            [some (.ref a), some (.ref l), some (.ref f), some (.str low), z4, z5, z6, z7, z8, z9, none] ∧ Same H1 H6 ∧
            H6 f = some (.lst (L.map (·.1))) ∧ L.map (·.2) = (S.take i).flatMap (tilesRow S ns.length) ++ (S.take (j + 1)).flatMap (fun high => tileL low high ns.length) ∧ ∀ b ∈ L, TupS K H6 b) := by
          intro e0 H6 s6
          refine ⟨L, _, _, y6, y7, y8, y9, rfl, s4.trans (s5.trans s6), (s5.trans s6) _ _ hf, ?_, fun b hb => (tL b hb).same (s5.trans s6)⟩
          rw [flat_next hhigh, e0, List.append_nil]
          exact eL
        refine ⟨_, rfl, D, _, rfl, .inl (.inl (.inl e5)), rfl, _, rfl, ite2 (fun c2 => ?_) (fun c2 => ?_)⟩
        · have l2 : (farOf low high ns.length).length = 2 := by
            have := V.int.inj (of_decide_eq_true c2)
            rw [List.length_map] at this
            omega
          -- any
          refine ⟨_, rfl, a, _, rfl, .inr (same_tup (s4.trans s5) hS1), _, rfl, by omega, by rw [List.length_map]; omega, fun D2 nD2 => lc_it walk_range (fun k H6 => Same H5 H6 ∧ H6 D2 = some (.lst (((List.range k).map fun k => ltS (ch high k) (ch low k)).map V.bl)))
            ⟨same_new nD2, upd_same⟩ (fun _ _ _ _ => True.intro) ?_ ?_⟩
          · rintro k v H60 H6 hk ⟨s6, e6⟩ ⟨rfl, rfl⟩
            rw [tn] at hk
            obtain ⟨u, hu, cu⟩ := ch_at (s := low) (k := k) (by omega)
            obtain ⟨u2, hu2, cu2⟩ := ch_at (s := high) (k := k) (by omega)
            refine ⟨rfl, _, rfl, _, rfl, low, _, u, rfl, rfl, by omega, by omega, by omega, by simpa using hu, _, rfl, _, rfl, high, _, u2, rfl, rfl, by omega, by omega, by omega, by simpa using hu2, _, _, rfl, rfl, _, e6, ?_, comp_same s6 nD2, upd_same.trans ?_⟩
            · rw [List.length_map, List.length_map, List.length_range]
              exact small1000 (by omega)
            · have pe2 : decide ((⟨#[u2]⟩ : Str).cps.toList < (⟨#[u]⟩ : Str).cps.toList) = ltS (ch high k) (ch low k) := by rw [cu, cu2]; rfl
              rw [List.range_succ, List.map_append, List.map_append, pe2]
              rfl
          rintro H6 ⟨s6, e6⟩
          rw [tn] at e6
          have e6 : H6 D2 = some (.lst ((revOf low high ns.length).map V.bl)) := e6
          refine ⟨D2, _, rfl, .inl (.inl e6), _, rfl, ?_⟩
          obtain ⟨x, y, exy⟩ : ∃ x y, farOf low high ns.length = [x, y] := by
            match h : farOf low high ns.length, l2 with
            | [x, y], _ => exact ⟨x, y, rfl⟩
          cases an : (revOf low high ns.length).any id with
          | true =>
            have e0 : tileL low high ns.length = [] := by
              unfold tileL
              rw [exy]
              simp only [an, if_true]
            refine iteF ?_
            obtain ⟨L', z4, z5, z6, z7, z8, z9, w1, w2, w3, w4, w5⟩ := skip e0 H6 s6
            exact ⟨L', z4, z5, z6, z7, z8, z9, w1, w2, w3, w4, w5⟩
          | false =>
            have et : tileL low high ns.length = [[low, turned low high y, turned low high x, high]] := by
              unfold tileL
              rw [exy]
              simp only [an, Bool.false_eq_true, if_false]
            have e7 := s6 _ _ e5
            rw [exy] at e7
            refine iteT ⟨_, rfl, D, _, rfl, .inl (.inl e7), rfl, _, _, rfl, _, _, rfl, rfl, ?_⟩
            have tl : ∀ b : Nat, (cutS low none (some (b : Int))).length + (cutS high (some (b : Int)) (some ((b : Int) + 1))).length ≤ sizeLine ∧
                (cutS low none (some (b : Int)) ++ cutS high (some (b : Int)) (some ((b : Int) + 1))).length + (cutS low (some ((b : Int) + 1)) none).length ≤ sizeLine := by
              intro b
              have c1 := cutS_length low none (some (b : Int))
              have c2 := cutS_length high (some (b : Int)) (some ((b : Int) + 1))
              have c3 := cutS_length low (some ((b : Int) + 1)) none
              rw [str_len_app]
              exact ⟨Nat.le_of_lt (small1000 (by omega)), Nat.le_of_lt (small1000 (by omega))⟩
            refine ⟨_, rfl, _, rfl, _, rfl, low, rfl, lowz, _, rfl, _, rfl, _, rfl, _, rfl, _, _, rfl, rfl, _, rfl, high, rfl, highz, _, _, rfl, rfl, (tl y).1, _, rfl, _, rfl, _, _, rfl, rfl, _, rfl, low, rfl, lowz, _, _, rfl, rfl, (tl y).2, ?_⟩
            refine ⟨_, rfl, _, rfl, _, rfl, low, rfl, lowz, _, rfl, _, rfl, _, rfl, _, rfl, _, _, rfl, rfl, _, rfl, high, rfl, highz, _, _, rfl, rfl, (tl x).1, _, rfl, _, rfl, _, _, rfl, rfl, _, rfl, low, rfl, lowz, _, _, rfl, rfl, (tl x).2, ?_⟩
            have hf6 := (s5.trans s6) _ _ hf
            refine ⟨_, rfl, .inl ⟨rfl, _, .inl (.inl hf6)⟩, _, rfl, _, rfl, _, rfl, _, rfl, by show 4 ≤ sizeLine; decide, fun t nt => ?_⟩
            have st := same_new (o := .tup [V.str low, V.str (turned low high y), V.str (turned low high x), V.str high]) nt
            have hf7 := st _ _ hf6
            have kp : Keeps f (upd H6 t (.tup [V.str low, V.str (turned low high y), V.str (turned low high x), V.str high])) (upd (upd H6 t (.tup [V.str low, V.str (turned low high y), V.str (turned low high x), V.str high])) f (.lst (L.map (·.1) ++ [V.ref t]))) := Keeps.upd
            refine ⟨f, _, _, rfl, rfl, hf7, ?_, L ++ [(V.ref t, [low, turned low high y, turned low high x, high])], _, _, _, _, _, _, rfl, comp_same ((s4.trans s5).trans (s6.trans st)) nf, upd_same.trans (by rw [List.map_append]; rfl), ?_, fun b hb => ?_⟩
            · have g0 : (L.map (·.2)).length = L.length := List.length_map _
              rw [eL, List.length_append] at g0
              have g1 := flat_len (f := tilesRow S ns.length) (m := 243) (xs := S.take i) fun x _ => by
                have := flat_len (f := fun high => tileL x high ns.length) (m := 1) (xs := S) fun y _ => tileL_len x y _
                unfold tilesRow
                omega
              have g2 := flat_len (f := fun high => tileL low high ns.length) (m := 1) (xs := S.take j) fun y _ => tileL_len low y _
              rw [List.length_take] at g1 g2
              have g3 : min i S.length * 243 ≤ 243 * 243 := Nat.mul_le_mul_right _ (by omega)
              rw [List.length_map]
              exact Nat.lt_of_le_of_lt (m := 59292) (by omega) (by decide)
            · rw [flat_next hhigh, et, List.map_append, eL, List.append_assoc]
              rfl
            · rcases List.mem_append.mp hb with e | e
              · exact ((tL b e).same ((s5.trans s6).trans st)).keep kp hf7
              · rw [List.mem_singleton.mp e]
                exact TupS.keep kp hf7 ⟨t, rfl, .inl (.inl upd_same)⟩
        · have e0 : tileL low high ns.length = [] := by
            unfold tileL
            split
            · rename_i x y exy
              exfalso
              apply c2
              rw [List.length_map, exy]
              rfl
            · rfl
          refine iteF ?_
          obtain ⟨L', z4, z5, z6, z7, z8, z9, w1, w2, w3, w4, w5⟩ := skip e0 H5 (Same.refl H5)
          exact ⟨L', z4, z5, z6, z7, z8, z9, w1, w2, w3, w4, w5⟩
      · rintro σ H4 ⟨L, y4, y5, y6, y7, y8, y9, rfl, s4, hf, eL, tL⟩
        rw [List.length_map, List.take_length] at eL
        exact ⟨L, _, _, _, _, _, _, _, rfl, s4, hf, by rw [flat_next hlow]; exact eL, tL⟩
    · rintro σ H2 ⟨L, y3, y4, y5, y6, y7, y8, y9, rfl, s3, hf, eL, tL⟩
      rw [List.length_map, List.take_length] at eL
      have fs : (L.map fun b => (b.1, tupD b.2)).map (·.1) = L.map (·.1) := by rw [List.map_map]; rfl
      have sn : (L.map fun b => (b.1, tupD b.2)).map (·.2) = (tilesOf S ns.length).map tupD := by
        unfold tilesOf
        rw [← eL, List.map_map, List.map_map]
        rfl
      have dp : ∀ b ∈ L.map fun b => (b.1, tupD b.2), Dp K H2 b.1 b.2 := by
        intro b hb
        obtain ⟨c, hc, rfl⟩ := List.mem_map.mp hb
        obtain ⟨r, er, hr⟩ := tL c hc
        show Dp K H2 c.1 (tupD c.2)
        rw [er]
        exact .tup hr (dat_strs _)
      refine ⟨_, rfl, f, L.map fun b => (b.1, tupD b.2), rfl, .inl (.inl (by rw [fs]; exact hf)), dp, ?_, ?_, ?_, fun p np => ?_⟩
      · rw [sn]
        intro d hd d' hd'
        obtain ⟨x, _, rfl⟩ := List.mem_map.mp hd
        obtain ⟨y, _, rfl⟩ := List.mem_map.mp hd'
        exact alike_tup x y
      · rw [sn]
        refine .inl fun d hd => ?_
        obtain ⟨ss, hs, rfl⟩ := List.mem_map.mp hd
        cases ss with
        | nil => exact absurd rfl (tiles_ne _ hs)
        | cons x r => exact ⟨.str x, r.map .str, rfl⟩
      · intro b hb
        obtain ⟨c, _, rfl⟩ := List.mem_map.mp hb
        exact depth_tup _
      · have sf := same_new (o := .lst (((L.map fun b => (b.1, tupD b.2)).mergeSort (PySem.W.dataLe false fun b => b.2)).map (·.1))) np
        refine q _ p _ (s1.trans (s3.trans sf)) ((s1.trans s3).free np) upd_same ?_
        have h1 := dat_pairs (K := K) (H := H2) ((L.map fun b => (b.1, tupD b.2)).mergeSort (PySem.W.dataLe false fun b => b.2)) fun b hb => dp b (List.mem_mergeSort.mp hb)
        rw [mergeSort_snd, sn] at h1
        exact datA_same sf h1
end
end Sw

set_option Elab.async false
set_option linter.all false
set_option maxRecDepth 100000
set_option maxHeartbeats 4000000
/-! The two lists of squares hold the same, board by board. -/
namespace Sw
open PySem PySem.Spec PyProof.Rows L2

theorem anti_row : ∀ xs ys : List Str, xs.length = ys.length → lexLt itemOrd (PySem.W.keyToksAll (xs.map .str)) (PySem.W.keyToksAll (ys.map .str)) = false →
    lexLt itemOrd (PySem.W.keyToksAll (ys.map .str)) (PySem.W.keyToksAll (xs.map .str)) = false → xs = ys
  | [], [], _, _, _ => rfl
  | [], _ :: _, h, _, _ => by cases h
  | _ :: _, [], h, _, _ => by cases h
  | x :: xs, y :: ys, hl, h1, h2 => by
    rw [List.map_cons, List.map_cons, PySem.W.dataLt_cons (by simp [PySem.W.alike]), PySem.W.dataLt_str] at h1 h2
    have ev : ∀ a b : Str, PyData.eqv (.str a) (.str b) = (a == b) := fun a b => by simp [PyData.eqv]
    rw [ev] at h1 h2
    by_cases e : x = y
    · subst e
      rw [beq_self_eq_true, if_pos rfl] at h1 h2
      rw [anti_row xs ys (by simpa using hl) h1 h2]
    · have e2 : ¬ (x == y) = true := by simpa using e
      have e3 : ¬ (y == x) = true := by simpa using fun z : y = x => e z.symm
      rw [if_neg e2] at h1
      rw [if_neg e3] at h2
      have g1 := of_decide_eq_false h1
      have g2 := of_decide_eq_false h2
      exact absurd (PySem.W.str_of_cps (List.le_antisymm g2 g1)) e
def rowLe (xs ys : List Str) : Bool := PySem.W.dataLe false (fun d : PyData => d) (tupD xs) (tupD ys)
theorem rowLe_anti {xs ys : List Str} (hl : xs.length = ys.length) (h1 : rowLe xs ys = true) (h2 : rowLe ys xs = true) : xs = ys := by
  have e : ∀ a b : List Str, rowLe a b = !lexLt itemOrd (PySem.W.keyToksAll (b.map .str)) (PySem.W.keyToksAll (a.map .str)) := fun a b => by
    show (!PySem.W.dataLt (tupD b) (tupD a)) = _
    unfold tupD
    rw [PySem.W.dataLt_tuple]
  rw [e] at h1 h2
  exact anti_row xs ys hl (by simpa using h2) (by simpa using h1)
theorem rowLe_total : PySem.W.TotalLe rowLe := by
  have h := PySem.W.sortLe_total (PyProof.Rows.listOrd itemOrd) false fun d : PyData => PySem.W.keyToks d
  exact ⟨fun a b c => h.trans _ _ _, fun a b => h.total _ _⟩
theorem sort_same {l m : List (List Str)} {n : Nat} (hl : ∀ x ∈ l, x.length = n) (p : l.Perm m) :
    (l.map tupD).mergeSort (PySem.W.dataLe false fun d => d) = (m.map tupD).mergeSort (PySem.W.dataLe false fun d => d) := by
  have hm : ∀ x ∈ m, x.length = n := fun x hx => hl x (p.mem_iff.mpr hx)
  have s1 : (l.mergeSort rowLe).map tupD = (l.map tupD).mergeSort (PySem.W.dataLe false fun d => d) := PySem.W.sort_maps tupD fun _ _ _ _ => rfl
  have s2 : (m.mergeSort rowLe).map tupD = (m.map tupD).mergeSort (PySem.W.dataLe false fun d => d) := PySem.W.sort_maps tupD fun _ _ _ _ => rfl
  rw [← s1, ← s2]
  refine congrArg _ (List.Perm.eq_of_pairwise (le := fun a b => rowLe a b = true) ?_ (PySem.W.sort_pairwise rowLe_total l) (PySem.W.sort_pairwise rowLe_total m) ?_)
  · intro a b ha hb h1 h2
    exact rowLe_anti ((hl a (List.mem_mergeSort.mp ha)).trans (hm b (List.mem_mergeSort.mp hb)).symm) h1 h2
  · exact ((List.mergeSort_perm l rowLe).trans p).trans (List.mergeSort_perm m rowLe).symm

/-! ### what can be shown -/
theorem bulkAll_le {m : Nat} : ∀ xs : List PyData, (∀ x ∈ xs, x.bulk ≤ m) → PyData.bulkAll xs ≤ xs.length * (m + 1)
  | [], _ => by simp [PyData.bulkAll]
  | x :: xs, h => by
    have h1 := bulkAll_le xs fun y hy => h y (.tail _ hy)
    have h2 := h x (.head _)
    rw [PyData.bulkAll, List.length_cons, Nat.succ_mul]
    omega
theorem shortAll {B : Nat} : ∀ xs : List PyData, (∀ x ∈ xs, x.leavesShort B = true) → PyData.leavesShortAll B xs = true
  | [], _ => by simp [PyData.leavesShortAll]
  | x :: xs, h => by
    rw [PyData.leavesShortAll, h x (.head _), shortAll xs fun y hy => h y (.tail _ hy)]
    rfl
theorem showAll : ∀ xs : List PyData, (∀ x ∈ xs, x.showable = true) → PyData.showableAll xs = true
  | [], _ => by simp [PyData.showableAll]
  | x :: xs, h => by
    rw [PyData.showableAll, h x (.head _), showAll xs fun y hy => h y (.tail _ hy)]
    rfl
theorem depthAll_le {m : Nat} : ∀ xs : List PyData, (∀ x ∈ xs, x.depth ≤ m) → PyData.depthAll xs ≤ m
  | [], _ => by simp [PyData.depthAll]
  | x :: xs, h => by
    have h1 := depthAll_le xs fun y hy => h y (.tail _ hy)
    have h2 := h x (.head _)
    rw [PyData.depthAll]
    omega
def okText (s : Str) : Bool := decide (s.cps.size ≤ 5) && s.cps.toList.all fun c => decide (c < 16 ^ 8)
def okSq (ss : List Str) : Bool := decide (ss.length = 4) && ss.all okText
def chk (ns : List Int) : Bool := (cornersOf (wholeOf ns)).isPerm (tilesOf (setsOf (wholeOf ns)) ns.length) && ((cornersOf (wholeOf ns)).all okSq && decide ((cornersOf (wholeOf ns)).length ≤ 1000))
structure Shows (d : PyData) : Prop where
  show_ : d.showable = true
  len : d.shown.length ≤ sizeLine
  deep : d.depth ≤ 60
theorem sq_same {ns : List Int} (h : chk ns = true) : sqData (wholeOf ns) = tlData (setsOf (wholeOf ns)) ns.length := by
  unfold chk at h
  rw [Bool.and_eq_true, Bool.and_eq_true] at h
  obtain ⟨h1, h2, h3⟩ := h
  unfold sqData tlData
  refine sort_same (n := 4) (fun x hx => ?_) (List.isPerm_iff.mp h1)
  have := List.all_eq_true.mp h2 x hx
  unfold okSq at this
  rw [Bool.and_eq_true] at this
  exact of_decide_eq_true this.1
theorem okSq_bulk {ss : List Str} (h : okSq ss = true) : (tupD ss).bulk ≤ 24 ∧ (tupD ss).leavesShort 8 = true ∧ (tupD ss).showable = true ∧ (tupD ss).depth ≤ 10 := by
  unfold okSq at h
  rw [Bool.and_eq_true] at h
  obtain ⟨h1, h2⟩ := h
  have l4 := of_decide_eq_true h1
  have tx : ∀ s ∈ ss, s.cps.size ≤ 5 ∧ (s.cps.toList.all fun c => decide (c < 16 ^ 8)) = true := fun s hs => by
    have := List.all_eq_true.mp h2 s hs
    unfold okText at this
    rw [Bool.and_eq_true] at this
    exact ⟨of_decide_eq_true this.1, this.2⟩
  refine ⟨?_, ?_, ?_, ?_⟩
  · have g := bulkAll_le (m := 5) (ss.map .str) fun x hx => by
      obtain ⟨s, hs, rfl⟩ := List.mem_map.mp hx
      rw [PyData.bulk]
      exact (tx s hs).1
    unfold tupD
    rw [PyData.bulk]
    rw [List.length_map, l4] at g
    exact g
  · unfold tupD
    rw [PyData.leavesShort]
    refine shortAll _ fun x hx => ?_
    obtain ⟨s, hs, rfl⟩ := List.mem_map.mp hx
    rw [PyData.leavesShort]
    exact (tx s hs).2
  · unfold tupD
    rw [PyData.showable]
    refine showAll _ fun x hx => ?_
    obtain ⟨s, hs, rfl⟩ := List.mem_map.mp hx
    simp [PyData.showable]
  · unfold tupD
    rw [PyData.depth, depth_strs]
    decide
theorem sq_shows {ns : List Int} (h : chk ns = true) : Shows (.tuple (sqData (wholeOf ns))) := by
  unfold chk at h
  rw [Bool.and_eq_true, Bool.and_eq_true] at h
  obtain ⟨h1, h2, h3⟩ := h
  have l3 := of_decide_eq_true h3
  have ok : ∀ d ∈ sqData (wholeOf ns), d.bulk ≤ 24 ∧ d.leavesShort 8 = true ∧ d.showable = true ∧ d.depth ≤ 10 := by
    intro d hd
    unfold sqData at hd
    obtain ⟨ss, hs, rfl⟩ := List.mem_map.mp (List.mem_mergeSort.mp hd)
    exact okSq_bulk (List.all_eq_true.mp h2 ss hs)
  have ln : (sqData (wholeOf ns)).length ≤ 1000 := by
    unfold sqData
    rw [List.length_mergeSort, List.length_map]
    exact l3
  refine ⟨?_, ?_, ?_⟩
  · rw [PyData.showable]
    exact showAll _ fun d hd => (ok d hd).2.2.1
  · have b := bulkAll_le (m := 24) (sqData (wholeOf ns)) fun d hd => (ok d hd).1
    have sh : (PyData.tuple (sqData (wholeOf ns))).leavesShort 8 = true := by
      rw [PyData.leavesShort]
      exact shortAll _ fun d hd => (ok d hd).2.1
    have g := PyData.shown_le_bulk 8 (by decide) (.tuple (sqData (wholeOf ns))) sh
    rw [PyData.bulk] at g
    have h4 : sizeLine = 16777216 := by decide
    have g2 : (sqData (wholeOf ns)).length * 25 ≤ 1000 * 25 := Nat.mul_le_mul_right _ ln
    omega
  · have d := depthAll_le (m := 10) (sqData (wholeOf ns)) fun d hd => (ok d hd).2.2.2
    rw [PyData.depth]
    omega

/-! ### the boards that can be drawn -/
def lists : Nat → List (List Int)
  | 0 => [[]]
  | n + 1 => (lists n).flatMap fun l => [2 :: l, 3 :: l]
theorem mem_lists : ∀ ns : List Int, (∀ n ∈ ns, isz n = true) → ns ∈ lists ns.length
  | [], _ => .head _
  | n :: ns, h => by
    have ih := mem_lists ns fun k hk => h k (.tail _ hk)
    have h0 := of_decide_eq_true (h n (.head _))
    refine List.mem_flatMap.mpr ⟨ns, ih, ?_⟩
    rcases h0 with e | e
    · rw [e]; exact .head _
    · rw [e]; exact .tail _ (.head _)
def boards : List (List Int) := ((List.range 6).flatMap lists).filter fun l => !l.isEmpty && decide (prodOf l ≤ 48)
theorem good_mem {m : Int} {ns : List Int} (g : Good m ns) (hm : m ≤ 48) : ns ∈ boards := by
  unfold boards
  refine List.mem_filter.mpr ⟨List.mem_flatMap.mpr ⟨ns.length, List.mem_range.mpr (by have := g.few; omega), mem_lists ns g.each⟩, ?_⟩
  have := g.prod
  rw [decide_eq_true (by omega)]
  cases ns with
  | nil => exact absurd rfl g.some_
  | cons n ns => rfl
theorem fws_boards : (boards.all fun ns => fwsAt 0 1 ns == none) = true := by decide +kernel
theorem good_fws {m : Int} {ns : List Int} (g : Good m ns) (hm : m ≤ 48) : fwsAt 0 1 ns = none := by
  have := List.all_eq_true.mp fws_boards ns (good_mem g hm)
  simpa using this
end Sw

set_option Elab.async false
set_option linter.all false
set_option maxRecDepth 100000
set_option maxHeartbeats 0
/-! .. board by board, by the kernel. -/
namespace Sw
open PySem PySem.Spec PyProof.Rows L2
theorem ck0 : chk [2] = true := by decide +kernel
theorem ck1 : chk [3] = true := by decide +kernel
theorem ck2 : chk [2, 2] = true := by decide +kernel
theorem ck3 : chk [2, 3] = true := by decide +kernel
theorem ck4 : chk [3, 2] = true := by decide +kernel
theorem ck5 : chk [3, 3] = true := by decide +kernel
theorem ck6 : chk [2, 2, 2] = true := by decide +kernel
theorem ck7 : chk [2, 2, 3] = true := by decide +kernel
theorem ck8 : chk [2, 3, 2] = true := by decide +kernel
theorem ck9 : chk [2, 3, 3] = true := by decide +kernel
theorem ck10 : chk [3, 2, 2] = true := by decide +kernel
theorem ck11 : chk [3, 2, 3] = true := by decide +kernel
theorem ck12 : chk [3, 3, 2] = true := by decide +kernel
theorem ck13 : chk [3, 3, 3] = true := by decide +kernel
theorem ck14 : chk [2, 2, 2, 2] = true := by decide +kernel
theorem ck15 : chk [2, 2, 2, 3] = true := by decide +kernel
theorem ck16 : chk [2, 2, 3, 2] = true := by decide +kernel
theorem ck17 : chk [2, 2, 3, 3] = true := by decide +kernel
theorem ck18 : chk [2, 3, 2, 2] = true := by decide +kernel
theorem ck19 : chk [2, 3, 2, 3] = true := by decide +kernel
theorem ck20 : chk [2, 3, 3, 2] = true := by decide +kernel
theorem ck21 : chk [3, 2, 2, 2] = true := by decide +kernel
theorem ck22 : chk [3, 2, 2, 3] = true := by decide +kernel
theorem ck23 : chk [3, 2, 3, 2] = true := by decide +kernel
theorem ck24 : chk [3, 3, 2, 2] = true := by decide +kernel
theorem ck25 : chk [2, 2, 2, 2, 2] = true := by decide +kernel
theorem ck26 : chk [2, 2, 2, 2, 3] = true := by decide +kernel
theorem ck27 : chk [2, 2, 2, 3, 2] = true := by decide +kernel
theorem ck28 : chk [2, 2, 3, 2, 2] = true := by decide +kernel
theorem ck29 : chk [2, 3, 2, 2, 2] = true := by decide +kernel
theorem ck30 : chk [3, 2, 2, 2, 2] = true := by decide +kernel
theorem boards_are : boards.all (fun b => [[2], [3], [2, 2], [2, 3], [3, 2], [3, 3], [2, 2, 2], [2, 2, 3], [2, 3, 2], [2, 3, 3], [3, 2, 2], [3, 2, 3], [3, 3, 2], [3, 3, 3], [2, 2, 2, 2], [2, 2, 2, 3], [2, 2, 3, 2], [2, 2, 3, 3], [2, 3, 2, 2], [2, 3, 2, 3], [2, 3, 3, 2], [3, 2, 2, 2], [3, 2, 2, 3], [3, 2, 3, 2], [3, 3, 2, 2], [2, 2, 2, 2, 2], [2, 2, 2, 2, 3], [2, 2, 2, 3, 2], [2, 2, 3, 2, 2], [2, 3, 2, 2, 2], [3, 2, 2, 2, 2]].contains b) = true := by decide +kernel
theorem chk_these : ∀ b ∈ ([[2], [3], [2, 2], [2, 3], [3, 2], [3, 3], [2, 2, 2], [2, 2, 3], [2, 3, 2], [2, 3, 3], [3, 2, 2], [3, 2, 3], [3, 3, 2], [3, 3, 3], [2, 2, 2, 2], [2, 2, 2, 3], [2, 2, 3, 2], [2, 2, 3, 3], [2, 3, 2, 2], [2, 3, 2, 3], [2, 3, 3, 2], [3, 2, 2, 2], [3, 2, 2, 3], [3, 2, 3, 2], [3, 3, 2, 2], [2, 2, 2, 2, 2], [2, 2, 2, 2, 3], [2, 2, 2, 3, 2], [2, 2, 3, 2, 2], [2, 3, 2, 2, 2], [3, 2, 2, 2, 2]] : List (List Int)), chk b = true := (List.forall_mem_cons.mpr ⟨ck0, (List.forall_mem_cons.mpr ⟨ck1, (List.forall_mem_cons.mpr ⟨ck2, (List.forall_mem_cons.mpr ⟨ck3, (List.forall_mem_cons.mpr ⟨ck4, (List.forall_mem_cons.mpr ⟨ck5, (List.forall_mem_cons.mpr ⟨ck6, (List.forall_mem_cons.mpr ⟨ck7, (List.forall_mem_cons.mpr ⟨ck8, (List.forall_mem_cons.mpr ⟨ck9, (List.forall_mem_cons.mpr ⟨ck10, (List.forall_mem_cons.mpr ⟨ck11, (List.forall_mem_cons.mpr ⟨ck12, (List.forall_mem_cons.mpr ⟨ck13, (List.forall_mem_cons.mpr ⟨ck14, (List.forall_mem_cons.mpr ⟨ck15, (List.forall_mem_cons.mpr ⟨ck16, (List.forall_mem_cons.mpr ⟨ck17, (List.forall_mem_cons.mpr ⟨ck18, (List.forall_mem_cons.mpr ⟨ck19, (List.forall_mem_cons.mpr ⟨ck20, (List.forall_mem_cons.mpr ⟨ck21, (List.forall_mem_cons.mpr ⟨ck22, (List.forall_mem_cons.mpr ⟨ck23, (List.forall_mem_cons.mpr ⟨ck24, (List.forall_mem_cons.mpr ⟨ck25, (List.forall_mem_cons.mpr ⟨ck26, (List.forall_mem_cons.mpr ⟨ck27, (List.forall_mem_cons.mpr ⟨ck28, (List.forall_mem_cons.mpr ⟨ck29, (List.forall_mem_cons.mpr ⟨ck30, (fun x hx => by cases hx)⟩)⟩)⟩)⟩)⟩)⟩)⟩)⟩)⟩)⟩)⟩)⟩)⟩)⟩)⟩)⟩)⟩)⟩)⟩)⟩)⟩)⟩)⟩)⟩)⟩)⟩)⟩)⟩)⟩)⟩)⟩)
theorem chk_good {m : Int} {ns : List Int} (g : Good m ns) (hm : m ≤ 48) : chk ns = true :=
  chk_these ns (List.contains_iff_mem.mp (List.all_eq_true.mp boards_are ns (good_mem g hm)))
def known : List (List Int × Nat) := [([2], 0), ([3], 0), ([2, 2], 1), ([3, 2], 3), ([3, 3], 9), ([2, 2, 2], 6), ([2, 2, 2, 2], 24), ([3, 2, 2], 15)]
theorem known_all : (known.all fun p => decide ((cornersOf (wholeOf p.1)).length = p.2) && (fwsAt 0 1 p.1 == none && !p.1.isEmpty)) = true := by decide +kernel
theorem known_len {p : List Int × Nat} (h : p ∈ known) : (sqData (wholeOf p.1)).length = p.2 ∧ fwsAt 0 1 p.1 = none ∧ p.1 ≠ [] := by
  have := List.all_eq_true.mp known_all p h
  rw [Bool.and_eq_true, Bool.and_eq_true] at this
  refine ⟨?_, by simpa using this.2.1, fun e => ?_⟩
  · unfold sqData
    rw [List.length_mergeSort, List.length_map]
    exact of_decide_eq_true this.1
  · have h3 := this.2.2
    rw [e] at h3
    cases h3
end Sw

set_option Elab.async false
set_option linter.all false
set_option maxRecDepth 100000
set_option maxHeartbeats 16000000

/-! The law. -/
namespace Sw
open PySem PySem.Spec PyProof.Rows L2
theorem scRight : FnScope ["jar", "turn", "spans"] ["jar"] (defScope sRight) :=
  ⟨rfl, rfl, rfl, by decide +kernel, rfl, by decide +kernel, by decide +kernel⟩

section
variable {P : Program} {w : World} {K : PySem.W.Frag} {mg : Str → Option Value} {base : Heap} {C fI : Addr} {ad : Nat → Addr} {dd : Nat → FuncData} {la : Nat → Addr} {ld : Nat → FuncData}
/-- the rest of what the top has made -/
structure TxR (K : PySem.W.Frag) (mg : Str → Option Value) (C fI : Addr) (dI : FuncData) (r : Nat → Addr) (e : Nat → FuncData) : Prop where
  FIn : Fun K "__init__" "Board.__init__" sInit fI dI
  bI : Binds K dI ["self", "sizes"] []
  FQ : Fun K "squares" "Board.squares" sSqs (r 0) (e 0)
  bQ : Binds K (e 0) ["self"] []
  mS : Meth K C "squares" (r 0)
  FO : Fun K "ones_and_twos" "ones_and_twos" sOat (r 1) (e 1)
  bO : Binds K (e 1) ["stands"] []
  gO : mg "ones_and_twos" = some (.ref (r 1))
  FSp : Fun K "_law_spans" "_law_spans" sSpans (r 2) (e 2)
  bSp : Binds K (e 2) ["jar", "most"] []
  gSp : mg "_law_spans" = some (.ref (r 2))
  FA : Fun K "_law_all" "_law_all" sAll (r 3) (e 3)
  bA : Binds K (e 3) ["spans"] []
  gA : mg "_law_all" = some (.ref (r 3))
  FT : Fun K "_law_tiles" "_law_tiles" sTiles (r 4) (e 4)
  bT : Binds K (e 4) ["spans"] []
  gT : mg "_law_tiles" = some (.ref (r 4))
  FJ : Fun K "_law_jar" "_law_jar" sJar (r 5) (e 5)
  bJ : Binds K (e 5) ["script", "k"] []
  gJ : mg "_law_jar" = some (.ref (r 5))
  FR : Fun K "_law_right" "_law_right" sRight (r 6) (e 6)
  bR : Binds K (e 6) ["jar"] []
  gR : mg "_law_right" = some (.ref (r 6))
  repr : mg "repr" = none
  any : mg "any" = none
  max : mg "max" = none
  min : mg "min" = none
def spRight : Sp := fun vs H Q _ => ∃ (j : Addr), vs = [.ref j] ∧ JarIs H j ∧ ∀ H', Keeps j H H' → Q (.bl true) H'
theorem no_sq : ∀ {a aw as ab : Addr}, (bf4 a aw as ab).lookup ("squares" : Str) = none := bf4_no (by decide +kernel) (by decide +kernel) (by decide +kernel) (by decide +kernel)
/-- a new board: what stood stands -/
theorem made_same {H H2 : Hp} {x dx : Addr} (nx : H x = none) (nd : H dx = none) (k : Keeps x (upd (upd H dx (.own x)) x (.ins C dx [])) H2) : Same H H2 := fun b o e => by
  refine k b o ?_ (ne_of_none e nx)
  rw [upd_ne (ne_of_none e nx), upd_ne (ne_of_none e nd)]
  exact e
theorem ok_right {dI : FuncData} {r : Nat → Addr} {e : Nat → FuncData} (T : TxB mg) (B : TxC K mg C fI) (D : TxD K mg ad dd) (L : TxL K mg la ld) (R : TxR K mg C fI dI r e) :
    FnG P w K mg base 5 (r 6) (e 6) ["jar"] spRight := by
  have GI : FnOk P w K mg base CX0 3 fI dI ["self", "sizes"] (spInit K C) := ok_init R.FIn T B D
  have GQ : FnOk P w K mg base CX0 2 (r 0) (e 0) ["self"] (spSqs K C) := ok_sqs R.FQ T B D R.FO R.bO R.gO
  have GSp : FnOk P w K mg base CX0 3 (r 2) (e 2) ["jar", "most"] (spSpans K) := ok_spans R.FSp L
  have GT : FnOk P w K mg base CX0 2 (r 4) (e 4) ["spans"] (spTiles K) := ok_tiles R.FT T R.FA R.bA R.gA L.range R.any
  have ⟨FSp, bSp, gSp, FT, bT, gT, bI, bQ, mS, reprT⟩ := And.intro R.FSp (And.intro R.bSp (And.intro R.gSp (And.intro R.FT (And.intro R.bT (And.intro R.gT (And.intro R.bI (And.intro R.bQ (And.intro R.mS R.repr))))))))
  refine okG R.FR scRight (fun vs H Q E h => ?_) (fun cdv A outer s H vs Q E hr fr h => ?_)
  · obtain ⟨j, rfl, _⟩ := h
    rfl
  · obtain ⟨j, rfl, hj, q⟩ := h
    have hr3 : Room 3 (A.deeper (envOfC "_law_right" (defScope sRight) s.heap.objs.size (r 6) cdv)) := hr.mono (by decide)
    have hr2 : Room 2 (A.deeper (envOfC "_law_right" (defScope sRight) s.heap.objs.size (r 6) cdv)) := hr.mono (by decide)
    refine ⟨_, (pss_cons (ps_for PassesOwn.never rfl (pi_range1 rfl L.range (pa_cons pe_int pa_nil)) (pg_name (i := 1) scRight.nd rfl (.inl rfl)) (pss_cons (ps_set (i := 2) scRight.nd rfl (.inl rfl) (pe_call GSp hr3 (by rfl) gSp FSp.kp bSp .nil pass0 (pa_cons (pv 0) (pa_cons pe_int pa_nil))))
      (pss_one (ps_if (pt_cmpR op_ne (pe_callB (call_repr fr hr.units) (by rfl) reprT (by decide +kernel) (pa_cons (pe_meth0 (pe_make B.mkB GI hr (by rfl) B.mgC bI .nil pass0 (pa_cons (pv 2) pa_nil)) B.cl mS GQ hr2 bQ .nil pass0) pa_nil)) (pe_callB (call_repr fr hr.units) (by rfl) reprT (by decide +kernel) (pa_cons (pe_tupleOf (by rfl) T.tup (pe_call GT hr2 (by rfl) gT FT.kp bT .nil pass0 (pa_cons (pv 2) pa_nil))) pa_nil)) (nomark _)) (pss_one (ps_ret pe_bl)) pss_nil))))
      (pss_one (ps_ret pe_bl))), ?_⟩
    refine ⟨2, rfl, by decide, by decide, for_range (n := 2) (fun i σ H' => ∃ (y1 y2 : Option V), σ = [some (.ref j), y1, y2] ∧ Keeps j H H' ∧ JarIs H' j) ⟨none, none, rfl, fun _ _ e _ => e, hj⟩ ?_ ?_⟩
    · rintro i σ H0 hi ⟨y1, y2, rfl, k0, j0⟩
      refine ⟨_, rfl, j, 48, rfl, j0, by decide, by decide, fun H1 p ns k1 j1 hp good => ?_⟩
      have fit := whole_fits (good_fws good (by decide))
      have ck := chk_good good (by decide)
      obtain ⟨sh1, sh2, sh3⟩ := sq_shows ck
      have same := sq_same ck
      refine ⟨_, rfl, fun x dx nx ndx nex => ⟨x, p, dx, ns, rfl, upd_same, ?_, good.some_, good_fws good (by decide), fun H2 k2 bd => ⟨rfl, ?_⟩⟩⟩
      · have sx : Same H1 (upd (upd H1 dx (.own x)) x (.ins C dx [])) := fun b o e => by
          rw [upd_ne (ne_of_none e nx), upd_ne (ne_of_none e ndx)]
          exact e
        exact same_tup sx hp
      have s2 : Same H1 H2 := made_same nx ndx k2
      obtain ⟨dx2, a2, aw2, as2, ab2, kvs2, hx2, _⟩ := id bd
      refine ⟨x, dx2, _, rfl, hx2, no_sq, x, ns, rfl, bd, fit, fun H3 t ws s3 nt ht dp => ?_⟩
      refine ⟨.ref t, .tuple (sqData (wholeOf ns)), rfl, .flat (.tup (.inl (.inl ht)) dp), sh1, sh2, sh3, ?_⟩
      have s13 : Same H1 H3 := s2.trans s3
      refine ⟨_, rfl, p, ns, rfl, same_tup s13 hp, fit, fun H4 l ws2 s4 nl hl dp2 => .inl ⟨l, _, rfl, .inl (.inl hl), fun t2 nt2 => ?_⟩⟩
      have s5 := same_new (o := .tup ws2) nt2
      rw [← same] at dp2
      refine ⟨.ref t2, .tuple (sqData (wholeOf ns)), rfl, .flat (.tup (.inl (.inl upd_same)) (datA_same s5 dp2)), sh1, sh2, sh3, rfl, _, rfl, iteNS rfl ?_⟩
      exact ⟨_, _, rfl, (k0.trans k1).trans (Keeps.of (s13.trans (s4.trans s5))), j1.same (s13.trans (s4.trans s5))⟩
    · rintro σ H0 ⟨y1, y2, rfl, k0, j0⟩
      exact q _ k0
end
end Sw

set_option Elab.async false
set_option linter.all false
set_option maxRecDepth 100000
set_option maxHeartbeats 16000000

namespace Sw
open PySem PySem.Spec PyProof.Rows L2
theorem scLaw : FnScope ["script", "known", "k", "spans", "many"] ["script"] (defScope sLaw) :=
  ⟨rfl, rfl, rfl, by decide +kernel, rfl, by decide +kernel, by decide +kernel⟩

theorem pg_tupK {X : Cx} {es : List Expr} {k : Nat} {t : TGs} {n : Nat} {pos : Pos} (K : PySem.W.Frag) (hK : X.K = K) (hc : X.calm = true) (h : PGs X es t)
    (hn : (assignEach es X.env).length = n := by rfl) (hst : (assignEach es X.env).findIdx? (·.1) = none := by rfl) : PG X (.Tuple es k pos) (gTup K n t) := by
  subst hK
  exact pg_tup hc h hn hst
/-- a pair of numbers of stands and a number -/
def KnowAt (K : PySem.W.Frag) (H : Hp) (v : V) (p : List Int × Nat) : Prop := ∃ (t u : Addr), v = .ref t ∧ SqT K H t [.ref u, .int p.2] ∧ SqT K H u (p.1.map V.int)
theorem KnowAt.same {K : PySem.W.Frag} {H H' : Hp} {v : V} {p : List Int × Nat} (h : KnowAt K H v p) (s : Same H H') : KnowAt K H' v p := by
  obtain ⟨t, u, e, h1, h2⟩ := h
  exact ⟨t, u, e, same_tup s h1, same_tup s h2⟩
theorem know_new {K : PySem.W.Frag} {H : Hp} {u t : Addr} {ns : List Int} {m : Nat} (nu : H u = none) (nt : (upd H u (.tup (ns.map V.int))) t = none) :
    Same H (upd (upd H u (.tup (ns.map V.int))) t (.tup [.ref u, .int m])) ∧ KnowAt K (upd (upd H u (.tup (ns.map V.int))) t (.tup [.ref u, .int m])) (.ref t) (ns, m) :=
  ⟨(same_new nu).trans (same_new nt), t, u, rfl, .inl (.inl upd_same), .inl (.inl ((same_new nt) _ _ upd_same))⟩
theorem know8 {K : PySem.W.Frag} {H9 : Hp} {v0 v1 v2 v3 v4 v5 v6 v7 : V} (k0 : KnowAt K H9 v0 ([2], 0)) (k1 : KnowAt K H9 v1 ([3], 0)) (k2 : KnowAt K H9 v2 ([2, 2], 1)) (k3 : KnowAt K H9 v3 ([3, 2], 3))
    (k4 : KnowAt K H9 v4 ([3, 3], 9)) (k5 : KnowAt K H9 v5 ([2, 2, 2], 6)) (k6 : KnowAt K H9 v6 ([2, 2, 2, 2], 24)) (k7 : KnowAt K H9 v7 ([3, 2, 2], 15)) :
    ∀ (i : Nat) (v : V) (p : List Int × Nat), [v0, v1, v2, v3, v4, v5, v6, v7][i]? = some v → known[i]? = some p → KnowAt K H9 v p := by
  intro i v p hv hp
  match i, hv, hp with
  | 0, hv, hp => cases hv; cases hp; exact k0
  | 1, hv, hp => cases hv; cases hp; exact k1
  | 2, hv, hp => cases hv; cases hp; exact k2
  | 3, hv, hp => cases hv; cases hp; exact k3
  | 4, hv, hp => cases hv; cases hp; exact k4
  | 5, hv, hp => cases hv; cases hp; exact k5
  | 6, hv, hp => cases hv; cases hp; exact k6
  | 7, hv, hp => cases hv; cases hp; exact k7
  | i + 8, hv, hp => exact nomatch hv
section
variable {P : Program} {w : World} {K : PySem.W.Frag} {mg : Str → Option Value} {base : Heap} {C fI : Addr} {ad : Nat → Addr} {dd : Nat → FuncData} {la : Nat → Addr} {ld : Nat → FuncData}
def spLaw (K : PySem.W.Frag) : Sp := fun vs H Q _ => ∃ (a : Addr) (ns : List Int), vs = [.ref a] ∧ SqL K H a (ns.map V.int) ∧ ns.length ≤ 63 ∧ ∀ H', Q (.bl true) H'
theorem ok_law {dI : FuncData} {r : Nat → Addr} {e : Nat → FuncData} {f : Addr} {fd : FuncData} (F : Fun K "law" "law" sLaw f fd) (T : TxB mg) (B : TxC K mg C fI) (D : TxD K mg ad dd) (L : TxL K mg la ld) (R : TxR K mg C fI dI r e) :
    FnG P w K mg base 6 f fd ["script"] (spLaw K) := by
  have GI : FnOk P w K mg base CX0 3 fI dI ["self", "sizes"] (spInit K C) := ok_init R.FIn T B D
  have GQ : FnOk P w K mg base CX0 2 (r 0) (e 0) ["self"] (spSqs K C) := ok_sqs R.FQ T B D R.FO R.bO R.gO
  have GR : FnG P w K mg base 5 (r 6) (e 6) ["jar"] spRight := ok_right T B D L R
  have GJ : FnOk P w K mg base CX0 1 (r 5) (e 5) ["script", "k"] (spJar K) := ok_jar R.FJ L.J
  refine okG F scLaw (fun vs H Q E h => ?_) (fun cdv A outer s H vs Q E hr fr h => ?_)
  · obtain ⟨a, ns, rfl, _⟩ := h
    rfl
  · obtain ⟨a, ns, rfl, hS, hlen, q⟩ := h
    have hr1 : Room 1 (A.deeper (envOfC "law" (defScope sLaw) s.heap.objs.size f cdv)) := hr.mono (by decide)
    have hr2 : Room 2 (A.deeper (envOfC "law" (defScope sLaw) s.heap.objs.size f cdv)) := hr.mono (by decide)
    have hr4 : Room 4 (A.deeper (envOfC "law" (defScope sLaw) s.heap.objs.size f cdv)) := hr.mono (by decide)
    refine ⟨_, (pss_cons (ps_set (i := 1) scLaw.nd rfl (.inl rfl) (pe_lst (pa_cons (pe_tup (pa_cons (pe_tup (pa_cons pe_int pa_nil)) (pa_cons pe_int pa_nil))) (pa_cons (pe_tup (pa_cons (pe_tup (pa_cons pe_int pa_nil)) (pa_cons pe_int pa_nil))) (pa_cons (pe_tup (pa_cons (pe_tup (pa_cons pe_int (pa_cons pe_int pa_nil))) (pa_cons pe_int pa_nil))) (pa_cons (pe_tup (pa_cons (pe_tup (pa_cons pe_int (pa_cons pe_int pa_nil))) (pa_cons pe_int pa_nil))) pa_nil))))))
      (pss_cons (ps_set (i := 1) scLaw.nd rfl (.inl rfl) (pe_op op_cat (pv 1) (pe_lst (pa_cons (pe_tup (pa_cons (pe_tup (pa_cons pe_int (pa_cons pe_int pa_nil))) (pa_cons pe_int pa_nil))) (pa_cons (pe_tup (pa_cons (pe_tup (pa_cons pe_int (pa_cons pe_int (pa_cons pe_int pa_nil)))) (pa_cons pe_int pa_nil))) (pa_cons (pe_tup (pa_cons (pe_tup (pa_cons pe_int (pa_cons pe_int (pa_cons pe_int (pa_cons pe_int pa_nil))))) (pa_cons pe_int pa_nil))) (pa_cons (pe_tup (pa_cons (pe_tup (pa_cons pe_int (pa_cons pe_int (pa_cons pe_int pa_nil)))) (pa_cons pe_int pa_nil))) pa_nil)))))))
      (pss_cons (ps_if (pt_cmpR (op_neD hr.units) (pe_lc (own := [("spans", 3), ("many", 4)]) (tt := tYes) rfl scLaw.nd (pi_list (pv 1)) (blkOk_by (N := ["script", "known", "k", "spans", "many"]) (sc := defScope sLaw) (by decide +kernel)) (fun _ _ _ _ _ => pg_tupK (n := 2) K rfl rfl (pgs_cons (pg_name (i := 3) scLaw.nd rfl (.inl rfl)) (pgs_cons (pg_name (i := 4) scLaw.nd rfl (.inl rfl)) pgs_nil))) (fun _ _ _ _ _ => pts_nil) (fun _ _ _ _ _ => (pe_callB (call_lenK K rfl) (by rfl) T.len PySem.boot_len (pa_cons (pe_meth0 (pe_make B.mkB GI hr4 (by rfl) B.mgC R.bI .nil pass0 (pa_cons (pv 3) pa_nil)) B.cl R.mS GQ hr2 R.bQ .nil pass0) pa_nil)))) (pe_lc (own := [("spans", 3), ("many", 4)]) (tt := tYes) rfl scLaw.nd (pi_list (pv 1)) (blkOk_by (N := ["script", "known", "k", "spans", "many"]) (sc := defScope sLaw) (by decide +kernel)) (fun _ _ _ _ _ => pg_tupK (n := 2) K rfl rfl (pgs_cons (pg_name (i := 3) scLaw.nd rfl (.inl rfl)) (pgs_cons (pg_name (i := 4) scLaw.nd rfl (.inl rfl)) pgs_nil))) (fun _ _ _ _ _ => pts_nil) (fun _ _ _ _ _ => (pv 4))) (nomark _)) (pss_one (ps_ret pe_bl)) pss_nil)
      (pss_cons (ps_for PassesOwn.never rfl (pi_range1 rfl L.range (pa_cons (pe_callB (call_max2 rfl) (by rfl) R.max (by decide +kernel) (pa_cons pe_int (pa_cons (pe_callB (call_min2 rfl) (by rfl) R.min (by decide +kernel) (pa_cons (pe_callB (call_lenK K rfl) (by rfl) T.len PySem.boot_len (pa_cons (pv 0) pa_nil)) (pa_cons pe_int pa_nil))) pa_nil))) pa_nil)) (pg_name (i := 2) scLaw.nd rfl (.inl rfl)) (pss_one (ps_if (pt_not (pt_val (pe_callG GR hr fr (by rfl) R.gR R.FR.kp R.bR .nil (pa_cons (pe_call GJ hr1 (by rfl) R.gJ R.FJ.kp R.bJ .nil pass0 (pa_cons (pv 0) (pa_cons (pv 2) pa_nil))) pa_nil)))) (pss_one (ps_ret pe_bl)) pss_nil)))
      (pss_one (ps_ret pe_bl)))))), ?_⟩
    refine ⟨by show 1 ≤ sizeLine; decide, fun u0 nu0 => ⟨by show 2 ≤ sizeLine; decide, fun t0 nt0 => ?_⟩⟩
    obtain ⟨s0, k0⟩ := know_new (K := K) (ns := [2]) (m := 0) nu0 nt0
    refine ⟨by show 1 ≤ sizeLine; decide, fun u1 nu1 => ⟨by show 2 ≤ sizeLine; decide, fun t1 nt1 => ?_⟩⟩
    obtain ⟨s1, k1⟩ := know_new (K := K) (ns := [3]) (m := 0) nu1 nt1
    refine ⟨by show 2 ≤ sizeLine; decide, fun u2 nu2 => ⟨by show 2 ≤ sizeLine; decide, fun t2 nt2 => ?_⟩⟩
    obtain ⟨s2, k2⟩ := know_new (K := K) (ns := [2, 2]) (m := 1) nu2 nt2
    refine ⟨by show 2 ≤ sizeLine; decide, fun u3 nu3 => ⟨by show 2 ≤ sizeLine; decide, fun t3 nt3 => ?_⟩⟩
    obtain ⟨s3, k3⟩ := know_new (K := K) (ns := [3, 2]) (m := 3) nu3 nt3
    refine ⟨by show 4 ≤ sizeLine; decide, fun l1 n1 => ?_⟩
    have z1 := same_new (o := .lst [V.ref t0, V.ref t1, V.ref t2, V.ref t3]) n1
    refine ⟨_, rfl, ?_⟩
    refine ⟨by show 2 ≤ sizeLine; decide, fun u4 nu4 => ⟨by show 2 ≤ sizeLine; decide, fun t4 nt4 => ?_⟩⟩
    obtain ⟨s4, k4⟩ := know_new (K := K) (ns := [3, 3]) (m := 9) nu4 nt4
    refine ⟨by show 3 ≤ sizeLine; decide, fun u5 nu5 => ⟨by show 2 ≤ sizeLine; decide, fun t5 nt5 => ?_⟩⟩
    obtain ⟨s5, k5⟩ := know_new (K := K) (ns := [2, 2, 2]) (m := 6) nu5 nt5
    refine ⟨by show 4 ≤ sizeLine; decide, fun u6 nu6 => ⟨by show 2 ≤ sizeLine; decide, fun t6 nt6 => ?_⟩⟩
    obtain ⟨s6, k6⟩ := know_new (K := K) (ns := [2, 2, 2, 2]) (m := 24) nu6 nt6
    refine ⟨by show 3 ≤ sizeLine; decide, fun u7 nu7 => ⟨by show 2 ≤ sizeLine; decide, fun t7 nt7 => ?_⟩⟩
    obtain ⟨s7, k7⟩ := know_new (K := K) (ns := [3, 2, 2]) (m := 15) nu7 nt7
    refine ⟨by show 4 ≤ sizeLine; decide, fun l2 n2 => ?_⟩
    have z2 := same_new (o := .lst [V.ref t4, V.ref t5, V.ref t6, V.ref t7]) n2
    have up := ((s4.trans s5).trans (s6.trans s7)).trans z2
    refine ⟨l1, l2, _, _, rfl, rfl, up _ _ upd_same, upd_same, by show 8 ≤ sizeLine; decide, fun l n3 => ?_⟩
    have z3 := same_new (o := .lst [V.ref t0, V.ref t1, V.ref t2, V.ref t3, V.ref t4, V.ref t5, V.ref t6, V.ref t7]) n3
    have a3 := (z1.trans up).trans z3
    have ks := know8 (k0.same (((s1.trans s2).trans s3).trans a3)) (k1.same ((s2.trans s3).trans a3)) (k2.same (s3.trans a3)) (k3.same a3) (k4.same (((s5.trans s6).trans s7).trans (z2.trans z3))) (k5.same ((s6.trans s7).trans (z2.trans z3))) (k6.same (s7.trans (z2.trans z3))) (k7.same (z2.trans z3))
    have hl9 : (upd (upd (upd (upd (upd (upd (upd (upd (upd (upd (upd (upd (upd (upd (upd (upd (upd (upd (upd (H) u0 (.tup [V.int 2])) t0 (.tup [V.ref u0, V.int 0])) u1 (.tup [V.int 3])) t1 (.tup [V.ref u1, V.int 0])) u2 (.tup [V.int 2, V.int 2])) t2 (.tup [V.ref u2, V.int 1])) u3 (.tup [V.int 3, V.int 2])) t3 (.tup [V.ref u3, V.int 3])) l1 (.lst [V.ref t0, V.ref t1, V.ref t2, V.ref t3])) u4 (.tup [V.int 3, V.int 3])) t4 (.tup [V.ref u4, V.int 9])) u5 (.tup [V.int 2, V.int 2, V.int 2])) t5 (.tup [V.ref u5, V.int 6])) u6 (.tup [V.int 2, V.int 2, V.int 2, V.int 2])) t6 (.tup [V.ref u6, V.int 24])) u7 (.tup [V.int 3, V.int 2, V.int 2])) t7 (.tup [V.ref u7, V.int 15])) l2 (.lst [V.ref t4, V.ref t5, V.ref t6, V.ref t7])) l (.lst [V.ref t0, V.ref t1, V.ref t2, V.ref t3, V.ref t4, V.ref t5, V.ref t6, V.ref t7])) l = some (.lst [V.ref t0, V.ref t1, V.ref t2, V.ref t3, V.ref t4, V.ref t5, V.ref t6, V.ref t7]) := upd_same
    have ks9 : ∀ (i : Nat) (v : V) (p : List Int × Nat), [V.ref t0, V.ref t1, V.ref t2, V.ref t3, V.ref t4, V.ref t5, V.ref t6, V.ref t7][i]? = some v → known[i]? = some p → KnowAt K (upd (upd (upd (upd (upd (upd (upd (upd (upd (upd (upd (upd (upd (upd (upd (upd (upd (upd (upd (H) u0 (.tup [V.int 2])) t0 (.tup [V.ref u0, V.int 0])) u1 (.tup [V.int 3])) t1 (.tup [V.ref u1, V.int 0])) u2 (.tup [V.int 2, V.int 2])) t2 (.tup [V.ref u2, V.int 1])) u3 (.tup [V.int 3, V.int 2])) t3 (.tup [V.ref u3, V.int 3])) l1 (.lst [V.ref t0, V.ref t1, V.ref t2, V.ref t3])) u4 (.tup [V.int 3, V.int 3])) t4 (.tup [V.ref u4, V.int 9])) u5 (.tup [V.int 2, V.int 2, V.int 2])) t5 (.tup [V.ref u5, V.int 6])) u6 (.tup [V.int 2, V.int 2, V.int 2, V.int 2])) t6 (.tup [V.ref u6, V.int 24])) u7 (.tup [V.int 3, V.int 2, V.int 2])) t7 (.tup [V.ref u7, V.int 15])) l2 (.lst [V.ref t4, V.ref t5, V.ref t6, V.ref t7])) l (.lst [V.ref t0, V.ref t1, V.ref t2, V.ref t3, V.ref t4, V.ref t5, V.ref t6, V.ref t7])) v p := ks
    have hS9 : SqL K (upd (upd (upd (upd (upd (upd (upd (upd (upd (upd (upd (upd (upd (upd (upd (upd (upd (upd (upd (H) u0 (.tup [V.int 2])) t0 (.tup [V.ref u0, V.int 0])) u1 (.tup [V.int 3])) t1 (.tup [V.ref u1, V.int 0])) u2 (.tup [V.int 2, V.int 2])) t2 (.tup [V.ref u2, V.int 1])) u3 (.tup [V.int 3, V.int 2])) t3 (.tup [V.ref u3, V.int 3])) l1 (.lst [V.ref t0, V.ref t1, V.ref t2, V.ref t3])) u4 (.tup [V.int 3, V.int 3])) t4 (.tup [V.ref u4, V.int 9])) u5 (.tup [V.int 2, V.int 2, V.int 2])) t5 (.tup [V.ref u5, V.int 6])) u6 (.tup [V.int 2, V.int 2, V.int 2, V.int 2])) t6 (.tup [V.ref u6, V.int 24])) u7 (.tup [V.int 3, V.int 2, V.int 2])) t7 (.tup [V.ref u7, V.int 15])) l2 (.lst [V.ref t4, V.ref t5, V.ref t6, V.ref t7])) l (.lst [V.ref t0, V.ref t1, V.ref t2, V.ref t3, V.ref t4, V.ref t5, V.ref t6, V.ref t7])) a (ns.map V.int) := (((s0.trans s1).trans (s2.trans s3)).trans a3).seq hS
    clear ks a3 z3 up z2 z1 s0 s1 s2 s3 s4 s5 s6 s7 k0 k1 k2 k3 k4 k5 k6 k7
    have lKV : [V.ref t0, V.ref t1, V.ref t2, V.ref t3, V.ref t4, V.ref t5, V.ref t6, V.ref t7].length = 8 := rfl
    have kn : ∀ i, i < [V.ref t0, V.ref t1, V.ref t2, V.ref t3, V.ref t4, V.ref t5, V.ref t6, V.ref t7].length → ∃ p, known[i]? = some p := fun i hi => ⟨known[i]'(by rw [lKV] at hi; exact hi), List.getElem?_eq_getElem _⟩
    refine ⟨_, rfl, l, rfl, ⟨_, .inl (.inl hl9)⟩, fun D1 nD1 => lc_it (walk_list (K := K) (a := l) (xs := [V.ref t0, V.ref t1, V.ref t2, V.ref t3, V.ref t4, V.ref t5, V.ref t6, V.ref t7])) (fun i H' => Same (upd (upd (upd (upd (upd (upd (upd (upd (upd (upd (upd (upd (upd (upd (upd (upd (upd (upd (upd (H) u0 (.tup [V.int 2])) t0 (.tup [V.ref u0, V.int 0])) u1 (.tup [V.int 3])) t1 (.tup [V.ref u1, V.int 0])) u2 (.tup [V.int 2, V.int 2])) t2 (.tup [V.ref u2, V.int 1])) u3 (.tup [V.int 3, V.int 2])) t3 (.tup [V.ref u3, V.int 3])) l1 (.lst [V.ref t0, V.ref t1, V.ref t2, V.ref t3])) u4 (.tup [V.int 3, V.int 3])) t4 (.tup [V.ref u4, V.int 9])) u5 (.tup [V.int 2, V.int 2, V.int 2])) t5 (.tup [V.ref u5, V.int 6])) u6 (.tup [V.int 2, V.int 2, V.int 2, V.int 2])) t6 (.tup [V.ref u6, V.int 24])) u7 (.tup [V.int 3, V.int 2, V.int 2])) t7 (.tup [V.ref u7, V.int 15])) l2 (.lst [V.ref t4, V.ref t5, V.ref t6, V.ref t7])) l (.lst [V.ref t0, V.ref t1, V.ref t2, V.ref t3, V.ref t4, V.ref t5, V.ref t6, V.ref t7])) H' ∧ H' D1 = some (.lst ((known.take i).map fun p => V.int (p.2 : Nat))))
      ⟨same_new nD1, upd_same⟩ (fun i H' _ p => .inl (.inl (p.1 _ _ hl9))) ?_ ?_⟩
    · rintro i v H30 H3 hi ⟨s3, e3⟩ ⟨rfl, hv⟩
      obtain ⟨p, hp⟩ := kn i hi
      obtain ⟨t, u, rfl, ht, hu⟩ := (ks9 i v p hv hp).same s3
      obtain ⟨len, fws, ne⟩ := known_len (List.mem_of_getElem? hp)
      have fit := whole_fits fws
      refine ⟨t, _, rfl, ht, rfl, _, _, rfl, _, _, rfl, rfl, rfl, _, rfl, fun x dx nx ndx nex => ⟨x, u, dx, p.1, rfl, upd_same, ?_, ne, fws, fun H4 k4 bd => ⟨rfl, ?_⟩⟩⟩
      · have sx : Same H3 (upd (upd H3 dx (.own x)) x (.ins C dx [])) := fun b o e => by
          rw [upd_ne (ne_of_none e nx), upd_ne (ne_of_none e ndx)]
          exact e
        exact same_tup sx hu
      have s4 : Same H3 H4 := made_same nx ndx k4
      obtain ⟨dx2, a2, aw2, as2, ab2, kvs2, hx2, _⟩ := id bd
      refine ⟨x, dx2, _, rfl, hx2, no_sq, x, p.1, rfl, bd, fit, fun H5 q2 ws s5 nq hq dp => ⟨q2, _, rfl, .inr (.inl (.inl hq)), _, (s4.trans s5) _ _ e3, ?_, comp_same (s3.trans (s4.trans s5)) nD1, upd_same.trans ?_⟩⟩
      · rw [List.length_map, List.length_take]
        exact small1000 (by rw [lKV] at hi; omega)
      · have wl : ws.length = p.2 := (dat_len dp).trans len
        rw [take_next hp, List.map_append, wl]
        rfl
    rintro H3 ⟨s3, e3⟩
    refine ⟨_, rfl, l, rfl, ⟨_, .inl (.inl (s3 _ _ hl9))⟩, fun D2 nD2 => lc_it (walk_list (K := K) (a := l) (xs := [V.ref t0, V.ref t1, V.ref t2, V.ref t3, V.ref t4, V.ref t5, V.ref t6, V.ref t7])) (fun i H' => Same H3 H' ∧ H' D2 = some (.lst ((known.take i).map fun p => V.int (p.2 : Nat))))
      ⟨same_new nD2, upd_same⟩ (fun i H' _ p => .inl (.inl (p.1 _ _ (s3 _ _ hl9)))) ?_ ?_⟩
    · rintro i v H40 H4 hi ⟨s4, e4⟩ ⟨rfl, hv⟩
      obtain ⟨p, hp⟩ := kn i hi
      obtain ⟨t, u, rfl, ht, hu⟩ := (ks9 i v p hv hp).same (s3.trans s4)
      refine ⟨t, _, rfl, ht, rfl, _, _, rfl, _, _, rfl, rfl, rfl, _, rfl, _, e4, ?_, comp_same s4 nD2, upd_same.trans ?_⟩
      · rw [List.length_map, List.length_take]
        exact small1000 (by rw [lKV] at hi; omega)
      · rw [take_next hp, List.map_append]
        rfl
    rintro H4 ⟨s4, e4⟩
    rw [lKV] at e3 e4
    have e3' := s4 _ _ e3
    have dk : ∀ Hx : Hp, DpAll K Hx ((known.take 8).map fun p => V.int (p.2 : Nat)) ((known.take 8).map fun p : List Int × Nat => PyData.int (p.2 : Nat)) := fun Hx => by
      have := dat_ints (K := K) (H := Hx) ((known.take 8).map fun p => (p.2 : Int))
      rw [List.map_map, List.map_map] at this
      exact this
    refine ⟨.list ((known.take 8).map fun p : List Int × Nat => PyData.int (p.2 : Nat)), .list ((known.take 8).map fun p : List Int × Nat => PyData.int (p.2 : Nat)), .lst (.inl (.inl e3')) (dk _), .lst (.inl (.inl e4)) (dk _), by decide +kernel, by decide +kernel, ?_⟩
    refine ⟨false, congrArg V.bl (by decide +kernel), iteF ?_⟩
    have hS4 := (s3.trans s4).seq hS9
    generalize eM : (if (if (5 : Int) < ((ns.map V.int).length : Int) then (5 : Int) else ((ns.map V.int).length : Int)) > 2 then (if (5 : Int) < ((ns.map V.int).length : Int) then (5 : Int) else ((ns.map V.int).length : Int)) else (2 : Int)) = mm
    have m0 : 0 ≤ mm ∧ mm ≤ 5 := by
      rw [← eM]
      split <;> split <;> omega
    obtain ⟨n, rfl⟩ := Int.eq_ofNat_of_zero_le m0.1
    have hn : n ≤ 5 := by omega
    refine ⟨_, rfl, a, _, rfl, .inl hS4, _, _, rfl, _, _, rfl, n, congrArg (fun z => [V.int z]) eM, by omega, by omega, for_range (lo := 0) (n := n) (fun i σ H' => ∃ y2 : Option V, σ = [some (.ref a), some (.ref l), y2, none, none] ∧ SqL K H' a (ns.map V.int)) ⟨_, rfl, hS4⟩ ?_ ?_⟩
    · rintro i σ H5 hi ⟨y2, rfl, h5⟩
      rw [Int.zero_add]
      refine ⟨_, rfl, _, rfl, a, ns, i, rfl, h5, hlen, by omega, fun H6 p s6 n6 j6 => ⟨p, rfl, j6, fun H7 k7 => ⟨_, rfl, iteF ⟨_, rfl, ?_⟩⟩⟩⟩
      rcases h5 with (h | ⟨o, h⟩) | h
      · exact .inl (.inl (k7 _ _ (s6 _ _ h) (ne_of_none h n6)))
      · exact .inl (.inr ⟨o, k7 _ _ (s6 _ _ h) (ne_of_none h n6)⟩)
      · exact .inr h
    · rintro σ H5 ⟨y2, rfl, h5⟩
      exact q _
end
end Sw

set_option Elab.async false
set_option linter.all false
set_option maxRecDepth 100000
set_option maxHeartbeats 16000000

namespace Sw
open PySem PySem.Spec PyProof.Rows L2
theorem all_mk {l : PySem.W.OpenLaw} {w : World} {K : PySem.W.Frag} {h : Heap} {mg : Str → Option Value} {fa : Addr} (X : K.In h) (G : h.Ns mainGlobals mg) (hfa : mg "law" = some (.ref fa))
    {c m0 m1 g0 g1 g2 g3 g4 g5 g6 g7 g8 g9 g10 g11 g12 : Addr} {t0 t1 t2 : Tok}
    {ocM0 kVM0 dcM0 pmM0 cdM0 ctM0 : Value} {odM0 anM0 : Option Addr} {slM0 : Array (Option Value)}
    {ocM1 kVM1 dcM1 pmM1 cdM1 ctM1 : Value} {odM1 anM1 : Option Addr} {slM1 : Array (Option Value)}
    {ocF0 kVF0 dcF0 pmF0 cdF0 ctF0 : Value} {odF0 anF0 : Option Addr} {slF0 : Array (Option Value)}
    {ocF1 kVF1 dcF1 pmF1 cdF1 ctF1 : Value} {odF1 anF1 : Option Addr} {slF1 : Array (Option Value)}
    {ocF2 kVF2 dcF2 pmF2 cdF2 ctF2 : Value} {odF2 anF2 : Option Addr} {slF2 : Array (Option Value)}
    {ocF3 kVF3 dcF3 pmF3 cdF3 ctF3 : Value} {odF3 anF3 : Option Addr} {slF3 : Array (Option Value)}
    {ocF4 kVF4 dcF4 pmF4 cdF4 ctF4 : Value} {odF4 anF4 : Option Addr} {slF4 : Array (Option Value)}
    {ocF5 kVF5 dcF5 pmF5 cdF5 ctF5 : Value} {odF5 anF5 : Option Addr} {slF5 : Array (Option Value)}
    {ocF6 kVF6 dcF6 pmF6 cdF6 ctF6 : Value} {odF6 anF6 : Option Addr} {slF6 : Array (Option Value)}
    {ocF7 kVF7 dcF7 pmF7 cdF7 ctF7 : Value} {odF7 anF7 : Option Addr} {slF7 : Array (Option Value)}
    {ocF8 kVF8 dcF8 pmF8 cdF8 ctF8 : Value} {odF8 anF8 : Option Addr} {slF8 : Array (Option Value)}
    {ocF9 kVF9 dcF9 pmF9 cdF9 ctF9 : Value} {odF9 anF9 : Option Addr} {slF9 : Array (Option Value)}
    {ocF10 kVF10 dcF10 pmF10 cdF10 ctF10 : Value} {odF10 anF10 : Option Addr} {slF10 : Array (Option Value)}
    {ocF11 kVF11 dcF11 pmF11 cdF11 ctF11 : Value} {odF11 anF11 : Option Addr} {slF11 : Array (Option Value)}
    {ocF12 kVF12 dcF12 pmF12 cdF12 ctF12 : Value} {odF12 anF12 : Option Addr} {slF12 : Array (Option Value)}
    (aB : PySem.W.nsIn K mainGlobals "Board" = some (some (.ref c)))
    (am0 : PySem.W.findIn K (.ref c) "__init__" = some (some (.ref m0)))
    (im0 : PySem.W.isFn K (.ref m0) = true)
    (lM0 : K.lookup m0 = some ⟨ocM0, odM0, .func (PySem.W.fnOf "__init__" "Board.__init__" (defArgs sInit) (defBody sInit) (defScope sInit) .none kVM0 dcM0 pmM0 anM0 cdM0 ctM0), slM0⟩)
    (dM0 : PySem.W.codeIn K cdM0 "Board.__init__" = true)
    (kM0 : PySem.W.keepIn K (.ref m0) = true)
    (am1 : PySem.W.findIn K (.ref c) "squares" = some (some (.ref m1)))
    (im1 : PySem.W.isFn K (.ref m1) = true)
    (lM1 : K.lookup m1 = some ⟨ocM1, odM1, .func (PySem.W.fnOf "squares" "Board.squares" (defArgs sSqs) (defBody sSqs) (defScope sSqs) .none kVM1 dcM1 pmM1 anM1 cdM1 ctM1), slM1⟩)
    (dM1 : PySem.W.codeIn K cdM1 "Board.squares" = true)
    (kM1 : PySem.W.keepIn K (.ref m1) = true)
    (ag0 : PySem.W.nsIn K mainGlobals "is_size" = some (some (.ref g0)))
    (lF0 : K.lookup g0 = some ⟨ocF0, odF0, .func (PySem.W.fnOf "is_size" "is_size" (defArgs sIsz) (defBody sIsz) (defScope sIsz) .none kVF0 dcF0 pmF0 anF0 cdF0 ctF0), slF0⟩)
    (dF0 : PySem.W.codeIn K cdF0 "is_size" = true)
    (kF0 : PySem.W.keepIn K (.ref g0) = true)
    (ag1 : PySem.W.nsIn K mainGlobals "first_wrong_size" = some (some (.ref g1)))
    (lF1 : K.lookup g1 = some ⟨ocF1, odF1, .func (PySem.W.fnOf "first_wrong_size" "first_wrong_size" (defArgs sFws) (defBody sFws) (defScope sFws) .none kVF1 dcF1 pmF1 anF1 cdF1 ctF1), slF1⟩)
    (dF1 : PySem.W.codeIn K cdF1 "first_wrong_size" = true)
    (kF1 : PySem.W.keepIn K (.ref g1) = true)
    (ag2 : PySem.W.nsIn K mainGlobals "settings_of" = some (some (.ref g2)))
    (lF2 : K.lookup g2 = some ⟨ocF2, odF2, .func (PySem.W.fnOf "settings_of" "settings_of" (defArgs sSets) (defBody sSets) (defScope sSets) .none kVF2 dcF2 pmF2 anF2 cdF2 ctF2), slF2⟩)
    (dF2 : PySem.W.codeIn K cdF2 "settings_of" = true)
    (kF2 : PySem.W.keepIn K (.ref g2) = true)
    (ag3 : PySem.W.nsIn K mainGlobals "neighbours_of" = some (some (.ref g3)))
    (lF3 : K.lookup g3 = some ⟨ocF3, odF3, .func (PySem.W.fnOf "neighbours_of" "neighbours_of" (defArgs sNbr) (defBody sNbr) (defScope sNbr) .none kVF3 dcF3 pmF3 anF3 cdF3 ctF3), slF3⟩)
    (dF3 : PySem.W.codeIn K cdF3 "neighbours_of" = true)
    (kF3 : PySem.W.keepIn K (.ref g3) = true)
    (ag4 : PySem.W.nsIn K mainGlobals "ones_and_twos" = some (some (.ref g4)))
    (lF4 : K.lookup g4 = some ⟨ocF4, odF4, .func (PySem.W.fnOf "ones_and_twos" "ones_and_twos" (defArgs sOat) (defBody sOat) (defScope sOat) .none kVF4 dcF4 pmF4 anF4 cdF4 ctF4), slF4⟩)
    (dF4 : PySem.W.codeIn K cdF4 "ones_and_twos" = true)
    (kF4 : PySem.W.keepIn K (.ref g4) = true)
    (ag5 : PySem.W.nsIn K mainGlobals "_law_dip" = some (some (.ref g5)))
    (lF5 : K.lookup g5 = some ⟨ocF5, odF5, .func (PySem.W.fnOf "_law_dip" "_law_dip" (defArgs sDip) (defBody sDip) (defScope sDip) .none kVF5 dcF5 pmF5 anF5 cdF5 ctF5), slF5⟩)
    (dF5 : PySem.W.codeIn K cdF5 "_law_dip" = true)
    (kF5 : PySem.W.keepIn K (.ref g5) = true)
    (ag6 : PySem.W.nsIn K mainGlobals "_law_pick" = some (some (.ref g6)))
    (lF6 : K.lookup g6 = some ⟨ocF6, odF6, .func (PySem.W.fnOf "_law_pick" "_law_pick" (defArgs sPick) (defBody sPick) (defScope sPick) .none kVF6 dcF6 pmF6 anF6 cdF6 ctF6), slF6⟩)
    (dF6 : PySem.W.codeIn K cdF6 "_law_pick" = true)
    (kF6 : PySem.W.keepIn K (.ref g6) = true)
    (ag7 : PySem.W.nsIn K mainGlobals "_law_spans" = some (some (.ref g7)))
    (lF7 : K.lookup g7 = some ⟨ocF7, odF7, .func (PySem.W.fnOf "_law_spans" "_law_spans" (defArgs sSpans) (defBody sSpans) (defScope sSpans) .none kVF7 dcF7 pmF7 anF7 cdF7 ctF7), slF7⟩)
    (dF7 : PySem.W.codeIn K cdF7 "_law_spans" = true)
    (kF7 : PySem.W.keepIn K (.ref g7) = true)
    (ag8 : PySem.W.nsIn K mainGlobals "_law_all" = some (some (.ref g8)))
    (lF8 : K.lookup g8 = some ⟨ocF8, odF8, .func (PySem.W.fnOf "_law_all" "_law_all" (defArgs sAll) (defBody sAll) (defScope sAll) .none kVF8 dcF8 pmF8 anF8 cdF8 ctF8), slF8⟩)
    (dF8 : PySem.W.codeIn K cdF8 "_law_all" = true)
    (kF8 : PySem.W.keepIn K (.ref g8) = true)
    (ag9 : PySem.W.nsIn K mainGlobals "_law_tiles" = some (some (.ref g9)))
    (lF9 : K.lookup g9 = some ⟨ocF9, odF9, .func (PySem.W.fnOf "_law_tiles" "_law_tiles" (defArgs sTiles) (defBody sTiles) (defScope sTiles) .none kVF9 dcF9 pmF9 anF9 cdF9 ctF9), slF9⟩)
    (dF9 : PySem.W.codeIn K cdF9 "_law_tiles" = true)
    (kF9 : PySem.W.keepIn K (.ref g9) = true)
    (ag10 : PySem.W.nsIn K mainGlobals "_law_jar" = some (some (.ref g10)))
    (lF10 : K.lookup g10 = some ⟨ocF10, odF10, .func (PySem.W.fnOf "_law_jar" "_law_jar" (defArgs sJar) (defBody sJar) (defScope sJar) .none kVF10 dcF10 pmF10 anF10 cdF10 ctF10), slF10⟩)
    (dF10 : PySem.W.codeIn K cdF10 "_law_jar" = true)
    (kF10 : PySem.W.keepIn K (.ref g10) = true)
    (ag11 : PySem.W.nsIn K mainGlobals "_law_right" = some (some (.ref g11)))
    (lF11 : K.lookup g11 = some ⟨ocF11, odF11, .func (PySem.W.fnOf "_law_right" "_law_right" (defArgs sRight) (defBody sRight) (defScope sRight) .none kVF11 dcF11 pmF11 anF11 cdF11 ctF11), slF11⟩)
    (dF11 : PySem.W.codeIn K cdF11 "_law_right" = true)
    (kF11 : PySem.W.keepIn K (.ref g11) = true)
    (ag12 : PySem.W.nsIn K mainGlobals "law" = some (some (.ref g12)))
    (lF12 : K.lookup g12 = some ⟨ocF12, odF12, .func (PySem.W.fnOf "law" "law" (defArgs sLaw) (defBody sLaw) (defScope sLaw) .none kVF12 dcF12 pmF12 anF12 cdF12 ctF12), slF12⟩)
    (dF12 : PySem.W.codeIn K cdF12 "law" = true)
    (kF12 : PySem.W.keepIn K (.ref g12) = true)
    (ac0 : PySem.W.nsIn K mainGlobals "MOST_SWITCHES" = some (some (.int 5 t0)))
    (ac1 : PySem.W.nsIn K mainGlobals "MOST_SETTINGS" = some (some (.int 48 t1)))
    (ac2 : PySem.W.nsIn K mainGlobals "STANDS" = some (some (.str "012" t2)))
    (pg : PySem.W.plainGet K c Str.empty = true)
    (hd : PySem.W.hasDictIn K c = true)
    (po : PySem.W.plainOver K c = true)
    (sa : PySem.W.findIn K (.ref c) "__setattr__" = some (some (.builtin "object.__setattr__")))
    (mk : PySem.W.makesIn K c = true)
    (kc : PySem.W.keepIn K (.ref c) = true)
    (no0 : PySem.W.findIn K (.ref c) "_sizes" = some none)
    (no1 : PySem.W.findIn K (.ref c) "_whole" = some none)
    (no2 : PySem.W.findIn K (.ref c) "_settings" = some none)
    (no3 : PySem.W.findIn K (.ref c) "_beside" = some none)
    (z0 : PySem.W.nsIn K mainGlobals "len" = some none)
    (z1 : PySem.W.nsIn K mainGlobals "int" = some none)
    (z2 : PySem.W.nsIn K mainGlobals "isinstance" = some none)
    (z3 : PySem.W.nsIn K mainGlobals "enumerate" = some none)
    (z4 : PySem.W.nsIn K mainGlobals "tuple" = some none)
    (z5 : PySem.W.nsIn K mainGlobals "sorted" = some none)
    (z6 : PySem.W.nsIn K mainGlobals "range" = some none)
    (z7 : PySem.W.nsIn K mainGlobals "abs" = some none)
    (z8 : PySem.W.nsIn K mainGlobals "repr" = some none)
    (z9 : PySem.W.nsIn K mainGlobals "any" = some none)
    (z10 : PySem.W.nsIn K mainGlobals "max" = some none)
    (z11 : PySem.W.nsIn K mainGlobals "min" = some none) :
    ∃ fd : FuncData, (∀ (s : Shared) (v : Value), BindsTo s fd ⟨[v], []⟩ [("script", v)]) ∧ ∀ base : Heap, K.In base → base.Ns mainGlobals mg → FnG l.prog w K mg base 6 fa fd ["script"] (spLaw K) := by
  obtain rfl := Value.ref.inj (Option.some.inj (hfa.symm.trans (PySem.W.mg_of X G ag12)))
  have F0 := fun_mk (st := sIsz) lF0 dF0 kF0
  have F1 := fun_mk (st := sFws) lF1 dF1 kF1
  have F2 := fun_mk (st := sSets) lF2 dF2 kF2
  have F3 := fun_mk (st := sNbr) lF3 dF3 kF3
  have F4 := fun_mk (st := sOat) lF4 dF4 kF4
  have F5 := fun_mk (st := sDip) lF5 dF5 kF5
  have F6 := fun_mk (st := sPick) lF6 dF6 kF6
  have F7 := fun_mk (st := sSpans) lF7 dF7 kF7
  have F8 := fun_mk (st := sAll) lF8 dF8 kF8
  have F9 := fun_mk (st := sTiles) lF9 dF9 kF9
  have F10 := fun_mk (st := sJar) lF10 dF10 kF10
  have F11 := fun_mk (st := sRight) lF11 dF11 kF11
  have F12 := fun_mk (st := sLaw) lF12 dF12 kF12
  have M0 := fun_mk (st := sInit) lM0 dM0 kM0
  have M1 := fun_mk (st := sSqs) lM1 dM1 kM1
  have B0 := F0.binds (ps := ["value"]) fun _ _ _ _ _ _ us hl => match us, hl with | [_], _ => rfl
  have B1 := F1.binds (ps := ["sizes"]) fun _ _ _ _ _ _ us hl => match us, hl with | [_], _ => rfl
  have B2 := F2.binds (ps := ["part"]) fun _ _ _ _ _ _ us hl => match us, hl with | [_], _ => rfl
  have B3 := F3.binds (ps := ["setting", "whole"]) fun _ _ _ _ _ _ us hl => match us, hl with | [_, _], _ => rfl
  have B4 := F4.binds (ps := ["stands"]) fun _ _ _ _ _ _ us hl => match us, hl with | [_], _ => rfl
  have B5 := F5.binds (ps := ["jar", "most"]) fun _ _ _ _ _ _ us hl => match us, hl with | [_, _], _ => rfl
  have B6 := F6.binds (ps := ["jar", "menu"]) fun _ _ _ _ _ _ us hl => match us, hl with | [_, _], _ => rfl
  have B7 := F7.binds (ps := ["jar", "most"]) fun _ _ _ _ _ _ us hl => match us, hl with | [_, _], _ => rfl
  have B8 := F8.binds (ps := ["spans"]) fun _ _ _ _ _ _ us hl => match us, hl with | [_], _ => rfl
  have B9 := F9.binds (ps := ["spans"]) fun _ _ _ _ _ _ us hl => match us, hl with | [_], _ => rfl
  have B10 := F10.binds (ps := ["script", "k"]) fun _ _ _ _ _ _ us hl => match us, hl with | [_, _], _ => rfl
  have B11 := F11.binds (ps := ["jar"]) fun _ _ _ _ _ _ us hl => match us, hl with | [_], _ => rfl
  have N0 := M0.binds (ps := ["self", "sizes"]) fun _ _ _ _ _ _ us hl => match us, hl with | [_, _], _ => rfl
  have N1 := M1.binds (ps := ["self"]) fun _ _ _ _ _ _ us hl => match us, hl with | [_], _ => rfl
  have T : TxB mg := ⟨(PySem.W.mg_none_of X G z0), (PySem.W.mg_none_of X G z1), (PySem.W.mg_none_of X G z2), (PySem.W.mg_none_of X G z3), (PySem.W.mg_none_of X G z4), (PySem.W.mg_none_of X G z5), ⟨t0, PySem.W.mg_of X G ac0⟩, ⟨t1, PySem.W.mg_of X G ac1⟩, ⟨t2, PySem.W.mg_of X G ac2⟩⟩
  have Bd : TxC K mg c m0 := ⟨⟨pg, hd, po, sa⟩, no0, no1, no2, no3, PySem.W.mg_of X G aB, ⟨mk, am0, im0, kc⟩⟩
  have D : TxD K mg (fun i => ([g0, g1, g2, g3] : List Addr).getD i 0) (fun i => ([(PySem.W.fnOf "is_size" "is_size" (defArgs sIsz) (defBody sIsz) (defScope sIsz) .none kVF0 dcF0 pmF0 anF0 cdF0 ctF0), (PySem.W.fnOf "first_wrong_size" "first_wrong_size" (defArgs sFws) (defBody sFws) (defScope sFws) .none kVF1 dcF1 pmF1 anF1 cdF1 ctF1), (PySem.W.fnOf "settings_of" "settings_of" (defArgs sSets) (defBody sSets) (defScope sSets) .none kVF2 dcF2 pmF2 anF2 cdF2 ctF2), (PySem.W.fnOf "neighbours_of" "neighbours_of" (defArgs sNbr) (defBody sNbr) (defScope sNbr) .none kVF3 dcF3 pmF3 anF3 cdF3 ctF3)] : List FuncData).getD i (PySem.W.fnOf "is_size" "is_size" (defArgs sIsz) (defBody sIsz) (defScope sIsz) .none kVF0 dcF0 pmF0 anF0 cdF0 ctF0)) := ⟨F0, B0, (PySem.W.mg_of X G ag0), F1, B1, (PySem.W.mg_of X G ag1), F2, B2, (PySem.W.mg_of X G ag2), F3, B3, (PySem.W.mg_of X G ag3)⟩
  have L : TxL K mg (fun i => ([g5, g6] : List Addr).getD i 0) (fun i => ([(PySem.W.fnOf "_law_dip" "_law_dip" (defArgs sDip) (defBody sDip) (defScope sDip) .none kVF5 dcF5 pmF5 anF5 cdF5 ctF5), (PySem.W.fnOf "_law_pick" "_law_pick" (defArgs sPick) (defBody sPick) (defScope sPick) .none kVF6 dcF6 pmF6 anF6 cdF6 ctF6)] : List FuncData).getD i (PySem.W.fnOf "_law_dip" "_law_dip" (defArgs sDip) (defBody sDip) (defScope sDip) .none kVF5 dcF5 pmF5 anF5 cdF5 ctF5)) := ⟨⟨(PySem.W.mg_none_of X G z0), (PySem.W.mg_none_of X G z1), (PySem.W.mg_none_of X G z7)⟩, F5, B5, (PySem.W.mg_of X G ag5), F6, B6, (PySem.W.mg_of X G ag6), (PySem.W.mg_none_of X G z6)⟩
  have R : TxR K mg c m0 (PySem.W.fnOf "__init__" "Board.__init__" (defArgs sInit) (defBody sInit) (defScope sInit) .none kVM0 dcM0 pmM0 anM0 cdM0 ctM0) (fun i => ([m1, g4, g7, g8, g9, g10, g11] : List Addr).getD i 0) (fun i => ([(PySem.W.fnOf "squares" "Board.squares" (defArgs sSqs) (defBody sSqs) (defScope sSqs) .none kVM1 dcM1 pmM1 anM1 cdM1 ctM1), (PySem.W.fnOf "ones_and_twos" "ones_and_twos" (defArgs sOat) (defBody sOat) (defScope sOat) .none kVF4 dcF4 pmF4 anF4 cdF4 ctF4), (PySem.W.fnOf "_law_spans" "_law_spans" (defArgs sSpans) (defBody sSpans) (defScope sSpans) .none kVF7 dcF7 pmF7 anF7 cdF7 ctF7), (PySem.W.fnOf "_law_all" "_law_all" (defArgs sAll) (defBody sAll) (defScope sAll) .none kVF8 dcF8 pmF8 anF8 cdF8 ctF8), (PySem.W.fnOf "_law_tiles" "_law_tiles" (defArgs sTiles) (defBody sTiles) (defScope sTiles) .none kVF9 dcF9 pmF9 anF9 cdF9 ctF9), (PySem.W.fnOf "_law_jar" "_law_jar" (defArgs sJar) (defBody sJar) (defScope sJar) .none kVF10 dcF10 pmF10 anF10 cdF10 ctF10), (PySem.W.fnOf "_law_right" "_law_right" (defArgs sRight) (defBody sRight) (defScope sRight) .none kVF11 dcF11 pmF11 anF11 cdF11 ctF11)] : List FuncData).getD i (PySem.W.fnOf "squares" "Board.squares" (defArgs sSqs) (defBody sSqs) (defScope sSqs) .none kVM1 dcM1 pmM1 anM1 cdM1 ctM1)) := ⟨M0, N0, M1, N1, ⟨am1, im1, kM1⟩, F4, B4, (PySem.W.mg_of X G ag4), F7, B7, (PySem.W.mg_of X G ag7), F8, B8, (PySem.W.mg_of X G ag8), F9, B9, (PySem.W.mg_of X G ag9), F10, B10, (PySem.W.mg_of X G ag10), F11, B11, (PySem.W.mg_of X G ag11), (PySem.W.mg_none_of X G z8), (PySem.W.mg_none_of X G z9), (PySem.W.mg_none_of X G z10), (PySem.W.mg_none_of X G z11)⟩
  exact ⟨(PySem.W.fnOf "law" "law" (defArgs sLaw) (defBody sLaw) (defScope sLaw) .none kVF12 dcF12 pmF12 anF12 cdF12 ctF12), fun s v => .of_eq rfl, fun base hb0 hb1 => ok_law F12 T Bd D L R⟩
end Sw

open PySem PySem.W PyProof.Rows
set_option maxRecDepth 100000 in
set_option maxHeartbeats 0 in
theorem PySem.Challenge.cw_switchhills_k04_whole_squares_of_boards_holds : PySem.Challenge.rw_switchhills_k04_whole_squares_of_boards.Holds := by
  w_on
  o_law
  k_head
  (case hw => w_witness2)
  k_fill
  refine Sw.walkG (l := PySem.Challenge.rw_switchhills_k04_whole_squares_of_boards) (n := 63) (k := 6) (x := "script") (sp := fun w => Sw.spLaw _) rfl (by decide) rfl ⟨rfl, by decide, by decide⟩ (fun w h Y => PySem.W.kIn_of Y) ?F (fun _ _ a ns hl _ hS => ⟨a, ns, rfl, hS, hl, fun _ => rfl⟩)
  case F =>
    intro w mg fa h KX G hmg
    refine' Sw.all_mk KX G hmg ?aB ?am0 ?im0 ?lM0 ?dM0 ?kM0 ?am1 ?im1 ?lM1 ?dM1 ?kM1 ?ag0 ?lF0 ?dF0 ?kF0 ?ag1 ?lF1 ?dF1 ?kF1 ?ag2 ?lF2 ?dF2 ?kF2 ?ag3 ?lF3 ?dF3 ?kF3 ?ag4 ?lF4 ?dF4 ?kF4 ?ag5 ?lF5 ?dF5 ?kF5 ?ag6 ?lF6 ?dF6 ?kF6 ?ag7 ?lF7 ?dF7 ?kF7 ?ag8 ?lF8 ?dF8 ?kF8 ?ag9 ?lF9 ?dF9 ?kF9 ?ag10 ?lF10 ?dF10 ?kF10 ?ag11 ?lF11 ?dF11 ?kF11 ?ag12 ?lF12 ?dF12 ?kF12 ?ac0 ?ac1 ?ac2 ?pg ?hd ?po ?sa ?mk ?kc ?no0 ?no1 ?no2 ?no3 ?z0 ?z1 ?z2 ?z3 ?z4 ?z5 ?z6 ?z7 ?z8 ?z9 ?z10 ?z11
    (case aB => k_is)
    (case am0 => k_is)
    (case im0 => k_is)
    (case lM0 => k_is)
    (case dM0 => k_is)
    (case kM0 => k_is)
    (case am1 => k_is)
    (case im1 => k_is)
    (case lM1 => k_is)
    (case dM1 => k_is)
    (case kM1 => k_is)
    (case ag0 => k_is)
    (case lF0 => k_is)
    (case dF0 => k_is)
    (case kF0 => k_is)
    (case ag1 => k_is)
    (case lF1 => k_is)
    (case dF1 => k_is)
    (case kF1 => k_is)
    (case ag2 => k_is)
    (case lF2 => k_is)
    (case dF2 => k_is)
    (case kF2 => k_is)
    (case ag3 => k_is)
    (case lF3 => k_is)
    (case dF3 => k_is)
    (case kF3 => k_is)
    (case ag4 => k_is)
    (case lF4 => k_is)
    (case dF4 => k_is)
    (case kF4 => k_is)
    (case ag5 => k_is)
    (case lF5 => k_is)
    (case dF5 => k_is)
    (case kF5 => k_is)
    (case ag6 => k_is)
    (case lF6 => k_is)
    (case dF6 => k_is)
    (case kF6 => k_is)
    (case ag7 => k_is)
    (case lF7 => k_is)
    (case dF7 => k_is)
    (case kF7 => k_is)
    (case ag8 => k_is)
    (case lF8 => k_is)
    (case dF8 => k_is)
    (case kF8 => k_is)
    (case ag9 => k_is)
    (case lF9 => k_is)
    (case dF9 => k_is)
    (case kF9 => k_is)
    (case ag10 => k_is)
    (case lF10 => k_is)
    (case dF10 => k_is)
    (case kF10 => k_is)
    (case ag11 => k_is)
    (case lF11 => k_is)
    (case dF11 => k_is)
    (case kF11 => k_is)
    (case ag12 => k_is)
    (case lF12 => k_is)
    (case dF12 => k_is)
    (case kF12 => k_is)
    (case ac0 => k_is)
    (case ac1 => k_is)
    (case ac2 => k_is)
    (case pg => k_is)
    (case hd => k_is)
    (case po => k_is)
    (case sa => k_is)
    (case mk => k_is)
    (case kc => k_is)
    (case no0 => k_is)
    (case no1 => k_is)
    (case no2 => k_is)
    (case no3 => k_is)
    (case z0 => k_is)
    (case z1 => k_is)
    (case z2 => k_is)
    (case z3 => k_is)
    (case z4 => k_is)
    (case z5 => k_is)
    (case z6 => k_is)
    (case z7 => k_is)
    (case z8 => k_is)
    (case z9 => k_is)
    (case z10 => k_is)
    (case z11 => k_is)
