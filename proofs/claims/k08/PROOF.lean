import PyProof.Rows.All
import Wide.All
import OpenK.AllK
import Wide.FinOn
import HandS.ForMost
import HandS.ExcInit
import HandS.ExcIs
import HandS.ExcField
import HandS.IsInst
import KE.GoesMore
import KE.SortData
import HandS.Walk
import HandS.Conv
import HandS.TupAny
import PyProof.CollectStr
import OpenK.KMeth
import KE.KCallOwn
import OpenK.KOps
import HandS.OwnEq
import PyProof.InstEq
import KE.GoesZip
import HandS.Zip
import HandS.Defaults
import HandS.MakeKwOnly
import HandS.DictSub
import PyProof.Conv_bool
import PyProof.EqKinds
import HandS.More
import HandS.CallLocal
import HandS.Dict
import HandS.ClsMeth
import HandS.List
import HandS.Strs
import HandS.SetKeys
import HandS.Deep
import HandS.Star
import HandS.DictComp
import HandS.Property
import HandS.Iter
import HandS.MakeKw
import PySem.Challenge.RW_switchhills_k08_whole_peaks_of_rankings
set_option Elab.async false
set_option linter.all false
set_option maxRecDepth 100000
set_option maxHeartbeats 4000000
/-! A def that is called where no repr is under way; repr of data. -/
namespace Sw
open PySem PySem.Spec PyProof.Rows L2

abbrev Free0 (A : Around) : Prop := A.guards = some []

/-- as FnOk, for callers around which no guard stands -/
structure FnG (P : Program) (w : World) (K : PySem.W.Frag) (mg : Str → Option Value) (base : Heap)
    (k : Nat) (f : Addr) (fd : FuncData) (ps : List Str) (sp : Sp) : Prop where
  ln : ∀ vs H Q E, sp vs H Q E → vs.length = ps.length
  go : ∀ (A : Around) (outer : List Env) (s : Shared) (H : Hp) (args : Args) (us : List Value) (vs : List V)
    (Q : VK) (E : XK), Room k A → Free0 A → Env0 P w K mg base A outer s H →
    BindsTo s fd args (ps.zip us) → Vals vs us → sp vs H Q E →
    codeAny (model P w) A (.call (.ref f) args) (CR CX0 outer P w H s Q E) s

section
variable {P : Program} {w : World} {K : PySem.W.Frag} {mg : Str → Option Value} {base : Heap}

theorem FnG.of {k : Nat} {f : Addr} {fd : FuncData} {ps : List Str} {sp : Sp}
    (F : FnOk P w K mg base CX0 k f fd ps sp) : FnG P w K mg base k f fd ps sp :=
  ⟨F.len, fun A outer s H args us vs Q E hr _ he hb hv hs => F.run A outer s H args us vs Q E hr he hb hv hs⟩

theorem okG {x qual : Str} {st : Stmt} {f : Addr} {fd : FuncData} {N ps : List Str} {k : Nat} {sp : Sp}
    (F : Fun K x qual st f fd) (S : FnScope N ps (defScope st))
    (ln : ∀ vs H Q E, sp vs H Q E → vs.length = ps.length)
    (body : ∀ (cdv : Value) (A : Around) (outer : List Env) (s : Shared) (H : Hp) (vs : List V) (Q : VK) (E : XK),
      Room k (A.deeper (envOfC qual (defScope st) s.heap.objs.size f cdv)) →
      Free0 (A.deeper (envOfC qual (defScope st) s.heap.objs.size f cdv)) → sp vs H Q E →
      ∃ t, PSs (cxOf CX0 P w K mg base N qual (defScope st) f cdv A outer s H E).nox (defBody st) t ∧
        t { nx := fun _ H' => Q .non H', rt := Q } (start N vs) H) :
    FnG P w K mg base (k + 1) f fd ps sp := by
  obtain ⟨oc, od, kV, doc, pm, an, cdv, ct, osl, hfd, lk, hcd⟩ := F.ex
  subst hfd
  constructor
  · exact ln
  · intro A outer s H args us vs Q E room free e0 bnd rel want
    have inHeap : K.In s.heap := e0.mod.kin.keeps fun b o z => (e0.bs b o z).1
    have noLim : s.heap.NoLimit := e0.mod.nolimit.keeps fun b o z => (e0.bs b o z).1
    refine codeAny_call_function room.depth (inHeap _ _ lk) rfl S.co S.gen rfl
      (PySem.W.codeRec_of inHeap hcd) (bnd _ _ _ _ ?_)
    refine wpAny_newFunctionEnv_cells S.kind (fun z hz => ?_) fun env hen s1 x => ?_
    · have hz1 := (List.of_mem_zip (a := z.1) (b := z.2) hz).1
      rcases S.par z.1 hz1 with q | q
      · left; exact q
      · right; exact ⟨q, PySem.W.cellsFrom_some _ _ _ (.inl q)⟩
    · subst hen
      refine ⟨noLim.keeps x.toInCall.keep, codeAny_func ?_⟩
      obtain ⟨t, ht, hq⟩ := body cdv A outer s H vs Q E (room.deeper _) free want
      have J := inv_start (CX := CX0) (P := P) (w := w) (K := K) (mg := mg) (base := base) (E := E)
        S room.hd e0 (ln _ _ _ _ want) rel x
      refine wpAny_mono (ht.nox.run [] s1 (start N vs) H _ J hq) ?_ fun _ _ z => z
      intro fl s' hs
      cases fl with
      | brk => obtain ⟨_, _, _, z⟩ := hs; exact False.elim z
      | cont => obtain ⟨_, _, _, z⟩ := hs; exact False.elim z
      | next =>
        obtain ⟨σ', H', J', z⟩ := hs
        exact ⟨.non, H', J'.os, J'.bare, J'.base, J'.hok, rfl, z⟩
      | ret u =>
        obtain ⟨v, σ', H', J', rv, z⟩ := hs
        exact ⟨v, H', J'.os, J'.bare, J'.base, J'.hok, rv, z⟩
end

section
variable {X : Cx} {k : Nat} {f : Addr} {fd : FuncData} {ps : List Str} {sp : Sp} {dvs : List V} {ds : List Value}
  {x : Str} {p pos : Pos} {e : Expr} {es : List Expr} {t : TA}

/-- a call of such a def -/
theorem pe_callG (G : FnG X.prog X.w X.K X.mg X.base k f fd ps sp) (hr : Room k X.A) (fr : Free0 X.A) (hg : Gl X x)
    (hm : X.mg x = some (.ref f)) (hk : PySem.W.keepIn X.K (.ref f) = true) (hb : Binds X.K fd ps ds)
    (hd : Vals dvs ds) (ha : PA X (e :: es) t) (hdb : (x == ("__debug__" : Str)) = false := by decide)
    (he : starEach (e :: es) X.env = (false, eval e X.env) :: starEach es X.env := by rfl)
    (hpl : (backTo pos (starEach es X.env)).any (·.1) = false := by rfl) :
    PE X (.Call (.Name x p) (e :: es) [] pos) (tCall sp dvs E0 t) := by
  constructor
  intro pins s σ H Q I h
  refine wpAny_Call_Name_kw (ld_glob I hg hm ?_ hdb)
  refine PySem.W.callWith_K (h₀ := X.base) I.ok.mod.kin hk ?_ he hpl
  refine thn (ha.run pos pins s σ H _ I h) ?_
  intro us s1 hs
  obtain ⟨vs, H1, I1, r, q⟩ := hs
  refine ⟨I1.kIn, ?_⟩
  have rr : Vals (vs ++ dvs) (us ++ ds) := r.append hd
  have ll : (us ++ ds).length = ps.length := rr.length.symm.trans (G.ln _ _ _ _ q)
  have run := G.go X.A X.stack s1 H1 ⟨us, []⟩ (us ++ ds) (vs ++ dvs) Q E0 hr fr I1.env0 (hb s1 us I1.kIn ll) rr q
  refine wpAny_call (codeAny_mono run ?_)
  intro res s' z
  cases res with
  | error er => exact False.elim z
  | ok fl =>
    cases fl with
    | ret u => exact I1.after z
    | next => exact False.elim z
    | brk => exact False.elim z
    | cont => exact False.elim z
end

/-! ### what can be read as data: Dp, or a dict at the top -/
section
variable {X : Cx} {pins : List (Addr × Obj)} {σ : L2.St} {H : Hp} {s : Shared}

inductive Dx (K : PySem.W.Frag) (H : Hp) : V → PyData → Prop
  | flat {v : V} {d : PyData} : Dp K H v d → Dx K H v d
  | dct {a : Addr} {kvs : List (Str × Int)} :
      H a = some (.dK (kvs.map fun p => (Sum.inr p.1, V.int p.2))) →
      Dx K H (.ref a) (.dict (kvs.map fun p => (.str p.1, .int p.2)))

theorem dct_reads {h : Heap} {prog : Program} {w : World} : ∀ (kvs : List (Str × Int)) (es : List DictEntry)
    (vs : List (Key × Value)), KV (kvs.map fun p => ((Sum.inr p.1 : Key), V.int p.2)) vs →
    Pairs (mixKind prog w) es vs →
    ∃ as bs, ReadsAll h (es.map (·.key)) (kvs.map fun p => PyData.str p.1) as ∧ as = [] ∧
      ReadsAll h (es.map (·.val)) (kvs.map fun p => PyData.int p.2) bs ∧ bs = []
  | [], es, vs, kv, ps => by
    cases kv
    cases ps
    exact ⟨_, _, .nil, rfl, .nil, rfl⟩
  | p :: kvs, es, vs, kv, ps => by
    cases kv with
    | cons h1 h2 =>
      cases ps with
      | cons q1 q2 q3 =>
        obtain ⟨as, bs, r1, e1, r2, e2⟩ := dct_reads (h := h) kvs _ _ h2 q3
        obtain ⟨hk, t, hv⟩ := h1
        rename_i b l2 e es'
        obtain ⟨hash, key, val⟩ := e
        have hk0 : (Sum.inr p.1 : Key) = b.1 := hk
        have hk' : keyIs (Sum.inr p.1) key = true := by rw [hk0]; exact q1
        obtain ⟨t2, et⟩ := Value.isStrOf_shape (x := p.1) (v := key) hk'
        have ev : val = Value.int p.2 t := q2.trans hv
        subst et ev e1 e2
        exact ⟨_, _, .cons (.str p.1 t2) r1, rfl, .cons (.int p.2 t) r2, rfl⟩

/-- what the rule of repr asks -/
def rRepr (K : PySem.W.Frag) : List V → Hp → VK → Prop := fun xs H Q =>
  ∃ v d, xs = [v] ∧ Dx K H v d ∧ d.showable = true ∧ d.shown.length ≤ sizeLine ∧ d.depth ≤ 60 ∧ Q (.str d.shown) H

theorem map_fst_dct (kvs : List (Str × Int)) :
    ((kvs.map fun p => (PyData.str p.1, PyData.int p.2)).map (·.1)) = kvs.map fun p => PyData.str p.1 := by
  rw [List.map_map]; rfl
theorem map_snd_dct (kvs : List (Str × Int)) :
    ((kvs.map fun p => (PyData.str p.1, PyData.int p.2)).map (·.2)) = kvs.map fun p => PyData.int p.2 := by
  rw [List.map_map]; rfl

mutual
theorem dp_nodict {K : PySem.W.Frag} : ∀ (d : PyData) (v : V), Dp K H v d → d.hasDict = false
  | .none, _, _ => rfl
  | .bool _, _, _ => rfl
  | .int _, _, _ => rfl
  | .str _, _, _ => rfl
  | .list ds, _, h => by
    cases h with
    | lst _ hd => simp only [PyData.hasDict]; exact dpAll_nodict ds _ hd
  | .tuple ds, _, h => by
    cases h with
    | tup _ hd => simp only [PyData.hasDict]; exact dpAll_nodict ds _ hd
  | .dict _, _, h => by cases h
theorem dpAll_nodict {K : PySem.W.Frag} : ∀ (ds : List PyData) (vs : List V), DpAll K H vs ds → PyData.hasDictAll ds = false
  | [], _, _ => rfl
  | d :: ds, _, h => by
    cases h with
    | cons a b => simp only [PyData.hasDictAll, dp_nodict d _ a, dpAll_nodict ds _ b, Bool.or_false]
end

theorem Dx.ref (I : Inv X pins σ H s) {a : Addr} {d : PyData} (h : Dx X.K H (.ref a) d) :
    ∃ as, Reads s.heap (.ref a) d as ∧ (d.hasDict = true → sysModules ∉ as) := by
  cases h with
  | flat h =>
    obtain ⟨as, r⟩ := Dp.reads I d _ _ h rfl
    refine ⟨as, r, fun z => ?_⟩
    rw [dp_nodict d _ h] at z
    cases z
  | @dct _ kvs ea =>
    have ok : ObjOk X.prog X.w H s.heap a (.dK (kvs.map fun p => (Sum.inr p.1, V.int p.2))) := I.hok a _ ea
    obtain ⟨_, ns, vs, kv, o, es, ep, ho, ex, hd, _, ps, _⟩ := ok
    obtain ⟨as, bs, r1, e1, r2, e2⟩ := dct_reads (h := s.heap) kvs _ _ kv ps
    subst e1 e2
    refine ⟨a :: ([] : List Addr) ++ ([] : List Addr), Reads.dict ho ex.1 hd ?_ ?_, fun _ z => ?_⟩
    · rw [map_fst_dct]; exact r1
    · rw [map_snd_dct]; exact r2
    · have z' : sysModules ∈ ([a] : List Addr) := z
      rw [List.mem_singleton.mp z'] at ns
      exact absurd ns (by simp)

/-- repr(v), v data, where no repr is under way -/
theorem call_repr (fr : Free0 X.A) (hu : X.A.units + 64 < cLine) : CallR X (.builtin "repr") (rRepr X.K) := by
  intro pins s σ H xs us Q I r h
  obtain ⟨v, d, rfl, hd, hs, hz, hp, q⟩ := h
  obtain ⟨u, rfl, ru⟩ := vals1 r
  have fin : ∀ (h' : Heap) (t tk : Tok), (∀ b o, s.heap.get? b = some o → h'.get? b = some o) →
      EP X pins σ Q (.str d.shown t) { s with heap := h', toks := tk } :=
    fun h' t tk hk => ⟨.str d.shown, H, I.kept (t' := tk) hk, ⟨t, rfl⟩, q⟩
  have same : ∀ (t tk : Tok), EP X pins σ Q (.str d.shown t) { s with toks := tk } :=
    fun t tk => fin s.heap t tk fun _ _ z => z
  cases v with
  | ref a =>
    cases ru
    obtain ⟨as, rd, nm⟩ := hd.ref I
    exact repr_of_reads' rd hs nm fr (by omega) (fun _ _ z => z) (fun h' t tk hk => fin h' t tk hk) hz
  | non =>
    cases hd with
    | flat hd =>
      cases hd
      cases ru
      refine PySem.P.repr_of_none ?_
      exact same _ _
  | bl b =>
    cases hd with
    | flat hd =>
      cases hd
      cases ru
      refine PySem.P.repr_of_bool ?_
      have e := same s.toks (s.toks + 1)
      simp only [PyData.shown] at e
      cases b <;> exact e
  | int i =>
    cases hd with
    | flat hd =>
      cases hd
      obtain ⟨t, rfl⟩ := ru
      refine PySem.P.repr_of_int (by simpa [PyData.showable] using hs) ?_
      have e := same s.toks (s.toks + 1)
      simp only [PyData.shown] at e
      exact e
  | str x =>
    cases hd with
    | flat hd =>
      cases hd
      obtain ⟨t, rfl⟩ := ru
      simp only [PyData.shown] at hz
      refine PySem.P.repr_of_str ?_ hz
      have e := same s.toks (s.toks + 1)
      simp only [PyData.shown] at e
      exact e
  | byt b => cases hd with | flat hd => cases hd
  | flt b => cases hd with | flat hd => cases hd
  | ty n => cases hd with | flat hd => cases hd
end
end Sw

set_option Elab.async false
set_option linter.all false
set_option maxRecDepth 100000
set_option maxHeartbeats 4000000
/-! The end of a law whose def is called where no guard stands. -/
namespace Sw
open PySem PySem.Spec PyProof.Rows L2

theorem endG {P : Program} {w : World} {K : PySem.W.Frag} {mg mb : Str → Option Value} {k : Nat} {fa a : Addr} {fd : FuncData} {x : Str} {sp : Sp}
    {st : Shared} {vs : List Value} {ns : List Int} (KX : K.In st.heap) (gl : st.heap.Ns mainGlobals mg) (bl : st.heap.Ns builtinsNs mb)
    (bb : ∀ x : Str, x ≠ "__name__" → mb x = bootBuiltins x) (lim : st.heap.NoLimit) (gens : st.gens = #[])
    (obj : st.heap.get? a = some { cls := .type "list", data := .seq vs.toArray }) (areInts : IntsAre vs ns) (small : ns.length ≤ sizeLine) (hr : Room k callerA)
    (F : ∀ base : Heap, K.In base → base.Ns mainGlobals mg → FnG P w K mg base k fa fd [x] sp)
    (bind : ∀ (s : Shared) (u : Value), BindsTo s fd ⟨[u], []⟩ [(x, u)])
    (want : ∀ H : Hp, Only H → SqL K H a (ns.map V.int) → sp [.ref a] H (fun v _ => v = .bl true) E0) :
    codeAny (model P w) callerA (.call (.ref fa) ⟨[.ref a], []⟩)
      (fun r s' => r = .ok (.ret (.bool true)) ∧ OldK st.heap s'.heap ∧ s'.os = st.os ∧ AllBare s'.gens) st := by
  have rel := vals_ints areInts
  have count := areInts.length
  have main : ∀ H : Hp, Only H → SqL K H a (ns.map V.int) → HOk P w H st.heap → (∀ b, H b ≠ none → b = a) → (H a ≠ none → K.lookup a = none) →
      codeAny (model P w) callerA (.call (.ref fa) ⟨[.ref a], []⟩)
        (fun r s' => r = .ok (.ret (.bool true)) ∧ OldK st.heap s'.heap ∧ s'.os = st.os ∧ AllBare s'.gens) st := by
    intro H only seq ok alone notK
    have isA : ∀ {b : Addr} {u : HO}, H b = some u → b = a := fun {b u} z => alone b (by rw [z]; simp)
    have dictFree : ∀ {b : Addr} {o : Obj} {es : Array DictEntry} {ep : Nat}, st.heap.get? b = some o → o.data = .dict es ep → H b = none := by
      intro b o es ep z dz
      cases q : H b with
      | none => rfl
      | some u =>
        obtain rfl := isA q
        rw [obj] at z
        cases z
        cases dz
    have ns2 : ∀ {b : Addr} {m : Str → Option Value}, st.heap.Ns b m → (hidT st.heap H).Ns b m := by
      rintro b m ⟨o, es, ep, z, dz, r⟩
      exact ⟨o, es, ep, hidT_get z (dictFree z dz), dz, r⟩
    have KB : K.In (hidT st.heap H) := by
      intro b o z
      refine hidT_get (KX b o z) ?_
      cases q : H b with
      | none => rfl
      | some u =>
        obtain rfl := isA q
        rw [notK (by rw [q]; simp)] at z
        cases z
    have md : Mod K mg (hidT st.heap H) := ⟨KB, ns2 gl, ⟨mb, ns2 bl, bb⟩, let ⟨mc, z1, z2⟩ := lim; ⟨mc, ns2 z1, z2⟩⟩
    have e0 : Env0 P w K mg (hidT st.heap H) callerA [] st H :=
      ⟨rfl, md, fun b o z => of_hidT z, Nat.le_of_eq (hidT_size _ _), trivial, fun b z => absurd (show b ∈ ([] : List Addr) from z) (by simp), ok, .of_eq gens⟩
    have run := (F _ KB (ns2 gl)).go callerA [] st H ⟨[.ref a], []⟩ [.ref a] [.ref a] _ E0 hr rfl e0 (bind st (.ref a)) (.cons rfl .nil) (want H only seq)
    refine codeAny_mono run ?_
    intro r s' z
    cases r with
    | error e => exact False.elim z
    | ok fl =>
      cases fl with
      | next => exact False.elim z
      | brk => exact False.elim z
      | cont => exact False.elim z
      | ret u =>
        obtain ⟨v, H', os, bare, un, ok', rv, ev⟩ := z
        have ev : v = .bl true := ev
        subst ev
        obtain rfl : u = Value.bool true := rv
        refine ⟨rfl, OldK.of_keep ?_, os, bare⟩
        intro b o z
        cases q : H b with
        | none => exact un.keep b o z q (fun y => absurd (show b ∈ ([] : List Addr) from y) (by simp)) (by simp)
        | some u =>
          rcases only b with y | ⟨ob, xs, y⟩
          · rw [q] at y
            cases y
          · obtain ⟨w1, _⟩ := ok b _ y
            obtain ⟨w2, _⟩ := ok' b _ (un.frzs b ob _ y)
            rw [z] at w1
            cases w1
            exact w2
  cases q : K.lookup a with
  | some o =>
    have z := KX a o q
    rw [obj] at z
    cases z
    refine main (fun _ => none) (fun _ => .inl rfl) (.inr ⟨_, vs.toArray, _, q, rfl, rfl, rfl, by rw [List.size_toArray, count]; exact small, by simpa using rel⟩) ?_ (fun b y => absurd rfl y) (fun y => absurd rfl y)
    intro b u y
    cases (show (none : Option HO) = some u from y)
  | none =>
    let H0 : Hp := fun b => if b = a then some (.frz { cls := .type "list", data := .seq vs.toArray } (.lst (ns.map V.int))) else none
    have at0 : H0 a = some (.frz { cls := .type "list", data := .seq vs.toArray } (.lst (ns.map V.int))) := if_pos rfl
    have off0 : ∀ b, b ≠ a → H0 b = none := fun b hb => if_neg hb
    refine main H0 (fun b => ?_) (.inl (.inr ⟨_, at0⟩)) (fun b u y => ?_) (fun b y => ?_) (fun _ => q)
    · by_cases hb : b = a
      · subst hb
        exact .inr ⟨_, _, at0⟩
      · exact .inl (off0 b hb)
    · by_cases hb : b = a
      · subst hb
        rw [at0] at y
        cases y
        exact ⟨obj, by rw [List.length_map]; exact small, vs, _, rel, obj⟩
      · rw [off0 b hb] at y
        cases y
    · by_cases hb : b = a
      · exact hb
      · exact absurd (off0 b hb) y

/-- the goal that k_head leaves, from the law's promise -/
theorem walkG {l : PySem.W.OpenLaw} {n k : Nat} {q : Program} {loose : List Str} {XP : (Str → Option Value) → Heap → Prop} {YP : World → Heap → Prop} {d : DefRec}
    {K : Params → PySem.W.Frag} {sp : World → Sp} {x : Str} (hn : l.most = some n) (hn2 : n ≤ sizeLine) (hdf : d.params.defaults = []) (hr : Room k callerA)
    (hY : ∀ (w : World) (h : Heap), YP w h → (K w.params).In h)
    (F : ∀ (w : World) (mg : Str → Option Value) (fa : Addr) (h : Heap), (K w.params).In h → h.Ns mainGlobals mg → mg d.name = some (.ref fa) →
      ∃ fd : FuncData, (∀ (s : Shared) (u : Value), BindsTo s fd ⟨[u], []⟩ [(x, u)]) ∧
        ∀ base : Heap, (K w.params).In base → base.Ns mainGlobals mg → FnG l.prog w (K w.params) mg base k fa fd [x] (sp w))
    (want : ∀ (w : World) (H : Hp) (a : Addr) (ns : List Int), ns.length ≤ n → Only H → SqL (K w.params) H a (ns.map V.int) → sp w [.ref a] H (fun v _ => v = .bl true) E0) :
    PySem.W.WalkO q loose XP YP l.row.toRowW d [] (fun f vs => PySem.call f vs) := by
  refine Att.attach_call hn hdf ?_
  intro w s0 s1 mg mb fa o pm cd doc a vs ns G Y ho hd hcd hmg obj areInts len gens
  obtain ⟨fd, bind, hF⟩ := F w mg fa _ (hY w _ Y) G.T.g hmg
  exact endG (hY w _ Y) G.T.g G.T.b G.T.builtins G.T.nolimit gens obj areInts (Nat.le_trans len hn2) hr hF bind (fun H hO hS => want w H a ns len hO hS)
end Sw

set_option Elab.async false
set_option linter.all false
set_option maxRecDepth 100000
set_option maxHeartbeats 4000000
/-! enumerate over a tuple; sorted of data. -/
namespace Sw
open PySem PySem.Spec PyProof.Rows L2

theorem meets_enumerate_newT (l : Addr) (items : Array Value) (n : Nat) (dct : Option Addr) (sl : Array (Option Value)) :
    Meets (Builtin.«enumerate.__new__» ⟨[.type "enumerate", .ref l], []⟩) (fun _ R s => s.heap.get? l = some { cls := .type "tuple", dict := dct, data := .seq items n, slots := sl } ∧
      R (.ok (.ret (.ref (s.heap.push { cls := .type "tuple_iterator", data := .fields #[.ref l, .int 0 0] }).objs.size)))
        { s with heap := (s.heap.push { cls := .type "tuple_iterator", data := .fields #[.ref l, .int 0 0] }).push { cls := .type "enumerate", data := .fields #[.none, .bool false, .ref s.heap.objs.size, rawInt 0, .none, .none] } }) :=
  .of_wp fun prog w A R s h => by
    obtain ⟨hp, g, d, tk, os⟩ := s; obtain ⟨hl, h⟩ := h
    have hsub := sub_enumerate
    have hL : Heap.IsTuple (Shared.heap ⟨hp, g, d, tk, os⟩) l items := ⟨_, hl, rfl, n, rfl⟩
    wp_walk using wpAny_loadPart' hl
    refine wpAny_stack_any fun st => wpAny_pure ?_
    split
    · rename_i c _ _ _ _ _
      cases (c == Value.type "enumerate")
      · wp_walk using wpAny_loadPart' hl, wpAny_pyIter_tuple hL
        exact ⟨_, rfl, h⟩
      · wp_walk using wpAny_loadPart' hl, wpAny_pyIter_tuple hL
        exact ⟨_, rfl, h⟩
    · wp_walk using wpAny_loadPart' hl, wpAny_pyIter_tuple hL
      exact ⟨_, rfl, h⟩

section
variable {prog : Program} {w : World} {A : Around} {E : Value → Shared → Prop} {s : Shared}
theorem call_enumerate_tup {l : Addr} {items : Array Value} {Q : Value → Shared → Prop}
    (hL : s.heap.IsTuple l items)
    (h : ∀ h', IsEnum h' (s.heap.objs.size + 1) s.heap.objs.size 0 .none → h'.IsTupleIter s.heap.objs.size l 0 → h'.objs.size = s.heap.objs.size + 2 →
      (∀ b o, s.heap.get? b = some o → h'.get? b = some o) → Q (.ref (s.heap.objs.size + 1)) { s with heap := h' }) :
    wpAny (model prog w) A (call (.type "enumerate") [.ref l]) Q E s := by
  obtain ⟨⟨cl, dct, dat, sl⟩, hl, hc, n, hd⟩ := hL
  cases hc
  cases hd
  refine callType_new F.called_enumerate (by decide) (F.typeCall_enumerate_1 _) (F.newCall_enumerate_1 _) (fun obj => F.args_object_init_2 obj _) F.entry_enumerate_new
    (meets_enumerate_newT l items n dct sl) ⟨hl, ?_⟩
  have hz : (s.heap.push { cls := .type "tuple_iterator", data := .fields #[.ref l, .int 0 0] }).objs.size = s.heap.objs.size + 1 := Heap.size_push ..
  show _ ∧ _
  rw [hz]
  have he : IsEnum ((s.heap.push { cls := .type "tuple_iterator", data := .fields #[.ref l, .int 0 0] }).push
      { cls := .type "enumerate", data := .fields #[.none, .bool false, .ref s.heap.objs.size, rawInt 0, .none, .none] }) (s.heap.objs.size + 1) s.heap.objs.size 0 .none := by
    have := Heap.get?_push_size (s.heap.push { cls := .type "tuple_iterator", data := .fields #[.ref l, .int 0 0] })
      (o := { cls := .type "enumerate", data := .fields #[.none, .bool false, .ref s.heap.objs.size, rawInt 0, .none, .none] }) rfl
    rw [hz] at this; exact this
  refine ⟨⟨_, he, rfl⟩, h _ he ⟨_, Heap.get?_push_of_some _ (Heap.get?_push_size _ rfl), rfl, rfl⟩ (by rw [Heap.size_push, hz]) fun b o x => Heap.get?_push_of_some _ (Heap.get?_push_of_some _ x)⟩
theorem pyNext_enumT_end {e it l : Addr} {i : Nat} {items : Array Value} {old : Value} {Q : Option Value → Shared → Prop} (hh : A.handled = none)
    (he : IsEnum s.heap e it i old) (hit : s.heap.IsTupleIter it l i) (hl : s.heap.IsTuple l items) (hx : items[i]? = none)
    (hQ : ∀ h', Heap.ExtBut it s.heap h' → Q none { s with heap := h' }) : wpAny (model prog w) A (pyNext (.ref e)) Q E s := by
  have hT : s.TypeIs (.ref e) "enumerate" := ⟨_, he, rfl⟩
  unfold pyNext
  refine wpAny_bind (wpAny_attempt (wpAny_callSpecial?_slot (name := Str.ofString "__next__") hT F.slot_enumerate_next
    (wpAny_call_entry F.slot_enumerate_next hT F.entry_enumerate_next ?_ (F.args_enumerate_next_1 _))))
  show wpAny _ _ (field (.ref e) 2 >>= _) _ _ _
  refine wpAny_bind (wpAny_field he rfl (x := .ref it) rfl ?_)
  refine wpAny_bind (wpAny_nextOf_tuple_end (A := A.in1) hh hit hl hx fun h' x he' hx' => ?_)
  obtain ⟨o, ho, hc⟩ := hx'
  refine wpAny_bind (wpAny_isInstance (T := "StopIteration") (b := true) ⟨o, ho, hc⟩ isSubtype_stop ?_)
  exact wpAny_pure (hQ _ he')
end

/-- the tuple at a as it stands at each turn, each item in a new pair -/
def IteT (K : PySem.W.Frag) (a : Addr) : It :=
  ⟨fun i H => ∃ (xs : List V) (x : V), SqT K H a xs ∧ xs[i]? = some x, fun i H v H' => ∃ T x, v = .ref T ∧ H T = none ∧ H' = upd H T (.tup [.int (i : Nat), x]) ∧ ∀ xs, SqT K H a xs → xs[i]? = some x, fun i H => ∃ xs : List V, SqT K H a xs ∧ xs.length ≤ i⟩
theorem turn_enumT {P : Program} {w : World} {K : PySem.W.Frag} {elts : List Expr} {kk : Nat} {tpos : Pos} (a e it : Addr) (hai : a ≠ it) (hae : a ≠ e) :
    Turn P w K (.Tuple elts kk tpos) (IteT K a) [e, it] e (fun i h => (∃ old, IsEnum h e it ((i : Nat) : Int) old) ∧ h.IsTupleIter it a i ∧ e ≠ it) where
  mem := by simp
  obj := fun i h st b hb => by
    obtain ⟨⟨old, he⟩, ⟨o, ho, hc, hd⟩, _⟩ := st
    have e' : b = e ∨ b = it := by simpa using hb
    rcases e' with z | z
    · rw [z]; exact ⟨_, he, fun v q => nomatch q⟩
    · rw [z]; exact ⟨o, ho, fun v q => by rw [hd] at q; cases q⟩
  keep := fun i h h' st k => let ⟨⟨old, he⟩, hi, hne⟩ := st; ⟨⟨old, k e (by simp) _ he⟩, hi.at fun o q => k it (by simp) o q, hne⟩
  item := by
    intro X hP hw hK hc i pins s σ H E I hf st hg
    subst hP hw hK
    obtain ⟨⟨old, he⟩, hit, hne⟩ := st
    obtain ⟨xs, x, hq, hx⟩ := hg
    obtain ⟨its, rv, p, hz⟩ := I.tuple hq
    obtain ⟨u, hu, ru⟩ := rv.get hx
    have hel : e < s.heap.objs.size := Heap.lt_size he
    have hil : it < s.heap.objs.size := by obtain ⟨_, q, _⟩ := hit; exact Heap.lt_size q
    have il : i < its.toArray.size := by
      have := List.getElem?_eq_some_iff.mp hu
      simpa using this.1
    have D : Draws X.prog X.w X.A.in1 it [it, a] its.toArray.size (fun i v => its.toArray[i]? = some v) (fun i h => h.IsTupleIter it a i ∧ h.IsTuple a its.toArray) :=
      Draws.tuple (A := X.A.in1) (show X.A.in1.handled = none from I.ok.hd hc) it a hai its.toArray
    refine wpAny_pyNext_enum_itemD D he ⟨hit, p⟩ il hne (by simp [hne, hae.symm]) fun x' h' tk hPx ho ⟨hit', _⟩ hT hsz hk => ?_
    have ex : u = x' := by
      have h1 : its.toArray[i]? = some u := by simpa using hu
      rw [h1] at hPx
      exact Option.some.inj hPx
    subst ex
    refine ⟨_, rfl, wpAny_letOwnedTupleGo_enum (s := { s with heap := h', toks := tk + 1 }) ho fun h'' he' sb => ?_⟩
    have hT2 : h''.get? s.heap.objs.size = some { cls := .type "tuple", data := .seq #[.int i tk, u] } := (sb.2 _ (Nat.ne_of_gt hel)).trans hT
    have new : ObjOk X.prog X.w (upd H s.heap.objs.size (.tup [.int (i : Nat), x])) h'' s.heap.objs.size (.tup [.int (i : Nat), x]) :=
      ⟨by show 2 ≤ sizeLine; decide, [.int i tk, u], .cons ⟨_, rfl⟩ (.cons ru .nil), ⟨_, hT2, rfl, _, rfl⟩⟩
    have I1 : Inv X pins σ (upd H s.heap.objs.size (.tup [.int (i : Nat), x])) { s with heap := h'', toks := tk + 1 } :=
      I.turnedNew (t' := tk + 1) (ch := [e, it]) (fun b ob hb q => (sb.2 b (fun z => hb (by simp [z]))).trans (hk b ob (fun z => hb (by simp [z])) (fun z => hb (by simp [z])) q)) hf (Nat.le_refl _) new
    refine ⟨.ref s.heap.objs.size, _, I1, rfl, ⟨_, x, rfl, I.hok.fresh (Nat.le_refl _), rfl, fun ys hy => by rw [I.tuple_inj hy hq]; exact hx⟩, ⟨⟨u, ?_⟩, hit'.at fun o q => (sb.2 it (Ne.symm hne)).trans q, hne⟩, fun b hb => ?_⟩
    · have e1 : ((i + 1 : Nat) : Int) = (i : Int) + 1 := by omega
      rw [e1]; exact he'
    · have hb' : b < s.heap.objs.size := by
        have e' : b = e ∨ b = it := by simpa using hb
        rcases e' with z | z
        · rw [z]; exact hel
        · rw [z]; exact hil
      rw [upd_ne (Nat.ne_of_lt hb')]
      exact (hf b hb).1
  done := by
    intro X hP hw hK hc i pins s σ H E I hf st hg
    subst hP hw hK
    obtain ⟨⟨old, he⟩, hit, hne⟩ := st
    obtain ⟨xs, hq, hx⟩ := hg
    obtain ⟨its, rv, p, hz⟩ := I.tuple hq
    have l1 := rv.length
    have ei : its.toArray[i]? = none := by simp; omega
    obtain ⟨f0, f1, f2, f3, f4, f5⟩ := hf it (by simp)
    exact pyNext_enumT_end (I.ok.hd hc) he hit p ei fun h' eb => ⟨rfl, I.turned (t' := s.toks) (fun b o hb q => eb b o hb q) f0 f1 f3 f4 f5⟩
  self := fun A i s Q E st h => let ⟨⟨_, he⟩, _⟩ := st; wpAny_pyIter_enum he h
def iEnumT (K : PySem.W.Frag) (ta : TA) : TI := fun σ H R => ta σ H fun vs H1 => ∃ a xs, vs = [.ref a] ∧ SqT K H1 a xs ∧ R (IteT K a) H1
theorem pi_enumT {X : Cx} {e : Expr} {ta : TA} {p pos tpos : Pos} {elts : List Expr} {kk : Nat} (hg : Gl X "enumerate") (hm : X.mg "enumerate" = none) (ha : PA X [e] ta) (hs : starEach [e] X.env = [(false, eval e X.env)] := by rfl) :
    PI X (.Tuple elts kk tpos) (.Call (.Name "enumerate" p) [e] [] pos) (iEnumT X.K ta) := by
  refine ⟨fun pins s σ H R I h => ?_⟩
  refine Call_ (ld_blt I hg hm boot_enumerate (PyProof.Rows.callWith_type1 (thn (ha.run pos pins s σ H _ I h) fun us s1 ⟨vs, H1, I1, r1, q1⟩ => ?_) hs rfl))
  obtain ⟨a, xs, ex, hq, q⟩ := q1
  subst ex
  cases r1 with
  | cons r rr =>
    cases rr
    cases r
    obtain ⟨its, rv, p', hz⟩ := I1.tuple hq
    obtain ⟨oa, hoa, _⟩ := id p'
    have la := Heap.lt_size hoa
    refine call_enumerate_tup p' fun h' he hit hsz hk => wpAny_pyIter_enum he ?_
    have I2 : Inv X pins σ H1 { s1 with heap := h' } := I1.kept (t' := s1.toks) hk
    refine ⟨s1.heap.objs.size + 1, [s1.heap.objs.size + 1, s1.heap.objs.size], _, _, H1, rfl, I2, turn_enumT a (s1.heap.objs.size + 1) s1.heap.objs.size (Nat.ne_of_lt la) (Nat.ne_of_lt (Nat.lt_succ_of_lt la)), ⟨⟨.none, he⟩, hit, Nat.succ_ne_self _⟩, fun b hb => ?_, q⟩
    have e' : b = s1.heap.objs.size + 1 ∨ b = s1.heap.objs.size := by simpa using hb
    have hle : s1.heap.objs.size ≤ b := by
      rcases e' with z | z
      · rw [z]; exact Nat.le_add_right _ _
      · rw [z]; exact Nat.le_refl _
    exact I1.fpOk hle (I1.hok.fresh hle)
/-- a loop over enumerate of a tuple -/
theorem for_enumT {K : PySem.W.Frag} {a : Addr} {xs : List V} {g : TG} {tb : TS} {D : Ends} {σ : L2.St} {H : Hp} (Pv : Nat → L2.St → Hp → Prop) (h0 : Pv 0 σ H) (hq : ∀ i σ H, Pv i σ H → SqT K H a xs)
    (hs : ∀ (i : Nat) (x : V) (T : Addr) (σ : L2.St) (H : Hp), xs[i]? = some x → Pv i σ H → H T = none → g (.ref T) σ (upd H T (.tup [.int (i : Nat), x])) fun σ2 H2 => tb { D with nx := Pv (i + 1), ct := Pv (i + 1), bk := D.nx } σ2 H2) (hd : ∀ σ H, Pv xs.length σ H → D.nx σ H) :
    ∃ W : Nat → Nat → L2.St → Hp → Prop, (∃ m, W 0 m σ H) ∧ ∀ i m σ H, W i m σ H →
      ((IteT K a).stop i H ∧ D.nx σ H) ∨ ((IteT K a).go i H ∧ ∃ N : L2.St → Hp → Prop, (∀ σ' H', N σ' H' → ∃ m', m' < m ∧ W (i + 1) m' σ' H') ∧ ∀ v H', (IteT K a).yld i H v H' → g v σ H' fun σ2 H2 => tb { D with nx := N, ct := N, bk := D.nx } σ2 H2) := by
  refine ⟨fun i m σ H => m = xs.length - i ∧ i ≤ xs.length ∧ Pv i σ H, ⟨xs.length, rfl, Nat.zero_le _, h0⟩, ?_⟩
  rintro i m σ H ⟨rfl, hi, p⟩
  have qx := hq i σ H p
  by_cases hlt : i < xs.length
  · have hx : xs[i]? = some xs[i] := List.getElem?_eq_getElem hlt
    refine .inr ⟨⟨xs, _, qx, hx⟩, Pv (i + 1), fun σ' H' z => ⟨xs.length - (i + 1), by omega, rfl, by omega, z⟩, ?_⟩
    rintro v H' ⟨T, x, rfl, nT, rfl, hx'⟩
    exact hs i x T σ H (hx' xs qx) p nT
  · have e : i = xs.length := by omega
    subst e
    exact .inl ⟨⟨xs, qx, Nat.le_refl _⟩, hd σ H p⟩

/-! ### sorted of data -/
theorem EachIs.vals {β : Type} : ∀ {out : List Value} {bs : List (V × β)}, PySem.W.EachIs (fun v (b : V × β) => RelV b.1 v) out bs → Vals (bs.map (·.1)) out
  | _, _, .nil => .nil
  | _, _, .cons h t => .cons h (EachIs.vals t)
theorem each_of {β : Type} {R : Value → β → Prop} : ∀ {vs : List V} {us : List Value} {bs : List β} {f : β → V}, Vals vs us → vs = bs.map f → (∀ b ∈ bs, ∀ u, RelV (f b) u → R u b) → PySem.W.EachIs R us bs
  | _, _, [], f, r, e, h => by subst e; cases r; exact .nil
  | _, _, b :: bs, f, r, e, h => by
    subst e
    cases r with
    | cons r1 r2 => exact .cons (h b (.head _) _ r1) (each_of r2 rfl fun b' m => h b' (.tail _ m))

/-- sorted(xs), xs of data that compare: a new list -/
def rSortD (K : PySem.W.Frag) : List V → Hp → VK → Prop := fun vs H Q => ∃ (a : Addr) (bs : List (V × PyData)), vs = [.ref a] ∧ SqL K H a (bs.map (·.1)) ∧ (∀ b ∈ bs, Dp K H b.1 b.2) ∧
  PySem.W.AllAlike (bs.map (·.2)) ∧ PySem.W.Sortable (bs.map (·.2)) ∧ (∀ b ∈ bs, b.2.depth ≤ 60) ∧
  ∀ p, H p = none → Q (.ref p) (upd H p (.lst ((bs.mergeSort (PySem.W.dataLe false fun b => b.2)).map (·.1))))
theorem call_sortD {X : Cx} (hu : X.A.units + 64 < cLine) : CallR X (.builtin "sorted") (rSortD X.K) := by
  intro pins s σ H vs us Q I r h
  obtain ⟨a, bs, rfl, hs, hd, hal, hk, hdp, q⟩ := h
  obtain ⟨u, rfl, ru⟩ := vals1 r
  obtain rfl : u = Value.ref a := ru
  obtain ⟨its, rv, hl, hz⟩ := I.list hs
  have lb : its.length = bs.length := by rw [← rv.length, List.length_map]
  have e1 : PySem.W.EachIs (fun v (b : V × PyData) => RelV b.1 v) its bs := each_of (f := fun b => b.1) rv rfl fun _ _ _ z => z
  have e2 : PySem.W.EachIs (fun v (b : V × PyData) => ∃ as, Reads s.heap v b.2 as) its bs := each_of (f := fun b => b.1) rv rfl fun b m u z => Dp.reads I b.2 b.1 u (hd b m) z
  refine PySem.W.sorted_data (enc := fun b : V × PyData => b.2) hl.isList e1 e2 hal hk (by rw [← lb, ← rv.length]; exact hz) (fun b m => by have := hdp b m; omega) fun out ho eo => ?_
  obtain ⟨c, hc⟩ := PyProof.Rows.sortedAll_at s.heap its out.toArray
  have rel : Vals ((bs.mergeSort (PySem.W.dataLe false fun b : V × PyData => b.2)).map (·.1)) out := EachIs.vals eo
  refine ⟨.ref (s.heap.objs.size + 1), _, I.laid (t' := s.toks) (o := .lst ((bs.mergeSort (PySem.W.dataLe false fun b : V × PyData => b.2)).map (·.1))) (fun b o z => sortedAll_old z) (Nat.le_succ _) ⟨?_, out, c, rel, hc⟩, rfl, q _ (I.hok.fresh (Nat.le_succ _))⟩
  rw [rel.length, ho, ← lb, ← rv.length]
  exact hz
/-- the data of a sorted list of pairs of a value and its data -/
theorem mergeSort_snd (bs : List (V × PyData)) :
    ((bs.mergeSort (PySem.W.dataLe false fun b => b.2)).map (·.2)) = (bs.map (·.2)).mergeSort (PySem.W.dataLe false fun d => d) := by
  rw [List.map_mergeSort]
  intro a _ b _
  rfl
end Sw

set_option Elab.async false
set_option linter.all false
set_option maxRecDepth 100000
set_option maxHeartbeats 4000000
/-! texts sign by sign; comprehensions of two clauses; a starred text; sorted texts. -/
namespace Sw
open PySem PySem.Spec PyProof.Rows L2

/-- the signs of a text, each as a text -/
def chars (z : Str) : List Str := z.cps.toList.map fun c => ⟨#[c]⟩
theorem chars_len (z : Str) : (chars z).length = z.cps.size := by
  unfold chars
  rw [List.length_map, Array.length_toList]
theorem chars_at {z : Str} {i c : Nat} (h : z.cps[i]? = some c) : (chars z)[i]? = some ⟨#[c]⟩ := by
  unfold chars
  rw [List.getElem?_map, Array.getElem?_toList, h]
  rfl
theorem walk_chars {z : Str} : Walk (Its z) (chars z).length (fun _ => True) (fun i H v H' => H' = H ∧ ∃ c, (chars z)[i]? = some c ∧ v = .str c) := by
  rw [chars_len]
  refine walk_str.mono (fun _ z => z) ?_
  rintro i H x H' _ _ ⟨e, c, h1, h2⟩
  exact ⟨e, _, chars_at h1, h2⟩

theorem vals_at : ∀ {xs : List V} {us : List Value}, xs.length = us.length → (∀ (i : Nat) (x : V) (u : Value), xs[i]? = some x → us[i]? = some u → RelV x u) → Vals xs us
  | [], [], _, _ => .nil
  | [], _ :: _, h, _ => by cases h
  | _ :: _, [], h, _ => by cases h
  | x :: xs, u :: us, h, q => .cons (q 0 x u rfl rfl) (vals_at (by simpa using h) fun i x' u' h1 h2 => q (i + 1) x' u' (by simpa using h1) (by simpa using h2))
theorem items_vals {x : Str} {acc : Array Value} (h : ItemsOf (SignAt x) acc x.cps.size) : Vals ((chars x).map V.str) acc.toList := by
  obtain ⟨hs, hi⟩ := h
  refine vals_at (by rw [List.length_map, chars_len, Array.length_toList, hs]) fun i v u h1 h2 => ?_
  have h3 : acc[i]? = some u := by rw [← Array.getElem?_toList]; exact h2
  obtain ⟨c, t, e1, e2⟩ := hi i u h3
  subst e2
  rw [List.getElem?_map, chars_at e1] at h1
  cases h1
  exact ⟨t, rfl⟩

section
variable {X : Cx} {pins : List (Addr × Obj)} {σ : L2.St} {H : Hp} {s : Shared}
theorem star_str (hc : X.calm = true) {x : Str} {t : Tok} {E : Value → Shared → Prop} {Q : List Value → Shared → Prop} (I : Inv X pins σ H s) (hn : x.cps.size ≤ sizeLine)
    (hQ : ∀ us s', Inv X pins σ H s' → Vals ((chars x).map V.str) us → Q us s') : PySem.W.StarOf (model X.prog X.w) X.A E (.str x t) Q s := by
  have z : wpAny (model X.prog X.w) X.A (collect (.str x t)) Q E s := by
    refine wpAny_collect_str (I.ok.hd hc) x t (fun s' acc hk hg hdr ho hi => ?_) hn
    obtain ⟨h', g', d', t', o'⟩ := s'
    cases hg
    cases hdr
    cases ho
    exact hQ _ _ (I.kept (t' := t') hk) (items_vals hi)
  unfold PySem.W.StarOf notIterableAtAll
  exact wpAny_bind (wpAny_specialOf (T := "str") (v := .str x t) rfl PySem.F.slot_str_iter.lookup (wpAny_pure ⟨rfl, z⟩))
/-- *e, .. where e is a text -/
def tStarS (te : TE) (t : TA) : TA := fun σ H Q => te σ H fun x H1 => ∃ z, x = .str z ∧ z.cps.size ≤ sizeLine ∧ t σ H1 fun ys H2 => Q ((chars z).map V.str ++ ys) H2
theorem pa_starS {e : Expr} {es : List Expr} {te : TE} {t : TA} {p : Pos} (hc : X.calm = true) (he : PE X e te) (hr : PA X es t) (hs : starEach (.Starred e p :: es) X.env = (true, eval e X.env) :: starEach es X.env := by rfl) : PA X (.Starred e p :: es) (tStarS te t) := by
  refine ⟨fun pos pins s σ H Q I h => ?_⟩
  refine PySem.W.items_star (thn (he.run pins s σ H _ I h) fun v s1 ⟨y, H1, I1, ry, x, ey, hx, q⟩ => ?_) hs
  subst ey
  obtain ⟨t', rfl⟩ := ry
  refine star_str hc I1 hx fun us s2 I2 rv => ?_
  exact thn (hr.run pos pins s2 σ H1 _ I2 q) fun ws s3 ⟨vs, H3, I3, r3, q3⟩ => ⟨_, H3, I3, rv.append r3, q3⟩
end

/-! ### comprehensions of two clauses -/
section
variable {J J1 : It} {n n1 : Nat} {G G1 : Hp → Prop} {Y Y1 : Nat → Hp → V → Hp → Prop}
theorem lc2_in (w : Walk J1 n1 G1 Y1) {g1 : TG} {tt1 : TT} {te : TE} {vs1 : List Nat} {σ2 : L2.St} {H4 : Hp} {D : Addr} {Nx : Hp → Prop} (Pv : Nat → Hp → Prop) (h0 : Pv 0 H4) (hG : ∀ i H, i ≤ n1 → Pv i H → G1 H)
    (hs : ∀ i x H H', i < n1 → Pv i H → Y1 i H x H' → g1 x (wipe σ2 vs1) H' fun σ3 H5 => wipe σ3 vs1 = wipe σ2 vs1 ∧ tt1 σ3 H5 fun b H6 =>
      if b = true then te σ3 H6 fun y H7 => ∃ acc, H7 D = some (.lst acc) ∧ acc.length < sizeLine ∧ Pv (i + 1) (upd H7 D (.lst (acc ++ [y]))) else Pv (i + 1) H6) (hd : ∀ H, Pv n1 H → Nx H) :
    ∃ W1 : Nat → Nat → Hp → Prop, (∃ m, W1 0 m H4) ∧ ∀ j k H, W1 j k H →
      (J1.stop j H ∧ Nx H) ∨ (J1.go j H ∧ ∃ Nx1 : Hp → Prop, (∀ H', Nx1 H' → ∃ k', k' < k ∧ W1 (j + 1) k' H') ∧ ∀ x H', J1.yld j H x H' → g1 x (wipe σ2 vs1) H' fun σ3 H5 => wipe σ3 vs1 = wipe σ2 vs1 ∧ tt1 σ3 H5 fun b H6 =>
        if b = true then te σ3 H6 fun y H7 => ∃ acc, H7 D = some (.lst acc) ∧ acc.length < sizeLine ∧ Nx1 (upd H7 D (.lst (acc ++ [y]))) else Nx1 H6) := by
  refine ⟨fun i m H => m = n1 - i ∧ i ≤ n1 ∧ Pv i H, ⟨n1, by simp, Nat.zero_le _, h0⟩, ?_⟩
  rintro i m H ⟨rfl, hi, p⟩
  have q := hG i H hi p
  by_cases hlt : i < n1
  · refine .inr ⟨w.goes i H hlt q, Pv (i + 1), fun H' p' => ⟨n1 - (i + 1), by omega, rfl, hlt, p'⟩, fun x H' y => hs i x H H' hlt p (w.yields i H x H' hlt q y)⟩
  · have e : i = n1 := by omega
    subst e
    exact .inl ⟨w.stops H q, hd H p⟩
theorem lc2_out (w : Walk J n G Y) {wi1 : TI} {g g1 : TG} {tt tt1 : TT} {te : TE} {vs vs1 : List Nat} {σ : L2.St} {H1 : Hp} {D : Addr} {Qd : Hp → Prop} (Pv : Nat → Hp → Prop) (h0 : Pv 0 (upd H1 D (.lst []))) (hG : ∀ i H, i ≤ n → Pv i H → G H)
    (hs : ∀ i x H H', i < n → Pv i H → Y i H x H' → g x (wipe σ vs) H' fun σ2 H2 => wipe σ2 vs = wipe σ vs ∧ tt σ2 H2 fun b H3 =>
      if b = true then wi1 σ2 H3 fun J1 H4 => ∃ W1 : Nat → Nat → Hp → Prop, (∃ m, W1 0 m H4) ∧ ∀ j k H, W1 j k H →
        (J1.stop j H ∧ Pv (i + 1) H) ∨ (J1.go j H ∧ ∃ Nx1 : Hp → Prop, (∀ H', Nx1 H' → ∃ k', k' < k ∧ W1 (j + 1) k' H') ∧ ∀ x H', J1.yld j H x H' → g1 x (wipe σ2 vs1) H' fun σ3 H5 => wipe σ3 vs1 = wipe σ2 vs1 ∧ tt1 σ3 H5 fun b H6 =>
          if b = true then te σ3 H6 fun y H7 => ∃ acc, H7 D = some (.lst acc) ∧ acc.length < sizeLine ∧ Nx1 (upd H7 D (.lst (acc ++ [y]))) else Nx1 H6)
      else Pv (i + 1) H3) (hd : ∀ H, Pv n H → Qd H) :
    ∃ W : Nat → Nat → Hp → Prop, (∃ m, W 0 m (upd H1 D (.lst []))) ∧ ∀ i m H, W i m H →
      (J.stop i H ∧ Qd H) ∨ (J.go i H ∧ ∃ Nx : Hp → Prop, (∀ H', Nx H' → ∃ m', m' < m ∧ W (i + 1) m' H') ∧ ∀ x H', J.yld i H x H' → g x (wipe σ vs) H' fun σ2 H2 => wipe σ2 vs = wipe σ vs ∧ tt σ2 H2 fun b H3 =>
        if b = true then wi1 σ2 H3 fun J1 H4 => ∃ W1 : Nat → Nat → Hp → Prop, (∃ m, W1 0 m H4) ∧ ∀ j k H, W1 j k H →
          (J1.stop j H ∧ Nx H) ∨ (J1.go j H ∧ ∃ Nx1 : Hp → Prop, (∀ H', Nx1 H' → ∃ k', k' < k ∧ W1 (j + 1) k' H') ∧ ∀ x H', J1.yld j H x H' → g1 x (wipe σ2 vs1) H' fun σ3 H5 => wipe σ3 vs1 = wipe σ2 vs1 ∧ tt1 σ3 H5 fun b H6 =>
            if b = true then te σ3 H6 fun y H7 => ∃ acc, H7 D = some (.lst acc) ∧ acc.length < sizeLine ∧ Nx1 (upd H7 D (.lst (acc ++ [y]))) else Nx1 H6)
        else Nx H3) := by
  refine ⟨fun i m H => m = n - i ∧ i ≤ n ∧ Pv i H, ⟨n, by simp, Nat.zero_le _, h0⟩, ?_⟩
  rintro i m H ⟨rfl, hi, p⟩
  have q := hG i H hi p
  by_cases hlt : i < n
  · refine .inr ⟨w.goes i H hlt q, Pv (i + 1), fun H' p' => ⟨n - (i + 1), by omega, rfl, hlt, p'⟩, fun x H' y => hs i x H H' hlt p (w.yields i H x H' hlt q y)⟩
  · have e : i = n := by omega
    subst e
    exact .inl ⟨w.stops H q, hd H p⟩
end

/-! ### sorted texts -/
def strLe (x y : Str) : Bool := decide (x.cps.toList ≤ y.cps.toList)
def rSortS (K : PySem.W.Frag) : List V → Hp → VK → Prop := fun vs H Q => ∃ (a : Addr) (xs : List Str), vs = [.ref a] ∧ SqL K H a (xs.map V.str) ∧
  ∀ p, H p = none → Q (.ref p) (upd H p (.lst ((xs.mergeSort strLe).map V.str)))
theorem call_sortS {X : Cx} (hu : X.A.units + 64 < cLine) : CallR X (.builtin "sorted") (rSortS X.K) := by
  intro pins s σ H vs us Q I r h
  obtain ⟨a, xs, rfl, hs, q⟩ := h
  refine call_sortD hu pins s σ H _ us Q I r ⟨a, xs.map fun x => (V.str x, PyData.str x), rfl, ?_, ?_, ?_, ?_, ?_, ?_⟩
  · rw [List.map_map]; exact hs
  · intro b hb
    obtain ⟨x, _, rfl⟩ := List.mem_map.mp hb
    exact .str x
  · rw [List.map_map]
    exact PySem.W.AllAlike.of (enc := fun x : Str => PyData.str x) (bs := xs) fun _ _ => by simp [PySem.W.alike]
  · rw [List.map_map]
    exact PySem.W.Sortable.others (enc := fun x : Str => PyData.str x) (bs := xs) fun _ => ⟨by simp, by simp⟩
  · intro b hb
    obtain ⟨x, _, rfl⟩ := List.mem_map.mp hb
    show PyData.depth (.str x) ≤ 60
    simp [PyData.depth]
  · intro p np
    have e : ((xs.map fun x => (V.str x, PyData.str x)).mergeSort (PySem.W.dataLe false fun b => b.2)).map (·.1) = (xs.mergeSort strLe).map V.str := by
      have h1 : (xs.mergeSort strLe).map (fun x => (V.str x, PyData.str x)) = (xs.map fun x => (V.str x, PyData.str x)).mergeSort (PySem.W.dataLe false fun b => b.2) := by
        refine List.map_mergeSort fun a _ b _ => ?_
        have := congrFun (congrFun (PySem.W.dataLe_str (β := Str) fun x => x) a) b
        exact this.symm
      rw [← h1, List.map_map]
      rfl
    rw [e]
    exact q p np
end Sw

set_option Elab.async false
set_option linter.all false
set_option maxRecDepth 100000
set_option maxHeartbeats 4000000
/-! Rules with the written part named (within a comprehension its name would hold the block's own names); data carried over. -/
namespace Sw
open PySem PySem.Spec PyProof.Rows L2
section
variable {X : Cx}
/-- e.f -/
theorem pe_fldK {e : Expr} {ta : TE} {f : Str} {pos : Pos} (K : PySem.W.Frag) (hK : X.K = K) (he : PE X e ta) (hb : attributeBase e f X.env (eval e X.env) = eval e X.env) : PE X (.Attribute e f pos) (tFld K ta f) := by
  subst hK
  exact pe_fld he hb
theorem pi_listK {tg l : Expr} {tl : TE} (K : PySem.W.Frag) (hK : X.K = K) (hl : PE X l tl) : PI X tg l (iList K tl) := by
  subst hK
  exact pi_list hl
theorem pi_tupK {tg l : Expr} {tl : TE} (K : PySem.W.Frag) (hK : X.K = K) (hl : PE X l tl) : PI X tg l (iTup K tl) := by
  subst hK
  exact pi_tup hl
theorem op_catAK (K : PySem.W.Frag) (hK : X.K = K) : OpR X (binaryOp .Add) (rCatA K) := by
  subst hK
  exact op_catA
def rLenK (K : PySem.W.Frag) : List V → Hp → VK → Prop := fun xs H Q => ∃ p ys, xs = [.ref p] ∧ (SqL K H p ys ∨ SqT K H p ys) ∧ Q (.int (ys.length : Nat)) H
theorem call_lenK (K : PySem.W.Frag) (hK : X.K = K) : CallR X (.builtin "len") (rLenK K) := by
  subst hK
  exact call_len_seq
def rJoinK (K : PySem.W.Frag) : V → List V → Hp → VK → Prop := fun x xs H Q => ∃ a p, ∃ ys : List Str, x = .str a ∧ xs = [.ref p] ∧ (SqL K H p (ys.map V.str) ∨ SqT K H p (ys.map V.str)) ∧
    (ys.map (·.length)).sum + ys.length * a.length ≤ 16777216 ∧ Q (.str (Txt.join a ys)) H
/-- e.join(xs) -/
def tJoin (K : PySem.W.Frag) (to : TE) (t : TA) : TE := fun σ H Q => to σ H fun x H1 => t σ H1 fun xs H2 => (∃ z, x = .str z) ∧ rJoinK K x xs H2 Q
theorem pe_join {o e : Expr} {es : List Expr} {to : TE} {t : TA} {apos cpos : Pos} (K : PySem.W.Frag) (hK : X.K = K) (ho : PE X o to) (ha : PA X (e :: es) t)
    (hbase : attributeBase o "join" X.env (eval o X.env) = eval o X.env := by rfl)
    (hfew : ((backTo cpos (starEach (e :: es) X.env)).all (fun x => !x.1) && (backToKw cpos (keywordEach [] X.env)).all (fun x => x.1.isSome)
      && decide ((e :: es).length + ([] : List Keyword).length + (if ([] : List Keyword).isEmpty then 0 else 1) < 30)) = true := by rfl)
    (hline : (apos.endLine == cpos.line) = true := by rfl) (hs : starEach (e :: es) X.env = (false, eval e X.env) :: starEach es X.env := by rfl) (hplain : (backTo cpos (starEach es X.env)).any (·.1) = false := by rfl) :
    PE X (.Call (.Attribute o "join" apos) (e :: es) [] cpos) (tBM K "str" (rJoinK K) to t) := by
  subst hK
  exact pe_bm PySem.F.plainAttrs_str PySem.F.slot_str_join PySem.F.type_str_join mt_join ho ha hbase hfew hline hs hplain
end
section
variable {K : PySem.W.Frag}
theorem sqt_same {H H' : Hp} {a : Addr} {xs : List V} (e : Same H H') (h : SqT K H a xs) : SqT K H' a xs := by
  rcases h with (h | ⟨o, h⟩) | h
  · exact .inl (.inl (e _ _ h))
  · exact .inl (.inr ⟨o, e _ _ h⟩)
  · exact .inr h
mutual
theorem dat_same {H H' : Hp} (s : Same H H') : ∀ {v : V} {d : PyData}, Dp K H v d → Dp K H' v d
  | _, _, .non => .non
  | _, _, .bl b => .bl b
  | _, _, .int i => .int i
  | _, _, .str x => .str x
  | _, _, .lst h r => .lst (s.seq h) (datA_same s r)
  | _, _, .tup h r => .tup (sqt_same s h) (datA_same s r)
theorem datA_same {H H' : Hp} (s : Same H H') : ∀ {vs : List V} {ds : List PyData}, DpAll K H vs ds → DpAll K H' vs ds
  | _, _, .nil => .nil
  | _, _, .cons h r => .cons (dat_same s h) (datA_same s r)
end
theorem dat_strs {H : Hp} : ∀ xs : List Str, DpAll K H (xs.map V.str) (xs.map PyData.str)
  | [] => .nil
  | x :: xs => .cons (.str x) (dat_strs xs)
theorem dat_pairs {H : Hp} : ∀ bs : List (V × PyData), (∀ b ∈ bs, Dp K H b.1 b.2) → DpAll K H (bs.map (·.1)) (bs.map (·.2))
  | [], _ => .nil
  | b :: bs, h => .cons (h b (.head _)) (dat_pairs bs fun c m => h c (.tail _ m))
theorem dat_len {H : Hp} : ∀ {vs : List V} {ds : List PyData}, DpAll K H vs ds → vs.length = ds.length
  | _, _, .nil => rfl
  | _, _, .cons _ r => by rw [List.length_cons, List.length_cons, dat_len r]
def tupD (ss : List Str) : PyData := .tuple (ss.map .str)
theorem alike_strs : ∀ xs ys : List Str, PySem.W.alikeAll (xs.map .str) (ys.map .str) = true
  | [], _ => by simp [PySem.W.alikeAll]
  | _ :: _, [] => by simp [PySem.W.alikeAll]
  | x :: xs, y :: ys => by
    show PySem.W.alikeAll (.str x :: xs.map .str) (.str y :: ys.map .str) = true
    rw [PySem.W.alikeAll, alike_strs xs ys]
    simp [PySem.W.alike]
theorem alike_tup (xs ys : List Str) : PySem.W.alike (tupD xs) (tupD ys) = true := by
  unfold tupD
  rw [PySem.W.alike]
  exact alike_strs xs ys
theorem depth_strs : ∀ xs : List Str, PyData.depthAll (xs.map .str) = 0
  | [] => by simp [PyData.depthAll]
  | x :: xs => by
    show PyData.depthAll (.str x :: xs.map .str) = 0
    rw [PyData.depthAll, depth_strs xs]
    simp [PyData.depth]
theorem depth_tup (xs : List Str) : (tupD xs).depth ≤ 60 := by
  unfold tupD
  rw [PyData.depth, depth_strs]
  decide
end
end Sw

set_option Elab.async false
set_option linter.all false
set_option maxRecDepth 100000
set_option maxHeartbeats 4000000
/-! Own special methods: in. -/
namespace Sw
open PySem PySem.Spec PyProof.Rows L2
section
variable {X : Cx} {k : Nat} {f C : Addr} {fd : FuncData} {ps : List Str} {sp : Sp}
/-- how such a method stands -/
structure SpM (K : PySem.W.Frag) (C : Addr) (m : Str) (f : Addr) : Prop where
  at_ : PySem.W.findIn K (.ref C) m = some (some (.ref f))
  fn : PySem.W.isFn K (.ref f) = true
theorem contains_own {pins : List (Addr × Obj)} {σ : L2.St} {H : Hp} {s : Shared} {a dx : Addr} {fs : List (Str × V)} {u : Value} {Q : Bool → Shared → Prop} {E : Value → Shared → Prop} (I : Inv X pins σ H s) (ea : H a = some (.ins C dx fs)) (hs : SpM X.K C "__contains__" f)
    (h : wpAny (model X.prog X.w) X.A (call (.ref f) [.ref a, u]) (fun r s' => wpAny (model X.prog X.w) X.A (truthy r) Q E s') E s) : wpAny (model X.prog X.w) X.A (contains (.ref a) u) Q E s := by
  obtain ⟨mA, O, _, _, _, _⟩ := ins_get I.hok ea
  obtain ⟨od, J, _⟩ := O.look
  unfold contains
  refine wpAny_holding (wpAny_bind (wpAny_bind (J.type.here ((PySem.W.looks_findIn I.kIn hs.at_).here ?_))))
  rw [if_neg (by simp)]
  exact wpAny_bind (PySem.W.unlessNone_K I.kIn J hs.at_ hs.fn h)
/-- x in o, by o's own __contains__, which answers by a truth value -/
def rInOwn (C : Addr) (sp : Sp) (g : Bool → Bool) : R2 := fun x y H Q => ∃ a dx fs, y = .ref a ∧ H a = some (.ins C dx fs) ∧ sp [.ref a, x] H (fun v H' => ∃ b, v = .bl b ∧ Q (.bl (g b)) H') E0
theorem op_inOwn (hs : SpM X.K C "__contains__" f) (F : FnOk X.prog X.w X.K X.mg X.base CX0 k f fd ps sp) (hr : Room k X.A) (hb : Binds X.K fd ps []) : OpR X (compareOp .In) (rInOwn C sp fun b => b) := by
  intro pins s σ H x y v u Q I rx ry h
  obtain ⟨a, dx, fs, rfl, ea, h⟩ := h
  obtain rfl : u = Value.ref a := ry
  refine wpAny_bind (contains_own I ea hs ?_)
  refine thn (run_fn (us := [.ref a, v]) (vs := [.ref a, x]) (dvs := []) F hr hb .nil pass0 I (.cons rfl (.cons rx .nil)) h) fun r s1 ⟨z, H1, I1, rz, b, ez, q⟩ => ?_
  subst ez
  obtain rfl : r = Value.bool b := rz
  exact wpAny_truthy_bool (wpAny_pure ⟨.bl b, H1, I1, rfl, q⟩)
theorem op_notInOwn (hs : SpM X.K C "__contains__" f) (F : FnOk X.prog X.w X.K X.mg X.base CX0 k f fd ps sp) (hr : Room k X.A) (hb : Binds X.K fd ps []) : OpR X (compareOp .NotIn) (rInOwn C sp fun b => !b) := by
  intro pins s σ H x y v u Q I rx ry h
  obtain ⟨a, dx, fs, rfl, ea, h⟩ := h
  obtain rfl : u = Value.ref a := ry
  refine wpAny_bind (contains_own I ea hs ?_)
  refine thn (run_fn (us := [.ref a, v]) (vs := [.ref a, x]) (dvs := []) F hr hb .nil pass0 I (.cons rfl (.cons rx .nil)) h) fun r s1 ⟨z, H1, I1, rz, b, ez, q⟩ => ?_
  subst ez
  obtain rfl : r = Value.bool b := rz
  exact wpAny_truthy_bool (wpAny_pure ⟨.bl (!b), H1, I1, rfl, q⟩)
end
end Sw

set_option Elab.async false
set_option linter.all false
set_option maxRecDepth 100000
set_option maxHeartbeats 4000000
/-! Own special methods: len, str, truth by len. -/
namespace Sw
open PySem PySem.Spec PyProof.Rows L2
section
variable {X : Cx} {k : Nat} {f C : Addr} {fd : FuncData} {ps : List Str} {sp : Sp} {pins : List (Addr × Obj)} {σ : L2.St} {H : Hp} {s : Shared} {Q : VK}
/-- the callee runs, one frame deeper -/
theorem run_in1 {us : List Value} {vs : List V} {E : Value → Shared → Prop} (F : FnOk X.prog X.w X.K X.mg X.base CX0 k f fd ps sp) (hr : Room (k + 1) X.A) (hb : Binds X.K fd ps []) (I : Inv X pins σ H s) (r : Vals vs us) (h : sp vs H Q E0) :
    wpAny (model X.prog X.w) X.A.in1 (call (.ref f) us) (EP X pins σ Q) E s := by
  have hl : (us ++ []).length = ps.length := by
    rw [List.append_nil, ← r.length]
    exact F.len _ _ _ _ h
  refine wpAny_call (codeAny_mono (F.run X.A.in1 X.stack s H ⟨us, []⟩ (us ++ []) vs Q E0 hr.in1 I.env0.in1 (hb s us I.kIn hl) (by rw [List.append_nil]; exact r) h) fun r' s' hq => ?_)
  cases r' with
  | error e => exact False.elim hq
  | ok fl =>
    cases fl with
    | ret u => exact I.after hq
    | next => exact False.elim hq
    | brk => exact False.elim hq
    | cont => exact False.elim hq
theorem run_in2 {us : List Value} {vs : List V} {E : Value → Shared → Prop} (F : FnOk X.prog X.w X.K X.mg X.base CX0 k f fd ps sp) (hr : Room (k + 2) X.A) (hb : Binds X.K fd ps []) (I : Inv X pins σ H s) (r : Vals vs us) (h : sp vs H Q E0) :
    wpAny (model X.prog X.w) X.A.in1.in1 (call (.ref f) us) (EP X pins σ Q) E s := by
  have hl : (us ++ []).length = ps.length := by
    rw [List.append_nil, ← r.length]
    exact F.len _ _ _ _ h
  refine wpAny_call (codeAny_mono (F.run X.A.in1.in1 X.stack s H ⟨us, []⟩ (us ++ []) vs Q E0 hr.in1.in1 I.env0.in1.in1 (hb s us I.kIn hl) (by rw [List.append_nil]; exact r) h) fun r' s' hq => ?_)
  cases r' with
  | error e => exact False.elim hq
  | ok fl =>
    cases fl with
    | ret u => exact I.after hq
    | next => exact False.elim hq
    | brk => exact False.elim hq
    | cont => exact False.elim hq
/-- len(o) by o's own __len__ -/
def rLenOwn (C : Addr) (sp : Sp) : List V → Hp → VK → Prop := fun vs H Q => ∃ a dx fs, vs = [.ref a] ∧ H a = some (.ins C dx fs) ∧ sp [.ref a] H (fun v H' => ∃ n : Nat, v = .int (n : Nat) ∧ n < 2 ^ 63 ∧ Q (.int (n : Nat)) H') E0
theorem call_lenOwn (hs : SpM X.K C "__len__" f) (F : FnOk X.prog X.w X.K X.mg X.base CX0 k f fd ps sp) (hr : Room (k + 1) X.A) (hb : Binds X.K fd ps []) : CallR X (.builtin "len") (rLenOwn C sp) := by
  intro pins s σ H vs us Q I r h
  obtain ⟨a, dx, fs, rfl, ea, h⟩ := h
  obtain ⟨u, rfl, ru⟩ := vals1 r
  obtain rfl : u = Value.ref a := ru
  obtain ⟨mA, O, _, _, _, _⟩ := ins_get I.hok ea
  obtain ⟨od, J, _⟩ := O.look
  refine Calls.call_function_entry kind_len plain_len entry_len (args_len1 _) ?_
  unfold Builtin.«len»
  refine wpAny_bind (m := oneArg "len" _) (wpAny_pure ?_)
  refine wpAny_bind (m := callSpecial? (.ref a) (Str.ofString "__len__")) (PySem.W.special_fn I.kIn J hs.at_ (beq_iff_eq.mp hs.fn) (wpAny_mono (run_in1 (us := [.ref a]) (vs := [.ref a]) F hr hb I (.cons rfl .nil) h) (fun r s1 hr1 => ?_) fun _ _ y => y))
  obtain ⟨z, H1, I1, rz, n, ez, hn, q⟩ := hr1
  subst ez
  obtain ⟨t, rfl⟩ := rz
  refine wpAny_bind (wpAny_holding (wpAny_pure ?_))
  refine wpAny_bind (wpAny_letGo ?_)
  show wpAny _ _ (if (n : Int) < 0 then _ else _) _ _ _
  rw [if_neg (by omega)]
  show wpAny _ _ (if (n : Int) ≥ 2 ^ 63 then _ else _) _ _ _
  rw [if_neg (by omega)]
  exact wpAny_bind (wpAny_mkInt (wpAny_pure ⟨_, rfl, .int (n : Nat), H1, I1.tok _, ⟨_, rfl⟩, q⟩))
/-- str(o) by o's own __str__ -/
def rStrOwn (C : Addr) (sp : Sp) : List V → Hp → VK → Prop := fun vs H Q => ∃ a dx fs, vs = [.ref a] ∧ H a = some (.ins C dx fs) ∧ sp [.ref a] H (fun v H' => ∃ z, v = .str z ∧ Q (.str z) H') E0
theorem call_strOwn (hu : X.A.units + 64 < cLine) (hs : SpM X.K C "__str__" f) (F : FnOk X.prog X.w X.K X.mg X.base CX0 k f fd ps sp) (hr : Room (k + 2) X.A) (hb : Binds X.K fd ps []) : CallR X (.type "str") (rStrOwn C sp) := by
  intro pins s σ H vs us Q I r h
  obtain ⟨a, dx, fs, rfl, ea, h⟩ := h
  obtain ⟨u, rfl, ru⟩ := vals1 r
  obtain rfl : u = Value.ref a := ru
  obtain ⟨mA, O, _, _, _, _⟩ := ins_get I.hok ea
  obtain ⟨od, J, _⟩ := O.look
  refine PySem.W.kso_call (by show X.A.in1.in1.units < cLine; exact Nat.lt_of_le_of_lt (Nat.le_refl _) (by have : X.A.in1.in1.units = X.A.units + 2 := rfl; omega)) I.kIn J hs.at_ hs.fn ?_
  refine wpAny_mono (run_in2 (us := [.ref a]) (vs := [.ref a]) F hr hb I (.cons rfl .nil) h) (fun r s1 hr1 => ?_) fun _ _ y => y
  obtain ⟨z, H1, I1, rz, x, ez, q⟩ := hr1
  subst ez
  obtain ⟨t, rfl⟩ := rz
  exact ⟨.str x, H1, I1, ⟨t, rfl⟩, q⟩
end
end Sw

set_option Elab.async false
set_option linter.all false
set_option maxRecDepth 100000
set_option maxHeartbeats 4000000
/-! Own __eq__: o == x, o != x. -/
namespace Sw
open PySem PySem.Spec PyProof.Rows L2
section
variable {X : Cx} {k : Nat} {f C : Addr} {fd : FuncData} {ps : List Str} {sp : Sp}
/-- o == x (g: as it is; its not), o an instance of C with its own __eq__, which answers by a truth value -/
def rEqOwn (K : PySem.W.Frag) (C : Addr) (sp : Sp) (g : Bool → Bool) : R2 := fun x y H Q => ∃ a dx fs t, x = .ref a ∧ H a = some (.ins C dx fs) ∧ TyX K H y t ∧ PySem.W.notFirst K C t = true ∧ sp [.ref a, y] H (fun v H' => ∃ b, v = .bl b ∧ Q (.bl (g b)) H') E0
theorem op_eqOwn (hu : X.A.units + 64 < cLine) (hs : SpM X.K C "__eq__" f) (F : FnOk X.prog X.w X.K X.mg X.base CX0 k f fd ps sp) (hr : Room k X.A) (hb : Binds X.K fd ps []) : OpR X (compareOp .Eq) (rEqOwn X.K C sp fun b => b) := by
  intro pins s σ H x y v u Q I rx ry h
  obtain ⟨a, dx, fs, t, rfl, ea, ty, nf, h⟩ := h
  obtain rfl : v = Value.ref a := rx
  obtain ⟨mA, O, _, _, _, _⟩ := ins_get I.hok ea
  obtain ⟨od, J, _⟩ := O.look
  obtain ⟨m, hF⟩ := I.fr
  obtain ⟨P, Z, hp, _⟩ := kit_of I ry ty
  show wpAny (model X.prog X.w) X.A (richCompare .Eq (.ref a) u) (EP X pins σ Q) X.xe s
  refine PySem.W.cmp_K (op := .Eq) (tb := t) (by omega) hF I.ok.mod.kin J (Z.ty _ _ I.kIn hp) nf hs.at_ hs.fn ?_
  refine thn (run_fn (us := [.ref a, u]) (vs := [.ref a, y]) (dvs := []) F hr hb .nil pass0 I (.cons rfl (.cons ry .nil)) h) fun r s1 ⟨z, H1, I1, rz, b, ez, q⟩ => ?_
  subst ez
  obtain rfl : r = Value.bool b := rz
  exact ⟨.bl b, H1, I1, rfl, q⟩
/-- what a class without its own __ne__ has -/
structure NeM (K : PySem.W.Frag) (C : Addr) : Prop where
  at_ : PySem.W.findIn K (.ref C) "__ne__" = some (some (.builtin "object.__ne__"))
  obj : PySem.W.subIn K (.ref C) (.type "object") = some true
theorem bind_builtin {M : Model} {A : Around} {E : Value → Shared → Prop} {s : Shared} {K : PySem.W.Frag} {a : Addr} {ox : Obj} {od : Option Obj} {name : Str} {id : String} {args : List Value} {Q : Option Value → Shared → Prop} (Xk : K.In s.heap) (J : PySem.W.InstAt s.heap a ox C od)
    (hs : PySem.W.findIn K (.ref C) name = some (some (.builtin id))) (S : Slot "object" name id) (h : wpAny M A (call (.builtin id) (.ref a :: args)) (fun v => Q (some v)) E s) : wpAny M A (callSpecialIfBound? (.ref a) name args) Q E s := by
  simp only [callSpecialIfBound?, bindSpecialIfBound?]
  refine wpAny_holding (wpAny_bind (wpAny_bind (wpAny_bind (J.type.here ((PySem.W.looks_findIn Xk hs).here ?_)))))
  simp only [S.bind]
  refine wpAny_bind (wpAny_askSetting (wpAny_ite ?_))
  have fin : wpAny M A (call (.builtin id) ([.ref a] ++ args) >>= fun v => pure (some v)) Q E s := wpAny_bind (wpAny_mono h (fun v s' h' => wpAny_pure h') fun _ _ h' => h')
  split
  · exact wpAny_bind (wpAny_pure (wpAny_pure (by exact fin)))
  · exact wpAny_tryCatch (wpAny_bind (wpAny_pure (wpAny_pure (by exact fin))))
theorem op_neOwn (hu : X.A.units + 64 < cLine) (hs : SpM X.K C "__eq__" f) (hn : NeM X.K C) (F : FnOk X.prog X.w X.K X.mg X.base CX0 k f fd ps sp) (hr : Room (k + 1) X.A) (hb : Binds X.K fd ps []) : OpR X (compareOp .NotEq) (rEqOwn X.K C sp fun b => !b) := by
  intro pins s σ H x y v u Q I rx ry h
  obtain ⟨a, dx, fs, t, rfl, ea, ty, nf, h⟩ := h
  obtain rfl : v = Value.ref a := rx
  obtain ⟨mA, O, _, _, _, _⟩ := ins_get I.hok ea
  obtain ⟨od, J, _⟩ := O.look
  obtain ⟨P, Z, hp, _⟩ := kit_of I ry ty
  have hu1 : X.A.in1.units < cLine := by have : X.A.in1.units = X.A.units + 1 := rfl; omega
  have isObj : PySem.W.Looks (model X.prog X.w) s.heap (isInstance (.ref a) (.type "object")) true := J.type.andThen (PySem.W.looks_subIn I.kIn hn.obj)
  have one : wpAny (model X.prog X.w) X.A (tryCompare (.ref a) "__ne__" u) (fun r s' => ∃ b, r = some (.bool (!b)) ∧ EP X pins σ (fun v H' => v = .bl b ∧ Q (.bl (!b)) H') (.bool b) s') X.xe s := by
    unfold tryCompare
    have inner : wpAny (model X.prog X.w) X.A (call (.builtin "object.__ne__") [.ref a, u]) (fun r s' => ∃ b, r = .bool (!b) ∧ EP X pins σ (fun v H' => v = .bl b ∧ Q (.bl (!b)) H') (.bool b) s') X.xe s := by
      refine wpAny_call (codeAny_call_builtin PySem.F.cmp_object.ne.plain PySem.F.cmpEntry_ne
        (@PySem.W.check_slot (model X.prog X.w) _ _ s "object.__ne__" "object" "__ne__" (.ref a) [u] [] _ PySem.F.cmpKind_ne PySem.F.cmpSplit_ne isObj (PySem.F.cmpArgs_ne (.ref a) u) ?_))
      unfold Builtin.«object.__ne__»
      refine wpAny_bind (wpAny_pure ?_)
      refine wpAny_bind (wpAny_cRoomFor hu1 ?_)
      refine wpAny_bind (m := callSpecialIfBound? (.ref a) (Str.ofString "__eq__") [u]) (PySem.W.ifBound_K I.kIn J hs.at_ hs.fn (wpAny_mono (run_in1 (us := [.ref a, u]) (vs := [.ref a, y]) F hr hb I (.cons rfl (.cons ry .nil)) h) (fun r s1 hr1 => ?_) fun _ _ e => e))
      obtain ⟨z, H1, I1, rz, b, ez, q⟩ := hr1
      subst ez
      obtain rfl : r = Value.bool b := rz
      refine wpAny_bind (m := truthy (.bool b)) (wpAny_truthy_bool ?_)
      refine wpAny_pure ?_
      exact ⟨b, rfl, .bl b, H1, I1, rfl, rfl, q⟩
    refine wpAny_bind (bind_builtin I.kIn J hn.at_ PySem.F.cmp_object.ne (wpAny_mono inner (fun r s' hr' => ?_) fun _ _ e => e))
    obtain ⟨b, rfl, q⟩ := hr'
    exact wpAny_pure ⟨b, rfl, q⟩
  show wpAny (model X.prog X.w) X.A (richCompare .NotEq (.ref a) u) (EP X pins σ Q) X.xe s
  have fin : ∀ (b : Bool) (s' : Shared), EP X pins σ (fun v H' => v = .bl b ∧ Q (.bl (!b)) H') (.bool b) s' → EP X pins σ Q (.bool (!b)) s' := by
    intro b s' ⟨v, H1, I1, _, ev, q⟩
    exact ⟨.bl (!b), H1, I1, rfl, q⟩
  unfold richCompare
  simp only [oneThing_ref]
  refine wpAny_holding (wpAny_bind (wpAny_cRoomFor (by omega) ?_))
  rw [cmpInfo_NotEq]
  dsimp only
  refine wpAny_bind (J.type.here (wpAny_bind ((Z.ty _ _ I.kIn hp).here ?_)))
  have last : wpAny (model X.prog X.w) X.A (tryCompare (.ref a) "__ne__" u >>= fun r => match r with
      | some v => pure v
      | none => pure Value.none) (EP X pins σ Q) X.xe s → True := fun _ => True.intro
  split
  · rename_i q
    have e : PySem.W.subIn X.K t (.ref C) = some false := by
      rcases Bool.or_eq_true_iff.mp nf with e | e
      · rw [beq_iff_eq.mp e] at q; simp at q
      · exact beq_iff_eq.mp e
    refine wpAny_bind ((PySem.W.looks_subIn I.kIn e).here ?_)
    simp only [Bool.false_eq_true, if_false]
    refine wpAny_bind (wpAny_mono one (fun r s' z => ?_) fun _ _ e => e)
    obtain ⟨b, rfl, hq⟩ := z
    exact wpAny_pure (fin b s' hq)
  · refine wpAny_bind (wpAny_pure ?_)
    simp only [Bool.false_eq_true, if_false]
    refine wpAny_bind (wpAny_mono one (fun r s' z => ?_) fun _ _ e => e)
    obtain ⟨b, rfl, hq⟩ := z
    exact wpAny_pure (fin b s' hq)
end
end Sw

set_option Elab.async false
set_option linter.all false
set_option maxRecDepth 100000
set_option maxHeartbeats 4000000
/-! zip of two texts. -/
namespace Sw
open PySem PySem.Spec PyProof.Rows L2

/-- two texts sign by sign, each two in a new pair -/
def ItzS (x y : Str) : It :=
  ⟨fun i _ => i < (chars x).length ∧ i < (chars y).length,
    fun i H v H' => ∃ T c d, v = .ref T ∧ H T = none ∧ H' = upd H T (.tup [.str c, .str d]) ∧ (chars x)[i]? = some c ∧ (chars y)[i]? = some d,
    fun i _ => i ≤ (chars x).length ∧ i ≤ (chars y).length ∧ (i = (chars x).length ∨ i = (chars y).length)⟩
theorem strIter_at {h h' : Heap} {it : Addr} {T : String} {x : Str} {t : Tok} {i : Nat} (st : h.IsStrIter it T x t i) (k : ∀ o, h.get? it = some o → h'.get? it = some o) : h'.IsStrIter it T x t i := by
  obtain ⟨o, ho, r⟩ := st
  exact ⟨o, k o ho, r⟩
theorem turn_zipS {P : Program} {w : World} {K : PySem.W.Frag} {elts : List Expr} {kk : Nat} {tpos : Pos} {x y : Str} {t1 t2 : Tok} {z TI TO i1 i2 : Addr} (D : ZipSep2 z TI TO i1 i2 [i1] [i2]) :
    Turn P w K (.Tuple elts kk tpos) (ItzS x y) [z, TI, TO, i1, i2] z (fun i h => IsZip h z TI TO .none ∧ IsTupOf2 h TI (.ref i1) (.ref i2) ∧ (∃ a b, IsTupOf2 h TO a b) ∧ h.IsStrIter i1 (strIterType x) x t1 i ∧ h.IsStrIter i2 (strIterType y) y t2 i) where
  mem := by simp
  obj := fun i h st c hc => by
    obtain ⟨hz, hTI, ⟨a, b, hTO⟩, ⟨o1, e1, _, d1⟩, ⟨o2, e2, _, d2⟩⟩ := st
    have e' : c = z ∨ c = TI ∨ c = TO ∨ c = i1 ∨ c = i2 := by simpa using hc
    rcases e' with q | q | q | q | q
    · rw [q]; exact ⟨_, hz, fun v q => nomatch q⟩
    · rw [q]; exact ⟨_, hTI, fun v q => nomatch q⟩
    · rw [q]; exact ⟨_, hTO, fun v q => nomatch q⟩
    · rw [q]; exact ⟨o1, e1, fun v q => by rw [d1] at q; cases q⟩
    · rw [q]; exact ⟨o2, e2, fun v q => by rw [d2] at q; cases q⟩
  keep := fun i h h' st k => by
    obtain ⟨hz, hTI, ⟨a, b, hTO⟩, h1, h2⟩ := st
    exact ⟨k z (by simp) _ hz, k TI (by simp) _ hTI, ⟨a, b, k TO (by simp) _ hTO⟩, strIter_at h1 fun o q => k i1 (by simp) o q, strIter_at h2 fun o q => k i2 (by simp) o q⟩
  item := by
    intro X hP hw hK hc i pins s σ H E I hf st hg
    subst hP hw hK
    obtain ⟨hz, hTI, ⟨a, b, hTO⟩, h1, h2⟩ := st
    obtain ⟨l1, l2⟩ := hg
    rw [chars_len] at l1 l2
    have hzl : z < s.heap.objs.size := Heap.lt_size hz
    refine wpAny_pyNext_zipD2_item D (Draws.text (A := X.A.in1) (show X.A.in1.handled = none from I.ok.hd hc) i1 x t1) (Draws.text (A := X.A.in1) (show X.A.in1.handled = none from I.ok.hd hc) i2 y t2) hz hTI hTO h1 h2 l1 l2
      fun v1 v2 h' tk p1 p2 z' TO' s1 s2 hT hsz hk => ?_
    obtain ⟨c, u1, ec, rfl⟩ := p1
    obtain ⟨d, u2, ed, rfl⟩ := p2
    refine ⟨_, rfl, wpAny_letOwnedTupleGo_zip (s := { s with heap := h', toks := tk }) z' fun h'' z'' sb => ?_⟩
    have hT2 : h''.get? s.heap.objs.size = some { cls := .type "tuple", data := .seq #[.str ⟨#[c]⟩ u1, .str ⟨#[d]⟩ u2] } := (sb.2 _ (Nat.ne_of_gt hzl)).trans hT
    have new : ObjOk X.prog X.w (upd H s.heap.objs.size (.tup [.str ⟨#[c]⟩, .str ⟨#[d]⟩])) h'' s.heap.objs.size (.tup [.str ⟨#[c]⟩, .str ⟨#[d]⟩]) :=
      ⟨by show 2 ≤ sizeLine; decide, [.str ⟨#[c]⟩ u1, .str ⟨#[d]⟩ u2], .cons ⟨_, rfl⟩ (.cons ⟨_, rfl⟩ .nil), ⟨_, hT2, rfl, _, rfl⟩⟩
    have I1 : Inv X pins σ (upd H s.heap.objs.size (.tup [.str ⟨#[c]⟩, .str ⟨#[d]⟩])) { s with heap := h'', toks := tk } :=
      I.turnedNew (t' := tk) (ch := [z, TI, TO, i1, i2]) (fun e o hb q => (sb.2 e (fun q' => hb (by simp [q']))).trans (hk e o (fun q' => hb (by simp [q'])) (fun q' => hb (by simp [q'])) (fun q' => hb (by simp [q'])) (fun q' => hb (by simp [q'])) q)) hf (Nat.le_refl _) new
    refine ⟨.ref s.heap.objs.size, _, I1, rfl, ⟨_, _, _, rfl, I.hok.fresh (Nat.le_refl _), rfl, chars_at ec, chars_at ed⟩, ⟨z'', ?_, ⟨.str ⟨#[c]⟩ u1, .str ⟨#[d]⟩ u2, ?_⟩, ?_, ?_⟩, fun e hcm => ?_⟩
    · exact (sb.2 _ D.TIz).trans (hk _ _ D.TIz D.TITO D.TIi1 D.TIi2 hTI)
    · exact (sb.2 _ D.TOz).trans TO'
    · exact strIter_at s1 fun o q => (sb.2 _ (Ne.symm D.zi1)).trans q
    · exact strIter_at s2 fun o q => (sb.2 _ (Ne.symm D.zi2)).trans q
    · have hlt : e < s.heap.objs.size := by
        have e' : e = z ∨ e = TI ∨ e = TO ∨ e = i1 ∨ e = i2 := by simpa using hcm
        rcases e' with q | q | q | q | q
        · rw [q]; exact hzl
        · rw [q]; exact Heap.lt_size hTI
        · rw [q]; exact Heap.lt_size hTO
        · rw [q]; obtain ⟨_, e1, _⟩ := h1; exact Heap.lt_size e1
        · rw [q]; obtain ⟨_, e2, _⟩ := h2; exact Heap.lt_size e2
      rw [upd_ne (Nat.ne_of_lt hlt)]
      exact (hf e hcm).1
  done := by
    intro X hP hw hK hc i pins s σ H E I hf st hg
    subst hP hw hK
    obtain ⟨hz, hTI, ⟨a, b, hTO⟩, h1, h2⟩ := st
    obtain ⟨l1, l2, le⟩ := hg
    rw [chars_len] at l1 l2
    rw [chars_len, chars_len] at le
    exact wpAny_pyNext_zipD2_end D (Draws.text (A := X.A.in1) (show X.A.in1.handled = none from I.ok.hd hc) i1 x t1) (Draws.text (A := X.A.in1) (show X.A.in1.handled = none from I.ok.hd hc) i2 y t2) hz hTI hTO h1 h2 l1 l2 le
      fun h' tk hk => ⟨rfl, I.turnedL (t' := tk) (ch := [z, TI, TO, i1, i2]) (fun c o hb q =>
        hk c o (fun q' => hb (by simp [q'])) (fun q' => hb (by simp [q'])) (fun q' => hb (by simp [q'])) (fun q' => hb (by simp [q'])) q) hf⟩
  self := fun A i s Q E st h => wpAny_pyIter_zip st.1 h
def iZipS (ta : TA) : TI := fun σ H R => ta σ H fun vs H1 => ∃ x y, vs = [.str x, .str y] ∧ R (ItzS x y) H1
theorem pi_zipS {X : Cx} {e e2 : Expr} {ta : TA} {p pos tpos : Pos} {elts : List Expr} {kk : Nat} (hg : Gl X "zip") (hm : X.mg "zip" = none) (ha : PA X [e, e2] ta)
    (hs : starEach [e, e2] X.env = (false, eval e X.env) :: starEach [e2] X.env := by rfl) (hpl : (backTo pos (starEach [e2] X.env)).any (·.1) = false := by rfl) :
    PI X (.Tuple elts kk tpos) (.Call (.Name "zip" p) [e, e2] [] pos) (iZipS ta) := by
  refine ⟨fun pins s σ H R I h => ?_⟩
  refine Call_ (ld_blt I hg hm PyProof.Rows.boot_zip (PyProof.Rows.callWith_type1 (thn (ha.run pos pins s σ H _ I h) fun us s1 ⟨vs, H1, I1, r1, q1⟩ => ?_) hs hpl))
  obtain ⟨x, y, ex, q⟩ := q1
  subst ex
  cases r1 with
  | cons r rr =>
    cases rr with
    | cons r' rr =>
      cases rr
      obtain ⟨t1, rfl⟩ := r
      obtain ⟨t2, rfl⟩ := r'
      have fresh5 : ∀ c, c ∈ [s1.heap.objs.size + 4, s1.heap.objs.size + 2, s1.heap.objs.size + 3, s1.heap.objs.size, s1.heap.objs.size + 1] → FpOk X pins H1 c := fun c hcm => by
        have e' : c = s1.heap.objs.size + 4 ∨ c = s1.heap.objs.size + 2 ∨ c = s1.heap.objs.size + 3 ∨ c = s1.heap.objs.size ∨ c = s1.heap.objs.size + 1 := by simpa using hcm
        have hle : s1.heap.objs.size ≤ c := by
          rcases e' with z | z | z | z | z
          · rw [z]; exact Nat.le_add_right _ _
          · rw [z]; exact Nat.le_add_right _ _
          · rw [z]; exact Nat.le_add_right _ _
          · rw [z]; exact Nat.le_refl _
          · rw [z]; exact Nat.le_add_right _ _
        exact I1.fpOk hle (I1.hok.fresh hle)
      refine zip_begins2 (begins_text x t1) (begins_text y t2) True.intro True.intro fun h' hz hTI hTO h1 h2 hsz hk => wpAny_pyIter_zip hz ?_
      have I2 : Inv X pins σ H1 { s1 with heap := h' } := I1.kept (t' := s1.toks) hk
      generalize s1.heap.objs.size = n at *
      have sep : ZipSep2 (n + 4) (n + 2) (n + 3) n (n + 1) [n] [n + 1] := by
        constructor <;> first | (simp; done) | omega | (simp; omega)
      exact ⟨n + 4, [n + 4, n + 2, n + 3, n, n + 1], _, _, H1, rfl, I2, turn_zipS (t1 := t1) (t2 := t2) sep, ⟨hz, hTI, ⟨_, _, hTO⟩, ⟨_, h1, rfl, rfl⟩, ⟨_, h2, rfl, rfl⟩⟩, fresh5, q⟩
/-- two texts of one length -/
theorem walk_zipS {x y : Str} (hl : (chars x).length = (chars y).length) : Walk (ItzS x y) (chars x).length (fun _ => True) (YPair (fun i => ((chars x)[i]?).map V.str) (fun i => ((chars y)[i]?).map V.str)) := by
  refine ⟨fun i _ hi _ => ⟨hi, by omega⟩, fun _ _ => ⟨Nat.le_refl _, by omega, .inl rfl⟩, fun i H v H' _ _ h => ?_⟩
  obtain ⟨T, c, d, h1, h2, h3, h4, h5⟩ := h
  exact ⟨T, .str c, .str d, h1, h2, h3, by show ((chars x)[i]?).map V.str = _; rw [h4]; rfl, by show ((chars y)[i]?).map V.str = _; rw [h5]; rfl⟩
end Sw

set_option Elab.async false
set_option linter.all false
set_option maxRecDepth 100000
set_option maxHeartbeats 4000000
/-! A method called by keywords alone. -/
namespace Sw
open PySem PySem.Spec PyProof.Rows L2
def tMethK (C : Addr) (m : Str) (n : Nat) (sp : Sp) (gV : List V → List V → List V) (E : XK) (ta : TE) (tk : TA) : TE := fun σ H Q => ta σ H fun x H1 => ∃ a dx fs, x = .ref a ∧ H1 a = some (.ins C dx fs) ∧ fs.lookup m = none ∧ tk σ H1 fun zs H2 => zs.length = n ∧ sp (gV [.ref a] zs) H2 Q E
section
variable {X : Cx} {CX : CXT} {k : Nat} {f C : Addr} {fd : FuncData} {ps ks : List Str} {sp : Sp} {E : XK} {m : Str} {apos pos : Pos} {o : Expr} {kws : List Keyword} {ta : TE} {tk : TA} {g : List Value → List Value → List Value} {gV : List V → List V → List V}
/-- o.m(k = v, ..) -/
theorem pe_methK0 {pl : Sem Bool} (he : PE X o ta) (c : Cls X.K C) (hm : Meth X.K C m f) (F : FnOk X.prog X.w X.K X.mg X.base CX k f fd ps sp) (hr : Room k X.A) (hb : KBn X.K fd ps 1 ks g gV) (hx : Passes CX X E) (hkw : PK X kws tk)
    (hall : (backToKw pos (keywordEach kws X.env)).all (·.1.isSome) = true := by rfl) (hks : (backToKw pos (keywordEach kws X.env)).filterMap (·.1) = ks := by rfl)
    (hpl : ((backTo pos (starEach [] X.env)).any (·.1) || (backToKw pos (keywordEach kws X.env)).any (·.1.isNone)) = false := by rfl)
    (ht : eval (.Call (.Attribute o m apos) [] kws pos) X.env = (do
      let ov ← eval o X.env
      standAt apos.atName
      let (f, first) ← holding [ov] (getMethod ov m pl)
      callWith pos f first (backTo pos (starEach [] X.env)) (backToKw pos (keywordEach kws X.env))) := by rfl) :
    PE X (.Call (.Attribute o m apos) [] kws pos) (tMethK C m ks.length sp gV E ta tk) := by
  refine ⟨fun pins s σ H Q I h => ?_⟩
  refine PySem.W.methodCall_KW (pl := pl) (thn (he.run pins s σ H _ I h) fun u s1 ⟨x, H1, I1, rx, a, dx, fs, ex, ea, l, q⟩ => ?_) ht
  subst ex
  obtain rfl : u = Value.ref a := rx
  refine getmeth_ok I1 ea c hm l ?_
  refine PySem.W.callWith_KW0 (first := [.ref a]) (h₀ := X.base) I.ok.mod.kin hm.kp hall ?_ hpl
  refine thn (hkw.run pos pins s1 σ H1 _ I1 q) fun ws s2 ⟨zs, H2, I2, rz, l2, q2⟩ => ⟨I2.kIn, ?_⟩
  rw [hks]
  exact run_fnN (us := [.ref a]) (vs := [.ref a]) F hr hb hx I2 (.cons rfl .nil) rz rfl l2 q2
end
end Sw

set_option Elab.async false
set_option linter.all false
set_option maxRecDepth 100000
set_option maxHeartbeats 4000000
/-! bool(o) by o's own __len__. -/
namespace Sw
open PySem PySem.Spec PyProof.Rows L2
section
variable {X : Cx} {k : Nat} {f C : Addr} {fd : FuncData} {ps : List Str} {sp : Sp} {pins : List (Addr × Obj)} {σ : L2.St} {H : Hp} {s : Shared} {Q : VK}
theorem run_in3 {us : List Value} {vs : List V} {E : Value → Shared → Prop} (F : FnOk X.prog X.w X.K X.mg X.base CX0 k f fd ps sp) (hr : Room (k + 3) X.A) (hb : Binds X.K fd ps []) (I : Inv X pins σ H s) (r : Vals vs us) (h : sp vs H Q E0) :
    wpAny (model X.prog X.w) X.A.in1.in1.in1 (call (.ref f) us) (EP X pins σ Q) E s := by
  have hl : (us ++ []).length = ps.length := by
    rw [List.append_nil, ← r.length]
    exact F.len _ _ _ _ h
  refine wpAny_call (codeAny_mono (F.run X.A.in1.in1.in1 X.stack s H ⟨us, []⟩ (us ++ []) vs Q E0 hr.in1.in1.in1 I.env0.in1.in1.in1 (hb s us I.kIn hl) (by rw [List.append_nil]; exact r) h) fun r' s' hq => ?_)
  cases r' with
  | error e => exact False.elim hq
  | ok fl =>
    cases fl with
    | ret u => exact I.after hq
    | next => exact False.elim hq
    | brk => exact False.elim hq
    | cont => exact False.elim hq
/-- bool(o) by its length -/
def rBoolOwn (C : Addr) (sp : Sp) : List V → Hp → VK → Prop := fun vs H Q => ∃ a dx fs, vs = [.ref a] ∧ H a = some (.ins C dx fs) ∧ sp [.ref a] H (fun v H' => ∃ n : Nat, v = .int (n : Nat) ∧ n < 2 ^ 63 ∧ Q (.bl (decide (n ≠ 0))) H') E0
theorem call_boolOwn (hs : SpM X.K C "__len__" f) (hnb : PySem.W.findIn X.K (.ref C) "__bool__" = some none) (F : FnOk X.prog X.w X.K X.mg X.base CX0 k f fd ps sp) (hr : Room (k + 3) X.A) (hb : Binds X.K fd ps []) : CallR X (.type "bool") (rBoolOwn C sp) := by
  intro pins s σ H vs us Q I r h
  obtain ⟨a, dx, fs, rfl, ea, h⟩ := h
  obtain ⟨u, rfl, ru⟩ := vals1 r
  obtain rfl : u = Value.ref a := ru
  obtain ⟨mA, O, _, _, _, _⟩ := ins_get I.hok ea
  obtain ⟨od, J, _⟩ := O.look
  have tr : wpAny (model X.prog X.w) X.A.in1.in1 (truthy (.ref a)) (fun b s' => EP X pins σ Q (.bool b) s') X.xe s := by
    unfold truthy
    refine wpAny_bind (m := callSpecial? (.ref a) (Str.ofString "__bool__")) (wpAny_bind (wpAny_bind (J.type.here ((PySem.W.looks_findIn I.kIn hnb).here (wpAny_pure ?_)))))
    refine wpAny_bind (wpAny_bind (J.type.here ((PySem.W.looks_findIn I.kIn hs.at_).here ?_)))
    rw [if_neg (by simp)]
    refine wpAny_bind (wpAny_runValue (codeAny_builtin entry_len ?_))
    unfold Builtin.«len»
    refine wpAny_bind (m := oneArg "len" _) (wpAny_pure ?_)
    refine wpAny_bind (m := callSpecial? (.ref a) (Str.ofString "__len__")) (PySem.W.special_fn I.kIn J hs.at_ (beq_iff_eq.mp hs.fn) (wpAny_mono (run_in3 (us := [.ref a]) (vs := [.ref a]) F hr hb I (.cons rfl .nil) h) (fun r s1 hr1 => ?_) fun _ _ y => y))
    obtain ⟨z, H1, I1, rz, n, ez, hn, q⟩ := hr1
    subst ez
    obtain ⟨t, rfl⟩ := rz
    refine wpAny_bind (wpAny_holding (wpAny_pure ?_))
    refine wpAny_bind (wpAny_letGo ?_)
    show wpAny _ _ (if (n : Int) < 0 then _ else _) _ _ _
    rw [if_neg (by omega)]
    show wpAny _ _ (if (n : Int) ≥ 2 ^ 63 then _ else _) _ _ _
    rw [if_neg (by omega)]
    refine wpAny_bind (wpAny_mkInt (wpAny_pure ?_))
    show wpAny (model X.prog X.w) X.A.in1.in1 (pure ((n : Int) != 0)) (fun b s' => EP X pins σ Q (.bool b) s') X.xe _
    have e : ((n : Int) != 0) = decide (n ≠ 0) := by
      by_cases z : n = 0
      · subst z; rfl
      · rw [decide_eq_true z]
        simpa using z
    rw [e]
    exact wpAny_pure ⟨.bl (decide (n ≠ 0)), H1, I1.tok _, rfl, q⟩
  refine callType_codes (T := "bool") (Bi := Builtin.«object.__init__») (Q₁ := fun r s₁ => ∃ b, r = .bool b ∧ EP X pins σ Q (.bool b) s₁) PySem.F.called_bool (PySem.F.typeCall_bool_1 _) PySem.F.entry_object_init ?_ ?_
  · refine codeAny_of_tree ?_
    show wpAny _ X.A.in1.in1 (do checkBuiltinCall "bool.__new__" ⟨[.type "bool", .ref a], []⟩; again (.builtin "bool.__new__" ⟨[.type "bool", .ref a], []⟩)) _ _ s
    refine wpAny_bind (wpAny_of_eq (PySem.F.newCall_bool_1 _) (wpAny_pure ⟨plainId_quiet (by decide +kernel) _, codeAny_builtin PySem.F.entry_bool_new ?_⟩))
    rw [Around.under_plainId (by decide +kernel) _]
    have f1 := PySem.F.conv_sub_bool
    unfold Builtin.«bool.__new__»
    repeat (any_goals (first | assumption | (with_reducible refine wpAny_bind (m := truthy (.ref a)) (wpAny_mono tr (fun b s1 hb1 => ?_) fun _ _ e => e)) | wp_step))
    exact ⟨b, rfl, hb1⟩
  · rintro obj s₁ ⟨b, rfl, hq⟩
    exact ⟨rfl, PySem.F.args_object_init_2 _ _, object_init_meets PySem.F.called_bool.init.lookup PySem.F.called_bool.made (by decide) _ _ X.A.in1 _ s₁ ⟨rfl, rfl, hq⟩⟩
end
end Sw

set_option Elab.async false
set_option linter.all false
set_option maxRecDepth 100000
set_option maxHeartbeats 4000000
/-! x == o, o with its own __eq__, x of a built-in class: o is asked. -/
namespace Sw
open PySem PySem.Spec PyProof.Rows L2
section
variable {X : Cx} {k : Nat} {f C : Addr} {fd : FuncData} {ps : List Str} {sp : Sp} {pins : List (Addr × Obj)} {σ : L2.St} {H : Hp} {s : Shared} {Q : VK}
theorem rc_reflect {a dx : Addr} {fs : List (Str × V)} {y : V} {v : Value} {Ta ida : String} (hu : X.A.units + 64 < cLine) (I : Inv X pins σ H s) (ea : H a = some (.ins C dx fs)) (hv : s.TypeIs v Ta) (h1 : Slot Ta "__eq__" ida) (hsub : PySem.W.subIn X.K (.ref C) (.type Ta) = some false)
    (decl : ∀ Q' : Value → Shared → Prop, Q' .notImplemented s → wpAny (model X.prog X.w) X.A (call (.builtin ida) [v, .ref a]) Q' X.xe s)
    (hs : SpM X.K C "__eq__" f) (F : FnOk X.prog X.w X.K X.mg X.base CX0 k f fd ps sp) (hr : Room k X.A) (hb : Binds X.K fd ps []) (ry : RelV y v)
    (h : sp [.ref a, y] H (fun v H' => ∃ b, v = .bl b ∧ Q (.bl b) H') E0) : wpAny (model X.prog X.w) X.A (richCompare .Eq v (.ref a)) (EP X pins σ Q) X.xe s := by
  obtain ⟨mA, O, _, _, _, _⟩ := ins_get I.hok ea
  obtain ⟨od, J, _⟩ := O.look
  have own : wpAny (model X.prog X.w) X.A (tryCompare (.ref a) "__eq__" v) (fun r s' => ∃ b, r = some (.bool b) ∧ EP X pins σ Q (.bool b) s') X.xe s := by
    unfold tryCompare
    refine wpAny_bind (PySem.W.ifBound_K I.kIn J hs.at_ hs.fn (wpAny_mono (run_fn (us := [.ref a, v]) (vs := [.ref a, y]) (dvs := []) F hr hb .nil pass0 I (.cons rfl (.cons ry .nil)) h) (fun r s1 hr1 => ?_) fun _ _ e => e))
    obtain ⟨z, H1, I1, rz, b, ez, q⟩ := hr1
    subst ez
    obtain rfl : r = Value.bool b := rz
    exact wpAny_pure ⟨b, rfl, .bl b, H1, I1, rfl, q⟩
  simp only [richCompare, hv.oneThing_none]
  refine wpAny_holding (wpAny_bind (wpAny_cRoomFor (by omega) ?_))
  rw [show cmpInfo .Eq = ("==", ("__eq__" : Str), ("__eq__" : Str)) from rfl]
  dsimp only
  refine wpAny_bind (wpAny_typeOf hv (wpAny_bind (J.type.here ?_)))
  rw [if_pos (show (Value.type Ta != Value.ref C) = true from rfl)]
  refine wpAny_bind ((PySem.W.looks_subIn I.kIn hsub).here ?_)
  simp only [Bool.false_eq_true, if_false, Bool.not_false, if_true]
  refine wpAny_bind (m := tryCompare v _ (.ref a)) (wpAny_tryCompare_declines hv h1 (decl _ ⟨rfl, ?_⟩))
  refine wpAny_bind (wpAny_mono own (fun r s' z => ?_) fun _ _ e => e)
  obtain ⟨b, rfl, hq⟩ := z
  exact wpAny_pure hq
end
end Sw

set_option Elab.async false
set_option linter.all false
set_option maxRecDepth 100000
set_option maxHeartbeats 4000000
namespace Sw
open PySem PySem.Spec PyProof.Rows L2
open PySem.SeqAt
open AutoSeq1 (wpAny_loadPart')
theorem str_declines_inst (b : Str) (u : Tok) (l C dx : Addr) :
    Meets (Builtin.«str.__eq__» ⟨[.str b u, .ref l], []⟩) (fun _ R s => s.heap.get? l = some (PySem.W.instObj C dx) ∧ R (.ok (.ret .notImplemented)) s) :=
  .of_wp fun prog w A R s h => by
    obtain ⟨hp, g, d, tk, os⟩ := s; obtain ⟨hl, h⟩ := h
    unfold PySem.W.instObj at hl
    wp_walk using wpAny_loadPart' hl, wpAny_load hl
    exact ⟨_, rfl, h⟩
theorem int_declines_inst (b : Int) (u : Tok) (l C dx : Addr) :
    Meets (Builtin.«int.__eq__» ⟨[.int b u, .ref l], []⟩) (fun _ R s => s.heap.get? l = some (PySem.W.instObj C dx) ∧ R (.ok (.ret .notImplemented)) s) :=
  .of_wp fun prog w A R s h => by
    obtain ⟨hp, g, d, tk, os⟩ := s; obtain ⟨hl, h⟩ := h
    unfold PySem.W.instObj at hl
    wp_walk using wpAny_loadPart' hl, wpAny_load hl
    exact ⟨_, rfl, h⟩
end Sw
namespace Sw
open PySem PySem.Spec PyProof.Rows L2
open AutoSeq1 (wpAny_loadPart')
section
variable {X : Cx} {k : Nat} {f C : Addr} {fd : FuncData} {ps : List Str} {sp : Sp}
/-- what a class that is no built-in's subclass tells -/
structure NoSub (K : PySem.W.Frag) (C : Addr) : Prop where
  no : ∀ T ∈ ["NoneType", "int", "str", "list", "tuple", "dict"], PySem.W.subIn K (.ref C) (.type T) = some false
/-- x == o: x None, an int, a text, a list, a tuple -/
def rEqRefl (K : PySem.W.Frag) (C : Addr) (sp : Sp) : R2 := fun x y H Q => ∃ a dx fs, y = .ref a ∧ H a = some (.ins C dx fs) ∧ (x = .non ∨ (∃ i, x = .int i) ∨ (∃ z, x = .str z) ∨ (∃ l xs, x = .ref l ∧ SqL K H l xs) ∨ (∃ l xs, x = .ref l ∧ SqT K H l xs) ∨ (∃ l kvs, x = .ref l ∧ Rd H l (.dK kvs))) ∧
  sp [.ref a, x] H (fun v H' => ∃ b, v = .bl b ∧ Q (.bl b) H') E0
theorem op_eqRefl (hu : X.A.units + 64 < cLine) (nsub : NoSub X.K C) (hs : SpM X.K C "__eq__" f) (F : FnOk X.prog X.w X.K X.mg X.base CX0 k f fd ps sp) (hr : Room k X.A) (hb : Binds X.K fd ps []) : OpR X (compareOp .Eq) (rEqRefl X.K C sp) := by
  intro pins s σ H x y v u Q I rx ry h
  obtain ⟨a, dx, fs, rfl, ea, kind, h⟩ := h
  obtain rfl : u = Value.ref a := ry
  obtain ⟨mA, O, _, _, _, _⟩ := ins_get I.hok ea
  obtain ⟨od, J, _⟩ := O.look
  have ho : s.heap.get? a = some (PySem.W.instObj C dx) := J.at_
  show wpAny (model X.prog X.w) X.A (richCompare .Eq v (.ref a)) (EP X pins σ Q) X.xe s
  rcases kind with rfl | ⟨i, rfl⟩ | ⟨z, rfl⟩ | ⟨l, xs, rfl, hl⟩ | ⟨l, xs, rfl, hl⟩ | ⟨l, kvs, rfl, hl⟩
  · obtain rfl : v = Value.none := rx
    exact rc_reflect (Ta := "NoneType") hu I ea rfl PySem.F.slot_NoneType_eq (nsub.no _ (by simp)) (fun _ hq => call_gives PySem.F.slot_NoneType_eq rfl PySem.F.entry_NoneType_eq (PySem.F.args_NoneType_eq_2 _ _) (PySem.SeqAt.NoneType___eq___none_ref_0 a) hq) hs F hr hb (y := .non) rfl h
  · obtain ⟨t, rfl⟩ := rx
    exact rc_reflect (Ta := "int") hu I ea rfl PySem.slot_int_eq (nsub.no _ (by simp)) (fun _ hq => call_meets PySem.slot_int_eq rfl PySem.F.entry_int_eq (PySem.F.args_int_eq_2 _ _) (int_declines_inst i t a C dx) ⟨ho, hq⟩) hs F hr hb (y := .int i) ⟨t, rfl⟩ h
  · obtain ⟨t, rfl⟩ := rx
    exact rc_reflect (Ta := "str") hu I ea rfl PySem.F.slot_str_eq (nsub.no _ (by simp)) (fun _ hq => call_meets PySem.F.slot_str_eq rfl PySem.F.entry_str_eq (PySem.F.args_str_eq_2 _ _) (str_declines_inst z t a C dx) ⟨ho, hq⟩) hs F hr hb (y := .str z) ⟨t, rfl⟩ h
  · obtain rfl : v = Value.ref l := rx
    obtain ⟨its, rv, ⟨o, n, hol, hcl, _, hdl⟩, hz⟩ := I.list hl
    have Ll : PySem.W.Looks (model X.prog X.w) s.heap (isInstance (.ref a) (.type "list")) false := J.type.andThen (PySem.W.looks_subIn I.kIn (nsub.no "list" (by simp)))
    have no : ∀ {A : Around} {E : Value → Shared → Prop} {Q : Bool → Shared → Prop}, Q false s → wpAny (model X.prog X.w) A (isInstance (.ref a) (.type "list")) Q E s := fun q => Ll.here q
    refine rc_reflect (Ta := "list") hu I ea ⟨o, hol, hcl⟩ PySem.F.slot_list_eq (nsub.no _ (by simp)) (fun Q' hq => wpAny_call_entry PySem.F.slot_list_eq ⟨o, hol, hcl⟩ PySem.F.entry_list_eq ?_ (PySem.F.args_list_eq_2 _ _)) hs F hr hb (y := .ref l) rfl h
    obtain ⟨hp, g, d, tk, os⟩ := s
    wp_walk using no
    all_goals exact ⟨_, rfl, hq⟩
  · obtain rfl : v = Value.ref l := rx
    obtain ⟨its, rv, ⟨o, hol, hcl, n, hdl⟩, hz⟩ := I.tuple hl
    have Ll : PySem.W.Looks (model X.prog X.w) s.heap (isInstance (.ref a) (.type "tuple")) false := J.type.andThen (PySem.W.looks_subIn I.kIn (nsub.no "tuple" (by simp)))
    have no : ∀ {A : Around} {E : Value → Shared → Prop} {Q : Bool → Shared → Prop}, Q false s → wpAny (model X.prog X.w) A (isInstance (.ref a) (.type "tuple")) Q E s := fun q => Ll.here q
    refine rc_reflect (Ta := "tuple") hu I ea ⟨o, hol, hcl⟩ PySem.F.slot_tuple_eq (nsub.no _ (by simp)) (fun Q' hq => wpAny_call_entry PySem.F.slot_tuple_eq ⟨o, hol, hcl⟩ PySem.F.entry_tuple_eq ?_ (PySem.F.args_tuple_eq_2 _ _)) hs F hr hb (y := .ref l) rfl h
    obtain ⟨hp, g, d, tk, os⟩ := s
    wp_walk using no
    all_goals exact ⟨_, rfl, hq⟩
  · obtain rfl : v = Value.ref l := rx
    obtain ⟨_, hd, vs, rel, o, es, ep, hol, hcl, hdl, _⟩ := dk_rd I.hok hl
    have Ll : PySem.W.Looks (model X.prog X.w) s.heap (isInstance (.ref a) (.type "dict")) false := J.type.andThen (PySem.W.looks_subIn I.kIn (nsub.no "dict" (by simp)))
    have no : ∀ {A : Around} {E : Value → Shared → Prop} {Q : Bool → Shared → Prop}, Q false s → wpAny (model X.prog X.w) A (isInstance (.ref a) (.type "dict")) Q E s := fun q => Ll.here q
    refine rc_reflect (Ta := "dict") hu I ea ⟨o, hol, hcl.1⟩ PySem.F.slot_dict_eq (nsub.no _ (by simp)) (fun Q' hq => wpAny_call_entry PySem.F.slot_dict_eq ⟨o, hol, hcl.1⟩ PySem.F.entry_dict_eq ?_ (PySem.F.args_dict_eq_2 _ _)) hs F hr hb (y := .ref l) rfl h
    obtain ⟨hp, g, d, tk, os⟩ := s
    wp_walk using no
    all_goals exact ⟨_, rfl, hq⟩
end
end Sw

set_option Elab.async false
set_option linter.all false
set_option maxRecDepth 100000
set_option maxHeartbeats 4000000
/-! A local that holds a class is called. -/
namespace Sw
open PySem PySem.Spec PyProof.Rows L2
section
variable {X : Cx} {CX : CXT} {k i : Nat} {f C : Addr} {fd : FuncData} {ps : List Str} {sp : Sp} {dvs : List V} {ds : List Value} {E : XK} {x : Str} {p pos : Pos} {e : Expr} {es : List Expr} {t : TA}
/-- c(e, ..), the i-th slot holds the class at C -/
def tMakeL (i : Nat) (C : Addr) (sp : Sp) (dvs : List V) (E : XK) (t : TA) : TE := fun σ H Q => σ[i]? = some (some (.ref C)) ∧ tMake C sp dvs E t σ H Q
theorem pe_makeL (M : Mk X.K C f) (F : FnOk X.prog X.w X.K X.mg X.base CX k f fd ps sp) (hr : Room (k + 1) X.A) (hN : X.N[i]? = some x) (hv : Vis X.env.scope x) (hb : Binds X.K fd ps ds) (hd : Vals dvs ds) (hx : Passes CX X E) (ha : PA X (e :: es) t)
    (hdb : (x == ("__debug__" : Str)) = false := by decide) (hcd : (x == ("__classdict__" : Str)) = false := by decide)
    (he : starEach (e :: es) X.env = (false, eval e X.env) :: starEach es X.env := by rfl) (hpl : (backTo pos (starEach es X.env)).any (·.1) = false := by rfl) : PE X (.Call (.Name x p) (e :: es) [] pos) (tMakeL i C sp dvs E t) := by
  refine ⟨fun pins s σ H Q I h => ?_⟩
  obtain ⟨hs, ht⟩ := h
  refine wpAny_Call_Name_kw (thn ((pe_var (pos := p) hN hv hdb hcd).run pins s σ H (fun v H1 => v = .ref C ∧ H1 = H) I ⟨.ref C, hs, rfl, rfl⟩) fun u s1 ⟨v, H1, I1, r1, q1⟩ => ?_)
  obtain ⟨rfl, rfl⟩ := q1
  cases r1
  refine PySem.W.callWith_K (h₀ := X.base) I.ok.mod.kin M.kp (thn (ha.run pos pins s1 σ _ _ I1 ht) fun us s2 ⟨vs, H2, I2, r, q⟩ => ⟨I2.kIn, ?_⟩) he hpl
  exact run_make M F hr hb hd hx I2 r q
end
end Sw

set_option Elab.async false
set_option linter.all false
set_option maxRecDepth 100000
set_option maxHeartbeats 4000000
/-! .get of a written dict with text keys. -/
namespace Sw
open PySem PySem.Spec PyProof.Rows L2
section
variable {X : Cx} {d : Addr} {es : Array DictEntry} {n : Nat} {o e : Expr} {apos cpos : Pos} {td ty : TE}
/-- D.get(e), D a written dict: its key a text -/
def tKGet1 (K : PySem.W.Frag) (d : Addr) (td ty : TE) : TE := fun σ H Q => td σ H fun x H1 => x = .ref d ∧ ty σ H1 fun y H2 => ∃ (z : Str) (r : Option Value) (v : V), y = .str z ∧ PySem.W.nsIn K d z = some r ∧ RelV v (r.getD .none) ∧ Q v H2
theorem pe_kget1 (K : PySem.W.Frag) (hK : X.K = K) (D : KDict X.K X.w d es n) (ho : PE X o td) (he : PE X e ty) (m : M1 X o "get" apos e cpos) : PE X (.Call (.Attribute o "get" apos) [e] [] cpos) (tKGet1 K d td ty) := by
  subst hK
  refine ⟨fun pins s σ H Q I h => ?_⟩
  refine wpAny_Call_method m.base m.few m.line PySem.F.plainAttrs_dict PySem.F.slot_dict_get PySem.F.type_dict_get (thn (ho.run pins s σ H _ I h) fun u s1 ⟨x, H1, I1, rx, ex, q1⟩ => ?_)
  subst ex
  obtain rfl : u = Value.ref d := rx
  refine ⟨kd_type D I1, fun b q => ?_, ?_⟩
  · cases q
    exact ⟨_, I1.kIn _ _ D.at_, rfl⟩
  rw [m.trees]
  refine Calls.callWith_builtin rfl (Calls.evalArgs_plain (Calls.spliced_cons (thn (he.run pins s1 σ H1 _ I1 q1) fun iv s2 ⟨y, H2, I2, ry, z, r, v, ey, hz, hv, q2⟩ => Calls.spliced_nil ?_)))
  subst ey
  obtain ⟨t, rfl⟩ := ry
  refine call_meetsIn PySem.F.slot_dict_get (kd_type D I2) PySem.F.entry_dict_get (PySem.F.args_dict_get_2 _ _) (meets_dict_get (strKind X.prog X.w) d (PySem.strKind_is X.prog X.w z t) D.low) ⟨_, PySem.W.mapOf_K (prog := X.prog) (w := X.w) I2.kIn D.at_ D.lit, ?_⟩
  rw [PySem.W.find_K D.at_ hz]
  exact ⟨v, H2, I2.tok _, hv, q2⟩
end
end Sw

set_option Elab.async false
set_option linter.all false
set_option maxRecDepth 100000
set_option maxHeartbeats 4000000
/-! A classmethod called by keywords alone. -/
namespace Sw
open PySem PySem.Spec PyProof.Rows L2 ClX
/-- C.m(k = v, ..), m a classmethod of the class at C -/
def tCMethK (C : Addr) (n : Nat) (sp : Sp) (gV : List V → List V → List V) (E : XK) (ta : TE) (tk : TA) : TE := fun σ H Q => ta σ H fun x H1 => x = .ref C ∧ tk σ H1 fun zs H2 => zs.length = n ∧ sp (gV [.ref C] zs) H2 Q E
section
variable {X : Cx} {CX : CXT} {k : Nat} {C p f : Addr} {mc : Value} {fd : FuncData} {ps ks : List Str} {sp : Sp} {E : XK} {m : Str} {apos pos : Pos} {o : Expr} {kws : List Keyword} {ta : TE} {tk : TA} {g : List Value → List Value → List Value} {gV : List V → List V → List V}
theorem pe_cmethK0 {pl : Sem Bool} (he : PE X o ta) (r : CRead X.K C mc) (c : CMet X.K C mc m p f) (F : FnOk X.prog X.w X.K X.mg X.base CX k f fd ps sp) (hr : Room k X.A) (hb : KBn X.K fd ps 1 ks g gV) (hx : Passes CX X E) (hkw : PK X kws tk)
    (hall : (backToKw pos (keywordEach kws X.env)).all (·.1.isSome) = true := by rfl) (hks : (backToKw pos (keywordEach kws X.env)).filterMap (·.1) = ks := by rfl)
    (hpl : ((backTo pos (starEach [] X.env)).any (·.1) || (backToKw pos (keywordEach kws X.env)).any (·.1.isNone)) = false := by rfl)
    (ht : eval (.Call (.Attribute o m apos) [] kws pos) X.env = (do
      let ov ← eval o X.env
      standAt apos.atName
      let (f, first) ← holding [ov] (getMethod ov m pl)
      callWith pos f first (backTo pos (starEach [] X.env)) (backToKw pos (keywordEach kws X.env))) := by rfl) :
    PE X (.Call (.Attribute o m apos) [] kws pos) (tCMethK C ks.length sp gV E ta tk) := by
  refine ⟨fun pins s σ H Q I h => ?_⟩
  refine PySem.W.methodCall_KW (pl := pl) (thn (he.run pins s σ H _ I h) fun u s1 ⟨x, H1, I1, rx, ex, q⟩ => ?_) ht
  subst ex
  obtain rfl : u = Value.ref C := rx
  refine getmethcm_ok I1 r c fun s2 I2 => ?_
  refine PySem.W.callWith_of (P := PySem.W.MethP X.K s1.heap.objs.size f (.ref C)) hpl (PySem.W.keeps_M c.fi) (PyProof.Rows.evalArgs_kw2_nil hall ?_)
  refine thn (hkw.run pos _ s2 σ H1 _ I2 q) fun ws s3 ⟨zs, H2, I3, rz, l2, q2⟩ => ⟨⟨pin_at I3, I3.kIn⟩, ?_⟩
  rw [hks]
  have r1 : Vals [V.ref C] [Value.ref C] := .cons rfl .nil
  have z : wpAny (model X.prog X.w) X.A (call (.ref s1.heap.objs.size) [] (ks.zip ws)) (EP X ((s1.heap.objs.size, PySem.W.methodObj (.ref f) (.ref C)) :: pins) σ Q) X.xe s3 := by
    refine wpAny_call (PySem.W.method_call (pin_at I3) (codeAny_mono (F.run X.A X.stack s3 H2 ⟨[.ref C], ks.zip ws⟩ (g [.ref C] ws) (gV [.ref C] zs) Q E hr I3.env0 (hb.to s3 [.ref C] ws I3.kIn rfl (rz.length.symm.trans l2)) (hb.rel r1 rz) q2) fun r s' hq => ?_))
    cases r with
    | error e => exact hx _ σ H2 s3 e s' I3 hq
    | ok fl =>
      cases fl with
      | ret u => exact I3.after hq
      | next => exact False.elim hq
      | brk => exact False.elim hq
      | cont => exact False.elim hq
  exact thn z fun _ _ y => unpinE y
end
end Sw

set_option Elab.async false
set_option linter.all false
set_option maxRecDepth 100000
set_option maxHeartbeats 4000000
/-! t[::-1]; str(t); bool(o) of what has neither __bool__ nor __len__. -/
namespace Sw
open PySem PySem.Spec PyProof.Rows L2 HT
section
variable {prog : Program} {w : World} {A : Around} {E : Value → Shared → Prop} {s : Shared}
theorem sliceApplied_rev {sl : Addr} {tk : Tok} {n : Nat} {Q : Int × Int × Nat → Shared → Prop} (hs : s.heap.IsSliceOf sl .none .none (.int (-1) tk))
    (h : Q (((n : Int) - 1), -1, n) s) : wpAny (model prog w) A (Builtin.Slice.sliceApplied (.ref sl) (pure (n : Int))) Q E s := by
  obtain ⟨os, hos, hcs, hds⟩ := id hs
  unfold Builtin.Slice.sliceApplied Builtin.Slice.sliceFields
  refine wpAny_bind (wpAny_bind (wpAny_field hos hds (x := .none) rfl (wpAny_bind (wpAny_field hos hds (x := .none) rfl (wpAny_bind (wpAny_field hos hds (x := .int (-1) tk) rfl (wpAny_pure ?_)))))))
  refine wpAny_bind (slicePart_int ?_)
  show wpAny _ _ (if ((-1 : Int) == 0) = true then _ else _) _ _ s
  rw [if_neg (by decide)]
  refine wpAny_bind (slicePart_none (wpAny_bind (slicePart_none (wpAny_bind (wpAny_pure ?_)))))
  show wpAny _ _ (match Builtin.Slice.sliceAdjust none none (-1) (n : Int) with | (lo, hi) => pure (lo, (-1 : Int), Builtin.Slice.slicePlaces lo hi (-1))) _ _ s
  have e : Builtin.Slice.sliceAdjust none none (-1) (n : Int) = ((n : Int) - 1, -1) := by
    unfold Builtin.Slice.sliceAdjust
    simp
  rw [e]
  show wpAny _ _ (pure ((n : Int) - 1, (-1 : Int), Builtin.Slice.slicePlaces ((n : Int) - 1) (-1) (-1))) _ _ s
  have e2 : Builtin.Slice.slicePlaces ((n : Int) - 1) (-1) (-1) = n := by
    unfold Builtin.Slice.slicePlaces
    simp
    omega
  rw [e2]
  exact wpAny_pure h
theorem pick_rev (xs : Array Value) : ((List.range xs.size).filterMap fun (m : Nat) => xs[(((xs.size : Int) - 1) + (m : Int) * (-1)).toNat]?).toArray = xs.toList.reverse.toArray := by
  congr 1
  apply List.ext_getElem?
  intro i
  have e : ∀ m, m < xs.size → (((xs.size : Int) - 1) + (m : Int) * (-1)).toNat = xs.size - 1 - m := fun m h => by omega
  have key : ∀ k, k ≤ xs.size → (List.range k).filterMap (fun (m : Nat) => xs[(((xs.size : Int) - 1) + (m : Int) * (-1)).toNat]?) = (xs.toList.reverse).take k := by
    intro k
    induction k with
    | zero => intro _; simp
    | succ k ih =>
      intro hk
      rw [List.range_succ, List.filterMap_append, ih (by omega), List.take_succ]
      congr 1
      have hr : (xs.toList.reverse)[k]? = xs[xs.size - 1 - k]? := by
        rw [List.getElem?_reverse (by simp; omega)]
        simp
      rw [hr]
      have h2 : xs.size - 1 - k < xs.size := by omega
      have h3 := e k hk
      rw [List.filterMap_cons, h3]
      simp [h2]
  rw [key xs.size (Nat.le_refl _)]
  have : xs.size = xs.toList.reverse.length := by simp
  rw [this, List.take_length]
theorem getItem_tuple_rev {t sl : Addr} {items : Array Value} {tk : Tok} {Q : Value → Shared → Prop} (ht : IsTup s.heap t items) (hs : s.heap.IsSliceOf sl .none .none (.int (-1) tk))
    (h : Q (.ref s.heap.objs.size) { s with heap := s.heap.push { cls := .type "tuple", data := .seq items.toList.reverse.toArray } })
    (hsz : items.size ≤ sizeLine) : wpAny (model prog w) A (getItem (.ref t) (.ref sl)) Q E s := by
  have htake : sizeOk (.seq items.toList.reverse.toArray) := by
    show items.toList.reverse.toArray.size ≤ sizeLine
    rw [List.size_toArray, List.length_reverse, Array.length_toList]
    omega
  obtain ⟨os, hos, hcs, hds⟩ := id hs
  have hTs : s.TypeIs (.ref sl) "slice" := ⟨os, hos, hcs⟩
  unfold getItem
  try with_reducible refine wpAny_holding ?_
  first | refine wpAny_bind (wpAny_pure ?_) | skip
  refine wpAny_bind (wpAny_sequenceKey ht.typeIs (by decide) ?_)
  refine wpAny_bind (wpAny_callSpecial?_slot (name := Str.ofString "__getitem__") ht.typeIs PyProof.Rows.slot_tuple_getitem
    (wpAny_call_entry PyProof.Rows.slot_tuple_getitem ht.typeIs entry_tuple_getitem ?_ (args_tuple_getitem _ _)))
  show wpAny _ _ (Builtin.Tuple.tupleItemsOf (.ref t) >>= _) _ _ s
  refine wpAny_bind (tupleItemsOf_ ht ?_)
  refine wpAny_bind (wpAny_typeOf hTs ?_)
  rw [if_pos (by decide)]
  refine wpAny_bind (sliceApplied_rev hs ?_)
  have hno : ¬ ((((items.size : Int) - 1) == 0 && (-1 : Int) == 1 && items.size == items.size) = true) := by
    intro q
    rw [Bool.and_eq_true, Bool.and_eq_true] at q
    exact absurd q.1.2 (by decide)
  show wpAny _ _ (if ((((items.size : Int) - 1) == 0 && (-1 : Int) == 1 && items.size == items.size) = true) then _ else _) _ _ s
  rw [if_neg hno, pick_rev]
  first
    | exact wpAny_bind (m := Builtin.Tuple.tupleExact _) (wpAny_newObj_type (wpAny_pure ⟨_, rfl, wpAny_pure h⟩) htake)
    | exact wpAny_bind (m := Builtin.Tuple.tupleExact _) (wpAny_newObj_type (wpAny_bind (wpAny_pure (wpAny_pure ⟨_, rfl, wpAny_pure h⟩))) htake)
    | exact wpAny_bind (wpAny_bind (m := Builtin.Tuple.tupleExact _) (wpAny_newObj_type (wpAny_pure (wpAny_pure ⟨_, rfl, wpAny_pure h⟩)) htake))
    | exact wpAny_bind (wpAny_bind (m := Builtin.Tuple.tupleExact _) (wpAny_newObj_type (wpAny_pure ⟨_, rfl, wpAny_pure h⟩) htake))
end
section
variable {X : Cx} {e f : Expr} {te tf : TE} {pos p2 : Pos}
/-- t[::-1] -/
def tRev (K : PySem.W.Frag) (te tf : TE) : TE := fun σ H Q => te σ H fun x H1 => tf σ H1 fun y H2 => ∃ a xs, y = .int (-1) ∧ x = .ref a ∧ SqT K H2 a xs ∧ ∀ p, H2 p = none → Q (.ref p) (upd H2 p (.tup xs.reverse))
theorem reverse'V : ∀ {xs : List V} {us : List Value}, Vals xs us → Vals xs.reverse us.reverse
  | _, _, .nil => .nil
  | _, _, .cons r t => by
    rw [List.reverse_cons, List.reverse_cons]
    exact (reverse'V t).append (.cons r .nil)
theorem pe_rev (K : PySem.W.Frag) (hK : X.K = K) (he : PE X e te) (hf : PE X f tf) : PE X (.Subscript e (.Slice none none (some f) p2) pos) (tRev K te tf) := by
  subst hK
  refine ⟨fun pins s σ H Q I h => ?_⟩
  refine Subscript_ (thn (he.run pins s σ H _ I h) fun v s1 ⟨x, H1, I1, r1, q1⟩ => ?_)
  refine wpAny_Slice ?_
  rw [evalPart_none]
  refine wpAny_pure ?_
  refine wpAny_pure ?_
  rw [evalPart_some]
  refine thn (hf.run pins s1 σ H1 _ I1 q1) fun st s3 ⟨y, H3, I3, r3, a, xs, ey, ex, hx, q⟩ => ?_
  subst ey
  subst ex
  obtain ⟨tk, rfl⟩ := r3
  obtain rfl : v = Value.ref a := r1
  have I4 : Inv X pins σ H3 { s3 with heap := s3.heap.push { cls := .type "slice", data := .fields #[.none, .none, .int (-1) tk] } } := I3.kept (t' := s3.toks) fun b ob q => Heap.get?_push_of_some _ q
  obtain ⟨its, r, ht, hz⟩ := I4.tuple hx
  have hlen : its.toArray.size = xs.length := by rw [List.size_toArray]; exact r.length.symm
  show wpAny (model X.prog X.w) X.A (subscriptTail e (.Slice none none (some f) p2) (.ref a) (.ref s3.heap.objs.size)) (EP X pins σ Q) X.xe { s3 with heap := s3.heap.push { cls := .type "slice", data := .fields #[.none, .none, .int (-1) tk] } }
  refine tail_any (ops := [.ref a, .ref s3.heap.objs.size]) ht.typeIs PyProof.Rows.slot_tuple_getitem.lookup (getItem_tuple_rev ht ⟨_, Heap.get?_push_size _ rfl, rfl, rfl⟩ ?_ (by rw [hlen]; exact hz)) (by with_unfolding_all rfl)
  refine ⟨.ref _, _, I4.laid (t' := s3.toks) (o := .tup xs.reverse) (fun b ob q => Heap.get?_push_of_some _ q) (Nat.le_refl _) ?_, rfl, q _ (I4.hok.fresh (Nat.le_refl _))⟩
  exact ⟨by rw [List.length_reverse]; exact hz, _, reverse'V r, IsTup.new _ _⟩
end
end Sw

set_option Elab.async false
set_option linter.all false
set_option maxRecDepth 100000
set_option maxHeartbeats 4000000
/-! str(t) of a tuple of data; bool(o) of what has neither __bool__ nor __len__. -/
namespace Sw
open PySem PySem.Spec PyProof.Rows L2
section
variable {X : Cx} {C : Addr}
def rStrT (K : PySem.W.Frag) : List V → Hp → VK → Prop := fun xs H Q =>
  ∃ a d, xs = [.ref a] ∧ Dx K H (.ref a) d ∧ d.showable = true ∧ d.shown.length ≤ sizeLine ∧ d.depth ≤ 60 ∧ Q (V.str d.shown) H
theorem call_strT (K : PySem.W.Frag) (hK : X.K = K) (fr : Free0 X.A) (hu : X.A.units + 64 < cLine) : CallR X (.type "str") (rStrT K) := by
  subst hK
  intro pins s σ H xs us Q I r h
  obtain ⟨a, d, rfl, hd, hs, hz, hp, q⟩ := h
  obtain ⟨u, rfl, ru⟩ := vals1 r
  cases ru
  obtain ⟨as, rd, nm⟩ := hd.ref I
  exact str_of_reads rd hs nm fr (by omega) (fun _ _ z => z) (fun h' t tk hk => ⟨.str d.shown, H, I.kept (t' := tk) hk, ⟨t, rfl⟩, q⟩) hz
/-- bool(o), always True -/
def rBoolNo (C : Addr) : List V → Hp → VK → Prop := fun vs H Q => ∃ a dx fs, vs = [.ref a] ∧ H a = some (.ins C dx fs) ∧ Q (.bl true) H
theorem call_boolNo (hnl : PySem.W.findIn X.K (.ref C) "__len__" = some none) (hnb : PySem.W.findIn X.K (.ref C) "__bool__" = some none) : CallR X (.type "bool") (rBoolNo C) := by
  intro pins s σ H vs us Q I r h
  obtain ⟨a, dx, fs, rfl, ea, h⟩ := h
  obtain ⟨u, rfl, ru⟩ := vals1 r
  obtain rfl : u = Value.ref a := ru
  obtain ⟨mA, O, _, _, _, _⟩ := ins_get I.hok ea
  obtain ⟨od, J, _⟩ := O.look
  have tr : wpAny (model X.prog X.w) X.A.in1.in1 (truthy (.ref a)) (fun b s' => EP X pins σ Q (.bool b) s') X.xe s := by
    unfold truthy
    refine wpAny_bind (m := callSpecial? (.ref a) (Str.ofString "__bool__")) (wpAny_bind (wpAny_bind (J.type.here ((PySem.W.looks_findIn I.kIn hnb).here (wpAny_pure ?_)))))
    refine wpAny_bind (wpAny_bind (J.type.here ((PySem.W.looks_findIn I.kIn hnl).here ?_)))
    rw [if_pos (by simp)]
    exact wpAny_pure ⟨.bl true, H, I, rfl, h⟩
  refine callType_codes (T := "bool") (Bi := Builtin.«object.__init__») (Q₁ := fun r s₁ => ∃ b, r = .bool b ∧ EP X pins σ Q (.bool b) s₁) PySem.F.called_bool (PySem.F.typeCall_bool_1 _) PySem.F.entry_object_init ?_ ?_
  · refine codeAny_of_tree ?_
    show wpAny _ X.A.in1.in1 (do checkBuiltinCall "bool.__new__" ⟨[.type "bool", .ref a], []⟩; again (.builtin "bool.__new__" ⟨[.type "bool", .ref a], []⟩)) _ _ s
    refine wpAny_bind (wpAny_of_eq (PySem.F.newCall_bool_1 _) (wpAny_pure ⟨plainId_quiet (by decide +kernel) _, codeAny_builtin PySem.F.entry_bool_new ?_⟩))
    rw [Around.under_plainId (by decide +kernel) _]
    have f1 := PySem.F.conv_sub_bool
    unfold Builtin.«bool.__new__»
    repeat (any_goals (first | assumption | (with_reducible refine wpAny_bind (m := truthy (.ref a)) (wpAny_mono tr (fun b s1 hb1 => ?_) fun _ _ e => e)) | wp_step))
    exact ⟨b, rfl, hb1⟩
  · rintro obj s₁ ⟨b, rfl, hq⟩
    exact ⟨rfl, PySem.F.args_object_init_2 _ _, object_init_meets PySem.F.called_bool.init.lookup PySem.F.called_bool.made (by decide) _ _ X.A.in1 _ s₁ ⟨rfl, rfl, hq⟩⟩
end
end Sw

set_option Elab.async false
set_option linter.all false
set_option maxRecDepth 100000
set_option maxHeartbeats 4000000
/-! tuple(xs) as an object that is known; t.index(x) of such. -/
namespace Sw
open PySem PySem.Spec PyProof.Rows L2
section
variable {X : Cx}
/-- tuple(xs) of a list: a new tuple without a dict -/
def kTupN (K : PySem.W.Frag) (x : V) (H : Hp) (Q : VK) : Prop := ∃ p xs, x = .ref p ∧ SqL K H p xs ∧ ∀ q ob, H q = none → ob.dict = none → Q (.ref q) (upd H q (.frz ob (.tup xs)))
theorem rl_tupleN (pins : List (Addr × Obj)) (s : Shared) (σ : L2.St) (H : Hp) (x : V) (v : Value) (Q : VK) (I : Inv X pins σ H s) (r : RelV x v) (h : kTupN X.K x H Q) :
    wpAny (model X.prog X.w) X.A (call (.type "tuple") [v]) (EP X pins σ Q) X.xe s := by
  obtain ⟨p, xs, rfl, hs, q⟩ := h
  obtain rfl : v = .ref p := r
  obtain ⟨its, rv, pl, hz⟩ := I.list hs
  refine call_tuple_list pl.isList (fun h' hk => ?_) (by rw [List.size_toArray, ← rv.length]; exact hz)
  have I1 : Inv X pins σ H { s with heap := h' } := I.kept (t' := s.toks) hk
  have I2 : Inv X pins σ (upd H h'.objs.size (.frz { cls := .type "tuple", data := .seq its.toArray } (.tup xs))) { s with heap := h'.push { cls := .type "tuple", data := .seq its.toArray } } :=
    I1.laid (t' := s.toks) (fun b o e => Heap.get?_push_of_some _ e) (Nat.le_refl _) (show ObjOk X.prog X.w _ _ _ (.frz _ (.tup xs)) from ⟨Heap.get?_push_size _ rfl, hz, its, rv, IsTup.new _ _⟩)
  exact ⟨.ref h'.objs.size, upd H h'.objs.size (.frz _ (.tup xs)), I2, rfl, q _ _ (I1.hok.fresh (Nat.le_refl _)) rfl⟩
theorem pe_tupleN {a : Expr} {ta : TE} {p pos : Pos} (K : PySem.W.Frag) (hK : X.K = K) (hg : Gl X "tuple") (hm : X.mg "tuple" = none) (ha : PE X a ta) (na : starEach [a] X.env = (false, eval a X.env) :: starEach [] X.env := by rfl) :
    PE X (.Call (.Name "tuple" p) [a] [] pos) (tThen ta (kTupN K)) := by
  subst hK
  refine ⟨fun pins s σ H Q I h => ?_⟩
  exact Call_ (ld_blt I hg hm boot_tuple (PyProof.Rows.callWith_type1 (one_arg ha I h (fun v s2 x H2 I2 r q => rl_tupleN pins s2 σ H2 x v Q I2 r q) na) na))
/-- t.index(x) -/
def tTIx (to : TE) (t : TA) (r : V → List V → Hp → VK → Prop) : TE := fun σ H Q => to σ H fun x H1 => (∃ a ob xs, x = .ref a ∧ H1 a = some (.frz ob (.tup xs)) ∧ ob.dict = none) ∧ t σ H1 fun xs H2 => r x xs H2 Q
variable {o e : Expr} {es : List Expr} {to : TE} {t : TA} {name : Str} {apos cpos : Pos} {id : String} {r : V → List V → Hp → VK → Prop}
theorem pe_tm (slot : Slot "tuple" name id) (hty : typeOf (.builtin id) = pure (.type "method_descriptor")) (hm : MtR X id r) (ho : PE X o to) (ha : PA X (e :: es) t)
    (hbase : attributeBase o name X.env (eval o X.env) = eval o X.env := by rfl)
    (hfew : ((backTo cpos (starEach (e :: es) X.env)).all (fun x => !x.1) && (backToKw cpos (keywordEach [] X.env)).all (fun x => x.1.isSome)
      && decide ((e :: es).length + ([] : List Keyword).length + (if ([] : List Keyword).isEmpty then 0 else 1) < 30)) = true := by rfl)
    (hline : (apos.endLine == cpos.line) = true := by rfl) (hs : starEach (e :: es) X.env = (false, eval e X.env) :: starEach es X.env := by rfl) (hplain : (backTo cpos (starEach es X.env)).any (·.1) = false := by rfl) :
    PE X (.Call (.Attribute o name apos) (e :: es) [] cpos) (tTIx to t r) := by
  refine ⟨fun pins s σ H Q I h => ?_⟩
  refine wpAny_Call_method_late hbase hfew hline rfl (thn (ho.run pins s σ H _ I h) fun v s1 ⟨x, H1, I1, r1, ⟨a, ob, xs, ex, eh, nd⟩, q1⟩ => ?_)
  subst ex
  obtain rfl : v = .ref a := r1
  obtain ⟨g, hz, its, rv, pl⟩ := I1.hok a _ eh
  obtain ⟨o1, ho1, hc1, _⟩ := pl
  refine ⟨"tuple", id, PySem.F.plainAttrs_tuple, slot, hty, ⟨o1, ho1, hc1⟩, (fun b e => by cases e; exact ⟨ob, g, nd⟩), ?_⟩
  have hA := ha.run cpos pins s1 σ H1 _ I1 q1
  rw [hs] at hA ⊢
  refine Calls.callWith_builtin (by show (false || (backTo cpos (starEach es X.env)).any (·.1)) = false; rw [hplain] <;> rfl) (Calls.evalArgs_plain ?_)
  exact thn hA fun us s2 ⟨vs, H2, I2, r2, q2⟩ => hm pins s2 σ H2 (.ref a) vs (.ref a) us Q I2 rfl r2 q2
end
end Sw

set_option Elab.async false
set_option linter.all false
set_option maxRecDepth 100000
set_option maxHeartbeats 4000000
/-! A mirror of the program: values as trees, a store of what changes; each reading of the hand layer has a function beside it. -/
namespace Mi
open PySem PySem.Spec PyProof.Rows L2 Sw

/-- a value as a tree -/
inductive Dv where
  | non | bl (b : Bool) | int (i : Int) | str (s : Str) | ty (n : String) | adr (a : Addr) | cls (c : Str)
  | tup (xs : List Dv) | tupN (xs : List Dv) | lst (xs : List Dv) | scr (xs : List Dv) | dic (kvs : List (Key × Dv)) | obj (c : Str) (fs : List (Str × Dv)) | mut (l : Nat)
/-- what stands in the store -/
inductive Mo where
  | lst (xs : List Dv) | dic (kvs : List (Key × Dv)) | ins (c : Str) (fs : List (Str × Dv)) | set (ks : List Key)
abbrev Sto := List Mo
abbrev Ev := List (Option Dv)
structure Gc where
  K : PySem.W.Frag
  mg : Str → Option Value
  w : World

/-- a dict that is walked is the dict -/
def base : HO → HO
  | .frz _ (.dK kvs) => .dK kvs
  | o => o
/-- what stood stands, but for locks of dicts -/
def Sm (h h' : Hp) : Prop := ∀ a o, h a = some o → ∃ o', h' a = some o' ∧ base o' = base o
theorem Sm.refl (h : Hp) : Sm h h := fun a o e => ⟨o, e, rfl⟩
theorem Sm.trans {h h1 h2 : Hp} (s : Sm h h1) (t : Sm h1 h2) : Sm h h2 := fun a o e => by
  obtain ⟨o1, e1, b1⟩ := s a o e
  obtain ⟨o2, e2, b2⟩ := t a o1 e1
  exact ⟨o2, e2, b2.trans b1⟩
theorem Sm.of {h h' : Hp} (s : Same h h') : Sm h h' := fun a o e => ⟨o, s a o e, rfl⟩
theorem base_lst {o : HO} {vs : List V} (e : base o = .lst vs) : o = .lst vs := by
  cases o <;> try exact e
  rename_i ob u
  cases u <;> cases e
theorem base_tup {o : HO} {vs : List V} (e : base o = .tup vs) : o = .tup vs := by
  cases o <;> try exact e
  rename_i ob u
  cases u <;> cases e
theorem base_ins {o : HO} {C dx : Addr} {vs : List (Str × V)} (e : base o = .ins C dx vs) : o = .ins C dx vs := by
  cases o <;> try exact e
  rename_i ob u
  cases u <;> cases e
theorem base_frzL {o : HO} {ob : Obj} {vs : List V} (e : base o = .frz ob (.lst vs)) : o = .frz ob (.lst vs) := by
  cases o <;> try (first | exact e | cases e)
  rename_i ob2 u
  cases u <;> first | exact e | cases e
theorem base_frzT {o : HO} {ob : Obj} {vs : List V} (e : base o = .frz ob (.tup vs)) : o = .frz ob (.tup vs) := by
  cases o <;> try (first | exact e | cases e)
  rename_i ob2 u
  cases u <;> first | exact e | cases e
theorem Sm.lst {h h' : Hp} (s : Sm h h') {a : Addr} {vs : List V} (e : h a = some (.lst vs)) : h' a = some (.lst vs) := by
  obtain ⟨o, e1, b⟩ := s a _ e
  rw [e1, base_lst b]
theorem Sm.tup {h h' : Hp} (s : Sm h h') {a : Addr} {vs : List V} (e : h a = some (.tup vs)) : h' a = some (.tup vs) := by
  obtain ⟨o, e1, b⟩ := s a _ e
  rw [e1, base_tup b]
theorem Sm.frzT {h h' : Hp} (s : Sm h h') {a : Addr} {ob : Obj} {vs : List V} (e : h a = some (.frz ob (.tup vs))) : h' a = some (.frz ob (.tup vs)) := by
  obtain ⟨o, e1, b⟩ := s a _ e
  rw [e1, base_frzT b]
theorem Sm.ins {h h' : Hp} (s : Sm h h') {a C dx : Addr} {vs : List (Str × V)} (e : h a = some (.ins C dx vs)) : h' a = some (.ins C dx vs) := by
  obtain ⟨o, e1, b⟩ := s a _ e
  rw [e1, base_ins b]
theorem Sm.sqt {K : PySem.W.Frag} {h h' : Hp} (s : Sm h h') {a : Addr} {vs : List V} (e : SqT K h a vs) : SqT K h' a vs := by
  rcases e with (e | ⟨ob, e⟩) | e
  · exact .inl (.inl (s.tup e))
  · obtain ⟨o, e1, b⟩ := s a _ e
    exact .inl (.inr ⟨ob, by rw [e1, base_frzT b]⟩)
  · exact .inr e
theorem Sm.sql {K : PySem.W.Frag} {h h' : Hp} (s : Sm h h') {a : Addr} {vs : List V} (e : SqL K h a vs) : SqL K h' a vs := by
  rcases e with (e | ⟨ob, e⟩) | e
  · exact .inl (.inl (s.lst e))
  · obtain ⟨o, e1, b⟩ := s a _ e
    exact .inl (.inr ⟨ob, by rw [e1, base_frzL b]⟩)
  · exact .inr e
theorem Sm.rd {h h' : Hp} (s : Sm h h') {a : Addr} {kvs : List (Key × V)} (e : Rd h a (.dK kvs)) : Rd h' a (.dK kvs) := by
  have key : ∀ o, h a = some o → base o = .dK kvs → Rd h' a (.dK kvs) := fun o e b => by
    obtain ⟨o1, e1, b1⟩ := s a o e
    rw [b] at b1
    cases o1 <;> simp only [base] at b1 <;> try (cases b1; done)
    · cases b1
      exact .inl e1
    · rename_i ob u
      cases u <;> simp only [base] at b1 <;> cases b1
      exact .inr ⟨ob, e1⟩
  rcases e with e | ⟨ob, e⟩
  · exact key _ e rfl
  · exact key _ e rfl
/-- what stood stands, and no dict is locked anew -/
structure Grow (H H' : Hp) : Prop where
  same : Same H H'
  nf : ∀ a o kvs, H' a = some (.frz o (.dK kvs)) → H a = some (.frz o (.dK kvs))
theorem Grow.refl (H : Hp) : Grow H H := ⟨Same.refl _, fun _ _ _ e => e⟩
theorem Grow.trans {H H1 H2 : Hp} (a : Grow H H1) (b : Grow H1 H2) : Grow H H2 := ⟨a.same.trans b.same, fun x o k e => a.nf x o k (b.nf x o k e)⟩
/-- hidden: what is kept as it is; whether a dict is locked -/
structure Fm where
  z : List Addr
  lk : List (Addr × HO)
/-- a locked dict -/
def isFz : HO → Bool
  | .frz _ (.dK _) => true
  | _ => false
/-- the locked dicts stand as they are, and no other dict is locked -/
def LkOk (H : Hp) (L : List Addr) (lk : List (Addr × HO)) : Prop := (∀ p ∈ lk, H p.1 = some p.2 ∧ p.1 ∉ L ∧ isFz p.2 = true) ∧ ∀ a o kvs, H a = some (.frz o (.dK kvs)) → ∃ p ∈ lk, p.1 = a
theorem LkOk.grow {H H' : Hp} {L L' : List Addr} {lk : List (Addr × HO)} (h : LkOk H L lk) (g : Grow H H') (s : ∀ a ∈ L', a ∈ L ∨ H a = none) : LkOk H' L' lk :=
  ⟨fun p m => ⟨g.same _ _ (h.1 p m).1, fun z => (s _ z).elim (h.1 p m).2.1 fun n => (by rw [(h.1 p m).1] at n; cases n), (h.1 p m).2.2⟩, fun a o k e => h.2 a o k (g.nf a o k e)⟩

mutual
inductive Rep (G : Gc) (h : Hp) (ρ : List Addr) : V → Dv → Prop
  | non : Rep G h ρ .non .non
  | bl (b : Bool) : Rep G h ρ (.bl b) (.bl b)
  | int (i : Int) : Rep G h ρ (.int i) (.int i)
  | str (z : Str) : Rep G h ρ (.str z) (.str z)
  | ty (n : String) : Rep G h ρ (.ty n) (.ty n)
  | adr (a : Addr) : Rep G h ρ (.ref a) (.adr a)
  | cls {C : Addr} {c : Str} : G.mg c = some (.ref C) → Rep G h ρ (.ref C) (.cls c)
  | tup {a : Addr} {vs : List V} {ds : List Dv} : SqT G.K h a vs → RepL G h ρ vs ds → Rep G h ρ (.ref a) (.tup ds)
  | tupN {a : Addr} {ob : Obj} {vs : List V} {ds : List Dv} : h a = some (.frz ob (.tup vs)) → ob.dict = none → RepL G h ρ vs ds → Rep G h ρ (.ref a) (.tupN ds)
  | lst {a : Addr} {vs : List V} {ds : List Dv} : h a = some (.lst vs) → RepL G h ρ vs ds → Rep G h ρ (.ref a) (.lst ds)
  | scr {a : Addr} {vs : List V} {ds : List Dv} : SqL G.K h a vs → RepL G h ρ vs ds → Rep G h ρ (.ref a) (.scr ds)
  | dic {a : Addr} {kvs : List (Key × V)} {ds : List (Key × Dv)} : Rd h a (.dK kvs) → kvs.map (·.1) = ds.map (·.1) → RepL G h ρ (kvs.map (·.2)) (ds.map (·.2)) → Rep G h ρ (.ref a) (.dic ds)
  | obj {a C dx : Addr} {c : Str} {fv : List (Str × V)} {fs : List (Str × Dv)} : G.mg c = some (.ref C) → h a = some (.ins C dx fv) → fv.map (·.1) = fs.map (·.1) → RepL G h ρ (fv.map (·.2)) (fs.map (·.2)) → Rep G h ρ (.ref a) (.obj c fs)
  | mut {a : Addr} {l : Nat} : ρ[l]? = some a → Rep G h ρ (.ref a) (.mut l)
inductive RepL (G : Gc) (h : Hp) (ρ : List Addr) : List V → List Dv → Prop
  | nil : RepL G h ρ [] []
  | cons {v : V} {d : Dv} {vs : List V} {ds : List Dv} : Rep G h ρ v d → RepL G h ρ vs ds → RepL G h ρ (v :: vs) (d :: ds)
end

section
variable {G : Gc} {h h' : Hp} {ρ ρ' : List Addr}
mutual
theorem Rep.mono (s : Sm h h') (p : ∀ (l : Nat) (a : Addr), ρ[l]? = some a → ρ'[l]? = some a) : ∀ {v : V} {d : Dv}, Rep G h ρ v d → Rep G h' ρ' v d
  | _, _, .non => .non
  | _, _, .bl b => .bl b
  | _, _, .int i => .int i
  | _, _, .str z => .str z
  | _, _, .ty n => .ty n
  | _, _, .adr a => .adr a
  | _, _, .cls m => .cls m
  | _, _, .tup e r => .tup (s.sqt e) (RepL.mono s p r)
  | _, _, .tupN e n r => .tupN (s.frzT e) n (RepL.mono s p r)
  | _, _, .lst e r => .lst (s.lst e) (RepL.mono s p r)
  | _, _, .scr e r => .scr (s.sql e) (RepL.mono s p r)
  | _, _, .dic e k r => .dic (s.rd e) k (RepL.mono s p r)
  | _, _, .obj m e k r => .obj m (s.ins e) k (RepL.mono s p r)
  | _, _, .mut e => .mut (p _ _ e)
theorem RepL.mono (s : Sm h h') (p : ∀ (l : Nat) (a : Addr), ρ[l]? = some a → ρ'[l]? = some a) : ∀ {vs : List V} {ds : List Dv}, RepL G h ρ vs ds → RepL G h' ρ' vs ds
  | _, _, .nil => .nil
  | _, _, .cons a r => .cons (Rep.mono s p a) (RepL.mono s p r)
end
theorem RepL.length : ∀ {vs : List V} {ds : List Dv}, RepL G h ρ vs ds → vs.length = ds.length
  | _, _, .nil => rfl
  | _, _, .cons _ r => by simp [RepL.length r]
theorem RepL.at : ∀ {vs : List V} {ds : List Dv} {i : Nat} {d : Dv}, RepL G h ρ vs ds → ds[i]? = some d → ∃ v, vs[i]? = some v ∧ Rep G h ρ v d
  | _, _, _, _, .nil, e => by simp at e
  | _, _, 0, _, .cons a _, e => by simp at e; subst e; exact ⟨_, rfl, a⟩
  | _, _, i + 1, _, .cons _ r, e => by
    obtain ⟨v, h1, h2⟩ := RepL.at (i := i) r (by simpa using e)
    exact ⟨v, by simpa using h1, h2⟩
theorem RepL.atV : ∀ {vs : List V} {ds : List Dv} {i : Nat} {v : V}, RepL G h ρ vs ds → vs[i]? = some v → ∃ d, ds[i]? = some d ∧ Rep G h ρ v d
  | _, _, _, _, .nil, e => by simp at e
  | _, _, 0, _, .cons a _, e => by simp at e; subst e; exact ⟨_, rfl, a⟩
  | _, _, i + 1, _, .cons _ r, e => by
    obtain ⟨v, h1, h2⟩ := RepL.atV (i := i) r (by simpa using e)
    exact ⟨v, by simpa using h1, h2⟩
theorem RepL.app : ∀ {vs ws : List V} {ds es : List Dv}, RepL G h ρ vs ds → RepL G h ρ ws es → RepL G h ρ (vs ++ ws) (ds ++ es)
  | _, _, _, _, .nil, q => q
  | _, _, _, _, .cons a r, q => .cons a (RepL.app r q)
theorem RepL.drop : ∀ {vs : List V} {ds : List Dv} (n : Nat), RepL G h ρ vs ds → RepL G h ρ (vs.drop n) (ds.drop n)
  | _, _, 0, q => q
  | _, _, _ + 1, .nil => .nil
  | _, _, n + 1, .cons _ r => RepL.drop n r
theorem RepL.take : ∀ {vs : List V} {ds : List Dv} (n : Nat), RepL G h ρ vs ds → RepL G h ρ (vs.take n) (ds.take n)
  | _, _, 0, q => .nil
  | _, _, _ + 1, .nil => .nil
  | _, _, n + 1, .cons a r => .cons a (RepL.take n r)
theorem RepL.of_at : ∀ {vs : List V} {ds : List Dv}, vs.length = ds.length → (∀ (i : Nat) (v : V) (d : Dv), vs[i]? = some v → ds[i]? = some d → Rep G h ρ v d) → RepL G h ρ vs ds
  | [], [], _, _ => .nil
  | [], _ :: _, e, _ => by simp at e
  | _ :: _, [], e, _ => by simp at e
  | v :: vs, d :: ds, e, f => .cons (f 0 v d rfl rfl) (RepL.of_at (by simpa using e) fun i x y h1 h2 => f (i + 1) x y (by simpa using h1) (by simpa using h2))
theorem RepL.strs : ∀ (zs : List Str), RepL G h ρ (zs.map V.str) (zs.map Dv.str)
  | [] => .nil
  | z :: zs => .cons (.str z) (RepL.strs zs)
theorem RepL.ints : ∀ (zs : List Int), RepL G h ρ (zs.map V.int) (zs.map Dv.int)
  | [] => .nil
  | z :: zs => .cons (.int z) (RepL.ints zs)
theorem RepL.bls : ∀ (zs : List Bool), RepL G h ρ (zs.map V.bl) (zs.map Dv.bl)
  | [] => .nil
  | z :: zs => .cons (.bl z) (RepL.bls zs)
theorem RepL.set : ∀ {vs : List V} {ds : List Dv} {v : V} {d : Dv} (n : Nat), RepL G h ρ vs ds → Rep G h ρ v d → RepL G h ρ (vs.set n v) (ds.set n d)
  | _, _, _, _, _, .nil, _ => .nil
  | _, _, _, _, 0, .cons _ r, q => .cons q r
  | _, _, _, _, n + 1, .cons a r, q => .cons a (RepL.set n r q)
end

/-! ### the heap without what changes -/
def hid (H : Hp) (L : List Addr) : Hp := fun a => if a ∈ L then none else H a
theorem hid_le {H : Hp} {L : List Addr} : Same (hid H L) H := fun a o e => by
  unfold hid at e
  split at e
  · cases e
  · exact e
theorem hid_of {H : Hp} {L : List Addr} {a : Addr} {o : HO} (n : a ∉ L) (e : H a = some o) : hid H L a = some o := by
  unfold hid
  rw [if_neg n]
  exact e
theorem hid_in {H : Hp} {L : List Addr} {a : Addr} {o : HO} (e : hid H L a = some o) : a ∉ L ∧ H a = some o := by
  unfold hid at e
  split at e
  · cases e
  · rename_i n
    exact ⟨n, e⟩
theorem hid_mono {H H' : Hp} {L L' : List Addr} (s : Same H H') (n : ∀ a, a ∈ L' → a ∉ L → H a = none) : Same (hid H L) (hid H' L') := fun a o e => by
  obtain ⟨h1, h2⟩ := hid_in e
  refine hid_of (fun m => ?_) (s _ _ h2)
  rw [n a m h1] at h2
  cases h2
/-- what a cell holds -/
def CellR (G : Gc) (h : Hp) (ρ : List Addr) (a : Addr) : HO → Mo → Prop
  | .lst vs, .lst ds => RepL G h ρ vs ds
  | .dK kvs, .dic ds => kvs.map (·.1) = ds.map (·.1) ∧ RepL G h ρ (kvs.map (·.2)) (ds.map (·.2))
  | .ins C _ fv, .ins c fs => G.mg c = some (.ref C) ∧ fv.map (·.1) = fs.map (·.1) ∧ RepL G h ρ (fv.map (·.2)) (fs.map (·.2))
  | .ext φ, .set ks => ks.Nodup ∧ ∃ P : Program, HO.ext φ = SetK P G.w a (fun k => ks.any fun j => decide (j = k)) ks.length
  | _, _ => False
theorem CellR.mono {G : Gc} {h h' : Hp} {ρ ρ' : List Addr} (s : Sm h h') (p : ∀ (l : Nat) (a : Addr), ρ[l]? = some a → ρ'[l]? = some a) : ∀ {a : Addr} {o : HO} {m : Mo}, CellR G h ρ a o m → CellR G h' ρ' a o m := by
  intro a o m
  cases m <;> cases o <;> intro q <;> first | exact q.elim | exact (show _ ∧ ∃ _, HO.ext _ = _ from q) | exact RepL.mono s p q | exact ⟨q.1, RepL.mono s p q.2⟩ | exact ⟨q.1, q.2.1, RepL.mono s p q.2.2⟩
structure Wo (G : Gc) (H : Hp) (ρ : List Addr) (Z : Fm) (S : Sto) : Prop where
  len : ρ.length = S.length
  nd : (ρ ++ Z.z).Nodup
  cell : ∀ (l : Nat) (o : Mo), S[l]? = some o → ∃ a ho, ρ[l]? = some a ∧ H a = some ho ∧ CellR G (hid H (ρ ++ Z.z)) ρ a ho o
  zin : ∀ z ∈ Z.z, H z ≠ none
  nofz : LkOk H (ρ ++ Z.z) Z.lk
structure Stp (H : Hp) (ρ : List Addr) (Z : Fm) (H' : Hp) (ρ' : List Addr) : Prop where
  pre : ∃ r, ρ' = ρ ++ r
  same : Sm (hid H (ρ ++ Z.z)) (hid H' (ρ' ++ Z.z))
  zk : ∀ z ∈ Z.z, H' z = H z
section
variable {G : Gc} {H H' H2 : Hp} {ρ ρ' ρ2 : List Addr} {Z : Fm} {S : Sto}
theorem Stp.at (s : Stp H ρ Z H' ρ') (l : Nat) (a : Addr) (e : ρ[l]? = some a) : ρ'[l]? = some a := by
  obtain ⟨r, rfl⟩ := s.pre
  rw [List.getElem?_append_left (List.getElem?_eq_some_iff.mp e).1]
  exact e
theorem Stp.refl : Stp H ρ Z H ρ := ⟨⟨[], by simp⟩, Sm.refl _, fun _ _ => rfl⟩
theorem Stp.trans (a : Stp H ρ Z H' ρ') (b : Stp H' ρ' Z H2 ρ2) : Stp H ρ Z H2 ρ2 := by
  obtain ⟨r, rfl⟩ := a.pre
  obtain ⟨q, rfl⟩ := b.pre
  exact ⟨⟨r ++ q, by simp⟩, a.same.trans b.same, fun z m => (b.zk z m).trans (a.zk z m)⟩
theorem Stp.rep {v : V} {d : Dv} (s : Stp H ρ Z H' ρ') (r : Rep G (hid H (ρ ++ Z.z)) ρ v d) : Rep G (hid H' (ρ' ++ Z.z)) ρ' v d := r.mono s.same s.at
theorem Stp.repL {v : List V} {d : List Dv} (s : Stp H ρ Z H' ρ') (r : RepL G (hid H (ρ ++ Z.z)) ρ v d) : RepL G (hid H' (ρ' ++ Z.z)) ρ' v d := r.mono s.same s.at
theorem Wo.has (w : Wo G H ρ Z S) {a : Addr} (m : a ∈ ρ ++ Z.z) : H a ≠ none := by
  rcases List.mem_append.mp m with m | m
  · obtain ⟨l, hl⟩ := List.mem_iff_getElem?.mp m
    have lt := (List.getElem?_eq_some_iff.mp hl).1
    rw [w.len] at lt
    obtain ⟨b, ho, h1, h2, _⟩ := w.cell l S[l] (by simp [lt])
    rw [hl] at h1
    cases h1
    rw [h2]
    simp
  · exact w.zin a m
theorem Wo.fresh (w : Wo G H ρ Z S) {p : Addr} (n : H p = none) : p ∉ ρ ++ Z.z := fun m => w.has m n
/-- more stands, nothing has changed -/
theorem Wo.grow (w : Wo G H ρ Z S) (sg : Grow H H') : Wo G H' ρ Z S ∧ Stp H ρ Z H' ρ := by
  have s := sg.same
  have sh : Sm (hid H (ρ ++ Z.z)) (hid H' (ρ ++ Z.z)) := .of (hid_mono s fun a m n => absurd m n)
  refine ⟨⟨w.len, w.nd, fun l o e => ?_, fun z m e => ?_, w.nofz.grow sg fun a m => .inl m⟩, ⟨⟨[], by simp⟩, sh, fun z m => ?_⟩⟩
  · obtain ⟨a, ho, h1, h2, h3⟩ := w.cell l o e
    exact ⟨a, ho, h1, s _ _ h2, h3.mono sh fun _ _ q => q⟩
  · exact w.zin z m (s.free e)
  · cases q : H z with
    | none => exact absurd q (w.zin z m)
    | some u => exact s _ _ q
theorem same_new {H : Hp} {p : Addr} {o : HO} (h : H p = none) : Same H (upd H p o) := fun b x e => by
  rw [upd_ne (ne_of_none e h)]; exact e
/-- not a locked dict -/
def plainO : HO → Bool
  | .frz _ (.dK _) => false
  | _ => true
theorem Grow.new {H : Hp} {p : Addr} {o : HO} (h : H p = none) (po : plainO o = true := by rfl) : Grow H (upd H p o) := ⟨same_new h, fun a ob k e => by
  by_cases q : a = p
  · subst q
    rw [upd_same] at e
    cases e
    cases po
  · rw [upd_ne q] at e
    exact e⟩
theorem Wo.new (w : Wo G H ρ Z S) {p : Addr} {o : HO} (n : H p = none) (po : plainO o = true := by rfl) : Wo G (upd H p o) ρ Z S ∧ Stp H ρ Z (upd H p o) ρ ∧ hid (upd H p o) (ρ ++ Z.z) p = some o :=
  ⟨(w.grow (Grow.new n po)).1, (w.grow (Grow.new n po)).2, hid_of (w.fresh n) upd_same⟩
/-- a new cell -/
theorem Wo.newL (w : Wo G H ρ Z S) {p : Addr} {o : HO} {m : Mo} (n : H p = none) (c : CellR G (hid H (ρ ++ Z.z)) ρ p o m) : Wo G (upd H p o) (ρ ++ [p]) Z (S ++ [m]) ∧ Stp H ρ Z (upd H p o) (ρ ++ [p]) := by
  have f := w.fresh n
  have sh : Sm (hid H (ρ ++ Z.z)) (hid (upd H p o) ((ρ ++ [p]) ++ Z.z)) := .of <| hid_mono (same_new n) fun a m1 m2 => by
    simp only [List.mem_append, List.mem_singleton] at m1 m2
    have : a = p := by
      rcases m1 with (m1 | m1) | m1
      · exact absurd (Or.inl m1) m2
      · exact m1
      · exact absurd (Or.inr m1) m2
    rw [this]
    exact n
  have pre : ∀ (l : Nat) (a : Addr), ρ[l]? = some a → (ρ ++ [p])[l]? = some a := fun l a e => by
    rw [List.getElem?_append_left (List.getElem?_eq_some_iff.mp e).1]
    exact e
  have po : plainO o = true := by
    cases m <;> cases o <;> first | rfl | exact c.elim
  refine ⟨⟨by simp [w.len], ?_, fun l u e => ?_, fun z m e => ?_, w.nofz.grow (Grow.new n po) fun a m => ?_⟩, ⟨⟨[p], rfl⟩, sh, fun z m => upd_ne fun e => ?_⟩⟩
  · have nd := w.nd
    simp only [List.mem_append, not_or] at f
    rw [List.append_assoc, List.nodup_append]
    rw [List.nodup_append] at nd
    refine ⟨nd.1, List.nodup_cons.mpr ⟨f.2, nd.2.1⟩, fun a ha b hb => ?_⟩
    rcases List.mem_cons.mp hb with e | e
    · subst e
      intro z
      subst z
      exact f.1 ha
    · exact nd.2.2 a ha b e
  · by_cases hl : l < S.length
    · rw [List.getElem?_append_left hl] at e
      obtain ⟨a, ho, h1, h2, h3⟩ := w.cell l u e
      exact ⟨a, ho, pre _ _ h1, same_new n _ _ h2, h3.mono sh pre⟩
    · have e2 : l = S.length := by
        have := (List.getElem?_eq_some_iff.mp e).1
        simp at this
        omega
      subst e2
      simp at e
      subst e
      exact ⟨p, o, by rw [← w.len]; simp, upd_same, c.mono sh pre⟩
  · exact w.zin z m ((same_new n).free e)
  · rcases List.mem_append.mp m with m | m
    · rcases List.mem_append.mp m with m | m
      · exact .inl (List.mem_append.mpr (.inl m))
      · rw [List.mem_singleton.mp m]; exact .inr n
    · exact .inl (List.mem_append.mpr (.inr m))
  · subst e
    exact w.zin z m n
theorem LkOk.upd {H : Hp} {L : List Addr} {lk : List (Addr × HO)} {a : Addr} {o : HO} (h : LkOk H L lk) (m : a ∈ L) (po : plainO o = true) : LkOk (L2.upd H a o) L lk :=
  ⟨fun p mp => ⟨by rw [upd_ne (fun e => (h.1 p mp).2.1 (by rw [e]; exact m))]; exact (h.1 p mp).1, (h.1 p mp).2⟩, fun b ob k e => by
    by_cases q : b = a
    · subst q
      rw [upd_same] at e
      cases e
      cases po
    · rw [upd_ne q] at e
      exact h.2 b ob k e⟩
/-- a cell is written -/
theorem Wo.set (w : Wo G H ρ Z S) {l : Nat} {a : Addr} {o : HO} {m : Mo} (ha : ρ[l]? = some a) (c : CellR G (hid H (ρ ++ Z.z)) ρ a o m) : Wo G (upd H a o) ρ Z (S.set l m) ∧ Stp H ρ Z (upd H a o) ρ := by
  have ma : a ∈ ρ ++ Z.z := List.mem_append.mpr (.inl (List.mem_of_getElem? ha))
  have eh : hid (upd H a o) (ρ ++ Z.z) = hid H (ρ ++ Z.z) := by
    funext b
    unfold hid
    by_cases mb : b ∈ ρ ++ Z.z
    · rw [if_pos mb, if_pos mb]
    · rw [if_neg mb, if_neg mb, upd_ne fun e => mb (by rw [e]; exact ma)]
  have nz : ∀ z ∈ Z.z, z ≠ a := fun z m e => by
    subst e
    have := (List.nodup_append.mp w.nd).2.2 z (List.mem_of_getElem? ha) z m
    exact this rfl
  have lt : l < S.length := by
    have := (List.getElem?_eq_some_iff.mp ha).1
    rw [w.len] at this
    exact this
  have po : plainO o = true := by
    cases m <;> cases o <;> first | rfl | exact c.elim
  refine ⟨⟨by rw [List.length_set]; exact w.len, w.nd, fun k u e => ?_, fun z m e => ?_, w.nofz.upd ma po⟩, ⟨⟨[], by simp⟩, by rw [eh]; exact Sm.refl _, fun z m => upd_ne (nz z m)⟩⟩
  · rw [eh]
    by_cases hk : k = l
    · subst hk
      rw [List.getElem?_set_self lt] at e
      cases e
      exact ⟨a, o, ha, upd_same, c⟩
    · rw [List.getElem?_set_ne (Ne.symm hk)] at e
      obtain ⟨b, ho, h1, h2, h3⟩ := w.cell k u e
      have nb : b ≠ a := fun z => by
        subst z
        have nd := (List.nodup_append.mp w.nd).1
        have l1 := List.getElem?_eq_some_iff.mp h1
        have l2 := List.getElem?_eq_some_iff.mp ha
        obtain ⟨b1, c1⟩ := l1
        obtain ⟨b2, c2⟩ := l2
        rcases Nat.lt_or_gt_of_ne hk with hlt | hlt
        · exact List.pairwise_iff_getElem.mp nd k l b1 b2 hlt (c1.trans c2.symm)
        · exact List.pairwise_iff_getElem.mp nd l k b2 b1 hlt (c2.trans c1.symm)
      exact ⟨b, ho, h1, by rw [upd_ne nb]; exact h2, h3⟩
  · rw [upd_ne (nz z m)] at e
    exact w.zin z m e
end

/-! ### functions beside the readings -/
abbrev ME := Ev → Sto → Option (Dv × Sto)
abbrev MT := Ev → Sto → Option (Bool × Sto)
abbrev MA := Ev → Sto → Option (List Dv × Sto)
abbrev MF := List Dv → Sto → Option (Dv × Sto)
inductive Out where
  | nx (ev : Ev) | rt (d : Dv) | bk (ev : Ev) | ct (ev : Ev)
abbrev MS := Ev → Sto → Option (Out × Sto)
def bnd {α β : Type} (x : Option (α × Sto)) (f : α → Sto → Option β) : Option β :=
  match x with
  | some (a, s) => f a s
  | none => none
@[simp] theorem bnd_some {α β : Type} {a : α} {s : Sto} {f : α → Sto → Option β} : bnd (some (a, s)) f = f a s := rfl
@[simp] theorem bnd_none {α β : Type} {f : α → Sto → Option β} : bnd (none : Option (α × Sto)) f = none := rfl
theorem bnd_eq {α β : Type} {x : Option (α × Sto)} {f : α → Sto → Option β} {b : β} (e : bnd x f = some b) : ∃ a s, x = some (a, s) ∧ f a s = some b := by
  cases x with
  | none => cases e
  | some p => exact ⟨p.1, p.2, rfl, e⟩
/-- the slots -/
structure EvR (G : Gc) (h : Hp) (ρ : List Addr) (σ : L2.St) (ev : Ev) : Prop where
  len : σ.length = ev.length
  at_ : ∀ (i : Nat) (d : Dv), ev[i]? = some (some d) → ∃ v, σ[i]? = some (some v) ∧ Rep G h ρ v d
theorem EvR.mono {G : Gc} {h h' : Hp} {ρ ρ' : List Addr} {σ : L2.St} {ev : Ev} (r : EvR G h ρ σ ev) (s : Sm h h') (p : ∀ (l : Nat) (a : Addr), ρ[l]? = some a → ρ'[l]? = some a) : EvR G h' ρ' σ ev :=
  ⟨r.len, fun i d e => let ⟨v, h1, h2⟩ := r.at_ i d e; ⟨v, h1, h2.mono s p⟩⟩
theorem EvR.stp {G : Gc} {H H' : Hp} {ρ ρ' : List Addr} {Z : Fm} {σ : L2.St} {ev : Ev} (r : EvR G (hid H (ρ ++ Z.z)) ρ σ ev) (s : Stp H ρ Z H' ρ') : EvR G (hid H' (ρ' ++ Z.z)) ρ' σ ev := r.mono s.same s.at
theorem EvR.set {G : Gc} {h : Hp} {ρ : List Addr} {σ : L2.St} {ev : Ev} {v : V} {d : Dv} (r : EvR G h ρ σ ev) (i : Nat) (q : Rep G h ρ v d) : EvR G h ρ (σ.set i (some v)) (ev.set i (some d)) := by
  refine ⟨by simp [r.len], fun k e h => ?_⟩
  by_cases hk : k = i
  · subst hk
    have lt : k < ev.length := by
      have := (List.getElem?_eq_some_iff.mp h).1
      simpa using this
    rw [List.getElem?_set_self lt] at h
    cases h
    exact ⟨v, by rw [List.getElem?_set_self (by rw [r.len]; exact lt)], q⟩
  · rw [List.getElem?_set_ne (Ne.symm hk)] at h
    rw [List.getElem?_set_ne (Ne.symm hk)]
    exact r.at_ k e h
theorem EvR.unset {G : Gc} {h : Hp} {ρ : List Addr} {σ : L2.St} {ev : Ev} (r : EvR G h ρ σ ev) (i : Nat) : EvR G h ρ (σ.set i none) (ev.set i none) := by
  refine ⟨by simp [r.len], fun k e h => ?_⟩
  by_cases hk : k = i
  · subst hk
    have lt : k < ev.length := by
      have := (List.getElem?_eq_some_iff.mp h).1
      simpa using this
    rw [List.getElem?_set_self lt] at h
    cases h
  · rw [List.getElem?_set_ne (Ne.symm hk)] at h
    rw [List.getElem?_set_ne (Ne.symm hk)]
    exact r.at_ k e h
def wipeE (ev : Ev) : List Nat → Ev
  | [] => ev
  | v :: vs => (wipeE ev vs).set v none
theorem EvR.wipe {G : Gc} {h : Hp} {ρ : List Addr} {σ : L2.St} {ev : Ev} (r : EvR G h ρ σ ev) : ∀ vs, EvR G h ρ (L2.wipe σ vs) (wipeE ev vs)
  | [] => r
  | v :: vs => (EvR.wipe r vs).unset v

def Snd (G : Gc) (t : TE) (m : ME) : Prop := ∀ (σ : L2.St) (H : Hp) (ρ : List Addr) (Z : Fm) (ev : Ev) (S : Sto) (d : Dv) (S' : Sto) (Q : VK), Wo G H ρ Z S → EvR G (hid H (ρ ++ Z.z)) ρ σ ev → m ev S = some (d, S') →
  (∀ v H' ρ', Wo G H' ρ' Z S' → Stp H ρ Z H' ρ' → Rep G (hid H' (ρ' ++ Z.z)) ρ' v d → Q v H') → t σ H Q
def SndA (G : Gc) (t : TA) (m : MA) : Prop := ∀ (σ : L2.St) (H : Hp) (ρ : List Addr) (Z : Fm) (ev : Ev) (S : Sto) (ds : List Dv) (S' : Sto) (Q : List V → Hp → Prop), Wo G H ρ Z S → EvR G (hid H (ρ ++ Z.z)) ρ σ ev → m ev S = some (ds, S') →
  (∀ vs H' ρ', Wo G H' ρ' Z S' → Stp H ρ Z H' ρ' → RepL G (hid H' (ρ' ++ Z.z)) ρ' vs ds → Q vs H') → t σ H Q
def SndT (G : Gc) (t : TT) (m : MT) : Prop := ∀ (σ : L2.St) (H : Hp) (ρ : List Addr) (Z : Fm) (ev : Ev) (S : Sto) (b : Bool) (S' : Sto) (Q : Bool → Hp → Prop), Wo G H ρ Z S → EvR G (hid H (ρ ++ Z.z)) ρ σ ev → m ev S = some (b, S') →
  (∀ H' ρ', Wo G H' ρ' Z S' → Stp H ρ Z H' ρ' → Q b H') → t σ H Q
def SndG (G : Gc) (g : TG) (m : Dv → Ev → Option Ev) (vs : List Nat) : Prop := ∀ (σ : L2.St) (H : Hp) (ρ : List Addr) (Z : Fm) (ev ev' : Ev) (x : V) (d : Dv) (Q : L2.St → Hp → Prop), EvR G (hid H (ρ ++ Z.z)) ρ σ ev → Rep G (hid H (ρ ++ Z.z)) ρ x d → m d ev = some ev' →
  (∀ σ', EvR G (hid H (ρ ++ Z.z)) ρ σ' ev' → L2.wipe σ' vs = L2.wipe σ vs → Q σ' H) → g x σ H Q
/-- what a walk gives -/
def Gives (G : Gc) (H1 : Hp) (ρ1 : List Addr) (Z : Fm) (items : List Dv) (Y : Nat → Hp → V → Hp → Prop) : Prop :=
  ∀ (i : Nat) (H2 : Hp) (ρ2 : List Addr) (Z2 : Fm) (S2 : Sto) (x : V) (H3 : Hp) (d : Dv), Wo G H2 ρ2 Z2 S2 → Sm (hid H1 (ρ1 ++ Z.z)) (hid H2 (ρ2 ++ Z2.z)) → (∀ (l : Nat) (a : Addr), ρ1[l]? = some a → ρ2[l]? = some a) → items[i]? = some d → Y i H2 x H3 →
    Grow H2 H3 ∧ Rep G (hid H3 (ρ2 ++ Z2.z)) ρ2 x d
def SndI (G : Gc) (wi : TI) (m : MA) : Prop := ∀ (σ : L2.St) (H : Hp) (ρ : List Addr) (Z : Fm) (ev : Ev) (S : Sto) (items : List Dv) (S' : Sto) (R : It → Hp → Prop), Wo G H ρ Z S → EvR G (hid H (ρ ++ Z.z)) ρ σ ev → m ev S = some (items, S') →
  (∀ (J : It) (Gd : Hp → Prop) (Y : Nat → Hp → V → Hp → Prop) (H' : Hp) (ρ' : List Addr), Wo G H' ρ' Z S' → Stp H ρ Z H' ρ' → Walk J items.length Gd Y → (∀ H2, Sm (hid H' (ρ' ++ Z.z)) H2 → (∀ p ∈ Z.lk, H2 p.1 = some p.2) → Gd H2) → Gives G H' ρ' Z items Y → R J H') → wi σ H R
/-- behind a statement -/
def EndR (G : Gc) (H : Hp) (ρ : List Addr) (Z : Fm) (S' : Sto) (D : Ends) : Out → Prop
  | .nx ev => ∀ σ' H' ρ', Wo G H' ρ' Z S' → Stp H ρ Z H' ρ' → EvR G (hid H' (ρ' ++ Z.z)) ρ' σ' ev → D.nx σ' H'
  | .bk ev => ∀ σ' H' ρ', Wo G H' ρ' Z S' → Stp H ρ Z H' ρ' → EvR G (hid H' (ρ' ++ Z.z)) ρ' σ' ev → D.bk σ' H'
  | .ct ev => ∀ σ' H' ρ', Wo G H' ρ' Z S' → Stp H ρ Z H' ρ' → EvR G (hid H' (ρ' ++ Z.z)) ρ' σ' ev → D.ct σ' H'
  | .rt d => ∀ v H' ρ', Wo G H' ρ' Z S' → Stp H ρ Z H' ρ' → Rep G (hid H' (ρ' ++ Z.z)) ρ' v d → D.rt v H'
def SndS (G : Gc) (t : TS) (m : MS) : Prop := ∀ (σ : L2.St) (H : Hp) (ρ : List Addr) (Z : Fm) (ev : Ev) (S : Sto) (o : Out) (S' : Sto) (D : Ends), Wo G H ρ Z S → EvR G (hid H (ρ ++ Z.z)) ρ σ ev → m ev S = some (o, S') →
  EndR G H ρ Z S' D o → t D σ H
theorem EndR.of {G : Gc} {H H1 : Hp} {ρ ρ1 : List Addr} {Z : Fm} {S' : Sto} {D : Ends} {o : Out} (s : Stp H ρ Z H1 ρ1) (e : EndR G H ρ Z S' D o) : EndR G H1 ρ1 Z S' D o := by
  cases o <;> exact fun x H' ρ' w t r => e x H' ρ' w (s.trans t) r
end Mi

set_option Elab.async false
set_option linter.all false
set_option maxRecDepth 100000
set_option maxHeartbeats 4000000
/-! Functions beside the readings of expressions. -/
namespace Mi
open PySem PySem.Spec PyProof.Rows L2 Sw
section
variable {G : Gc} {H H' : Hp} {ρ ρ' : List Addr} {Z : Fm} {S : Sto}

/-! ### views -/
def asL (S : Sto) : Dv → Option (List Dv)
  | .lst ds => some ds
  | .mut l => match S[l]? with
    | some (.lst ds) => some ds
    | _ => none
  | _ => none
def asT : Dv → Option (List Dv)
  | .tup ds => some ds
  | _ => none
/-- a list or a tuple, to be read -/
def asQ (S : Sto) : Dv → Option (List Dv)
  | .lst ds => some ds
  | .tup ds => some ds
  | .scr ds => some ds
  | .mut l => match S[l]? with
    | some (.lst ds) => some ds
    | _ => none
  | _ => none
def asD (S : Sto) : Dv → Option (List (Key × Dv))
  | .dic ds => some ds
  | .mut l => match S[l]? with
    | some (.dic ds) => some ds
    | _ => none
  | _ => none
theorem cellL (w : Wo G H ρ Z S) {l : Nat} {a : Addr} {ds : List Dv} (ea : ρ[l]? = some a) (e : S[l]? = some (.lst ds)) : ∃ vs, H a = some (.lst vs) ∧ RepL G (hid H (ρ ++ Z.z)) ρ vs ds := by
  obtain ⟨b, ho, h1, h2, h3⟩ := w.cell l _ e
  rw [ea] at h1
  cases h1
  cases ho <;> first | exact h3.elim | exact ⟨_, h2, h3⟩
theorem cellD (w : Wo G H ρ Z S) {l : Nat} {a : Addr} {ds : List (Key × Dv)} (ea : ρ[l]? = some a) (e : S[l]? = some (.dic ds)) : ∃ kvs, H a = some (.dK kvs) ∧ kvs.map (·.1) = ds.map (·.1) ∧ RepL G (hid H (ρ ++ Z.z)) ρ (kvs.map (·.2)) (ds.map (·.2)) := by
  obtain ⟨b, ho, h1, h2, h3⟩ := w.cell l _ e
  rw [ea] at h1
  cases h1
  cases ho <;> first | exact h3.elim | exact ⟨_, h2, h3⟩
theorem asL_ok (w : Wo G H ρ Z S) {v : V} {d : Dv} {ds : List Dv} (r : Rep G (hid H (ρ ++ Z.z)) ρ v d) (e : asL S d = some ds) : ∃ a vs, v = .ref a ∧ H a = some (.lst vs) ∧ RepL G (hid H (ρ ++ Z.z)) ρ vs ds := by
  cases r <;> simp only [asL] at e <;> try (cases e; done)
  · rename_i a vs es h1 h2
    cases e
    exact ⟨a, vs, rfl, hid_le _ _ h1, h2⟩
  · rename_i a l h1
    split at e
    · rename_i es h2
      cases e
      obtain ⟨vs, h3, h4⟩ := cellL w h1 h2
      exact ⟨a, vs, rfl, h3, h4⟩
    · cases e
theorem asT_ok {v : V} {d : Dv} {ds : List Dv} (r : Rep G (hid H (ρ ++ Z.z)) ρ v d) (e : asT d = some ds) : ∃ a vs, v = .ref a ∧ SqT G.K H a vs ∧ RepL G (hid H (ρ ++ Z.z)) ρ vs ds := by
  cases r <;> simp only [asT] at e <;> try (cases e; done)
  rename_i a vs es h1 h2
  cases e
  exact ⟨a, vs, rfl, sqt_same hid_le h1, h2⟩
theorem asQ_ok' (w : Wo G H ρ Z S) {v : V} {d : Dv} {ds : List Dv} (r : Rep G (hid H (ρ ++ Z.z)) ρ v d) (e : asQ S d = some ds) : ∃ a vs, v = .ref a ∧ (SqL G.K H a vs ∨ SqT G.K (hid H (ρ ++ Z.z)) a vs) ∧ RepL G (hid H (ρ ++ Z.z)) ρ vs ds := by
  cases r <;> simp only [asQ] at e <;> try (cases e; done)
  · rename_i a vs es h1 h2
    cases e
    exact ⟨a, vs, rfl, .inr h1, h2⟩
  · rename_i a vs es h1 h2
    cases e
    exact ⟨a, vs, rfl, .inl (.inl (.inl (hid_le _ _ h1))), h2⟩
  · rename_i a vs es h1 h2
    cases e
    exact ⟨a, vs, rfl, .inl (Same.seq hid_le h1), h2⟩
  · rename_i a l h1
    split at e
    · rename_i es h2
      cases e
      obtain ⟨vs, h3, h4⟩ := cellL w h1 h2
      exact ⟨a, vs, rfl, .inl (.inl (.inl h3)), h4⟩
    · cases e
theorem asQ_ok (w : Wo G H ρ Z S) {v : V} {d : Dv} {ds : List Dv} (r : Rep G (hid H (ρ ++ Z.z)) ρ v d) (e : asQ S d = some ds) : ∃ a vs, v = .ref a ∧ (SqL G.K H a vs ∨ SqT G.K H a vs) ∧ RepL G (hid H (ρ ++ Z.z)) ρ vs ds := by
  obtain ⟨a, vs, h1, h2, h3⟩ := asQ_ok' w r e
  exact ⟨a, vs, h1, h2.imp id (sqt_same hid_le), h3⟩
theorem asD_ok (w : Wo G H ρ Z S) {v : V} {d : Dv} {ds : List (Key × Dv)} (r : Rep G (hid H (ρ ++ Z.z)) ρ v d) (e : asD S d = some ds) : ∃ a kvs, v = .ref a ∧ Rd H a (.dK kvs) ∧ kvs.map (·.1) = ds.map (·.1) ∧ RepL G (hid H (ρ ++ Z.z)) ρ (kvs.map (·.2)) (ds.map (·.2)) := by
  cases r <;> simp only [asD] at e <;> try (cases e; done)
  · rename_i a vs es h1 h2 h3
    cases e
    exact ⟨a, vs, rfl, (Sm.of hid_le).rd h1, h2, h3⟩
  · rename_i a l h1
    split at e
    · rename_i es h2
      cases e
      obtain ⟨vs, h3, h4⟩ := cellD w h1 h2
      exact ⟨a, vs, rfl, .inl h3, h4⟩
    · cases e

/-! ### data -/
mutual
def toP : Dv → Option PyData
  | .non => some .none
  | .bl b => some (.bool b)
  | .int i => some (.int i)
  | .str z => some (.str z)
  | .tup ds => (toPL ds).map .tuple
  | .lst ds => (toPL ds).map .list
  | _ => none
def toPL : List Dv → Option (List PyData)
  | [] => some []
  | d :: ds => match toP d, toPL ds with
    | some p, some ps => some (p :: ps)
    | _, _ => none
end
mutual
theorem toP_ok {h : Hp} : ∀ {v : V} {d : Dv} {p : PyData}, Rep G h ρ v d → toP d = some p → Dp G.K h v p
  | _, _, _, .non, e => by simp only [toP] at e; cases e; exact .non
  | _, _, _, .bl b, e => by simp only [toP] at e; cases e; exact .bl b
  | _, _, _, .int i, e => by simp only [toP] at e; cases e; exact .int i
  | _, _, _, .str z, e => by simp only [toP] at e; cases e; exact .str z
  | _, _, _, .ty n, e => by simp only [toP] at e; cases e
  | _, _, _, .adr a, e => by simp only [toP] at e; cases e
  | _, _, _, .cls m, e => by simp only [toP] at e; cases e
  | _, _, _, .tup q r, e => by
    simp only [toP] at e
    obtain ⟨ps, h1, h2⟩ := Option.map_eq_some_iff.mp e
    subst h2
    exact .tup q (toPL_ok r h1)
  | _, _, _, .tupN q n r, e => by simp only [toP] at e; cases e
  | _, _, _, .lst q r, e => by
    simp only [toP] at e
    obtain ⟨ps, h1, h2⟩ := Option.map_eq_some_iff.mp e
    subst h2
    exact .lst (.inl (.inl q)) (toPL_ok r h1)
  | _, _, _, .scr q r, e => by simp only [toP] at e; cases e
  | _, _, _, .dic q k r, e => by simp only [toP] at e; cases e
  | _, _, _, .obj m q k r, e => by simp only [toP] at e; cases e
  | _, _, _, .mut q, e => by simp only [toP] at e; cases e
theorem toPL_ok {h : Hp} : ∀ {vs : List V} {ds : List Dv} {ps : List PyData}, RepL G h ρ vs ds → toPL ds = some ps → DpAll G.K h vs ps
  | _, _, _, .nil, e => by simp only [toPL] at e; cases e; exact .nil
  | _, _, _, .cons (d := d) (ds := ds) a r, e => by
    simp only [toPL] at e
    cases h1 : toP d with
    | none => simp [h1] at e
    | some p =>
      cases h2 : toPL ds with
      | none => simp [h1, h2] at e
      | some ps =>
        simp [h1, h2] at e
        subst e
        exact .cons (toP_ok a h1) (toPL_ok r h2)
end
def toPS (S : Sto) (d : Dv) : Option PyData := match d with
  | .mut l => match S[l]? with
    | some (.lst ds) => (toPL ds).map .list
    | _ => none
  | d => toP d
theorem toPS_ok (w : Wo G H ρ Z S) {v : V} {d : Dv} {p : PyData} (r : Rep G (hid H (ρ ++ Z.z)) ρ v d) (e : toPS S d = some p) : Dp G.K H v p := by
  cases d
  case «mut» l =>
    cases r
    rename_i a h1
    simp only [toPS] at e
    split at e
    · rename_i es h2
      obtain ⟨ps, h3, h4⟩ := Option.map_eq_some_iff.mp e
      subst h4
      obtain ⟨vs, h5, h6⟩ := cellL w h1 h2
      exact .lst (.inl (.inl h5)) (datA_same hid_le (toPL_ok h6 h3))
    · cases e
  all_goals exact dat_same hid_le (toP_ok r e)

/-! ### names, constants -/
def mV (i : Nat) : ME := fun ev S => match ev[i]? with
  | some (some d) => some (d, S)
  | _ => none
def mC (d : Dv) : ME := fun _ S => some (d, S)
theorem snd_var {i : Nat} : Snd G (tVar i) (mV i) := by
  intro σ H ρ Z ev S d S' Q w r e q
  unfold mV at e
  split at e
  · rename_i d' h1
    cases e
    obtain ⟨v, h2, h3⟩ := r.at_ i _ h1
    exact ⟨v, h2, q v H ρ w .refl h3⟩
  · cases e
theorem snd_con {v : V} {d : Dv} (h : ∀ h ρ, Rep G h ρ v d) : Snd G (tC v) (mC d) := by
  intro σ H ρ Z ev S d S' Q w r e q
  cases e
  exact q v H ρ w .refl (h _ _)
theorem snd_int {i : Int} : Snd G (tC (.int i)) (mC (.int i)) := snd_con fun _ _ => .int i
theorem snd_str {i : Str} : Snd G (tC (.str i)) (mC (.str i)) := snd_con fun _ _ => .str i
theorem snd_bl {i : Bool} : Snd G (tC (.bl i)) (mC (.bl i)) := snd_con fun _ _ => .bl i
theorem snd_non : Snd G (tC .non) (mC .non) := snd_con fun _ _ => .non
theorem snd_ty {n : String} : Snd G (tC (.ty n)) (mC (.ty n)) := snd_con fun _ _ => .ty n
theorem snd_adr {a : Addr} : Snd G (tC (.ref a)) (mC (.adr a)) := snd_con fun _ _ => .adr a

/-! ### operators -/
abbrev FOp := Sto → Dv → Dv → Option Dv
def SndOp (G : Gc) (r : R2) (f : FOp) : Prop := ∀ (x y : V) (a b c : Dv) (H : Hp) (ρ : List Addr) (Z : Fm) (S : Sto) (Q : VK), Wo G H ρ Z S → Rep G (hid H (ρ ++ Z.z)) ρ x a → Rep G (hid H (ρ ++ Z.z)) ρ y b → f S a b = some c →
  (∀ v H', Grow H H' → Rep G (hid H' (ρ ++ Z.z)) ρ v c → Q v H') → r x y H Q
def m2 (f : FOp) (ma mb : ME) : ME := fun ev S => bnd (ma ev S) fun a S1 => bnd (mb ev S1) fun b S2 => match f S2 a b with
  | some c => some (c, S2)
  | none => none
theorem snd_op {r : R2} {f : FOp} {ta tb : TE} {ma mb : ME} (ho : SndOp G r f) (ha : Snd G ta ma) (hb : Snd G tb mb) : Snd G (tOp r ta tb) (m2 f ma mb) := by
  intro σ H ρ Z ev S d S' Q w r e q
  obtain ⟨a, S1, e1, e⟩ := bnd_eq e
  obtain ⟨b, S2, e2, e⟩ := bnd_eq e
  split at e
  · rename_i c e3
    cases e
    refine ha σ H ρ Z ev S a S1 _ w r e1 fun v1 H1 ρ1 w1 s1 r1 => ?_
    refine hb σ H1 ρ1 Z ev S1 b S' _ w1 (r.stp s1) e2 fun v2 H2 ρ2 w2 s2 r2 => ?_
    exact ho v1 v2 a b d H2 ρ2 Z S' Q w2 (s2.rep r1) r2 e3 fun v H3 sm r3 => q v H3 ρ2 (w2.grow sm).1 ((s1.trans s2).trans (w2.grow sm).2) r3
  · cases e
theorem SndOp.or {r r' : R2} {f f' g : FOp} (h : SndOp G r f) (h' : SndOp G r' f') (hg : ∀ S a b c, g S a b = some c → f S a b = some c ∨ f' S a b = some c) : SndOp G (fun x y H Q => r x y H Q ∨ r' x y H Q) g := by
  intro x y a b c H ρ Z S Q w rx ry e q
  rcases hg S a b c e with e | e
  · exact .inl (h x y a b c H ρ Z S Q w rx ry e q)
  · exact .inr (h' x y a b c H ρ Z S Q w rx ry e q)
theorem OpR.or {X : Cx} {f : Value → Value → Sem Value} {r r' : R2} (h : OpR X f r) (h' : OpR X f r') : OpR X f (fun x y H Q => r x y H Q ∨ r' x y H Q) := by
  intro pins s σ H x y v u Q I rx ry q
  rcases q with q | q
  · exact h pins s σ H x y v u Q I rx ry q
  · exact h' pins s σ H x y v u Q I rx ry q
/-- + -/
def fAddI : FOp := fun _ a b => match a, b with
  | .int i, .int j => some (.int (i + j))
  | _, _ => none
def fAddS : FOp := fun _ a b => match a, b with
  | .str i, .str j => if i.length + j.length ≤ sizeLine then some (.str (i ++ j)) else none
  | _, _ => none
def fAddT : FOp := fun _ a b => match a, b with
  | .tup xs, .tup ys => if xs.length + ys.length ≤ sizeLine then some (.tup (xs ++ ys)) else none
  | _, _ => none
def fAddL : FOp := fun S a b => match asL S a, asL S b with
  | some xs, some ys => if xs.length + ys.length ≤ sizeLine then some (.lst (xs ++ ys)) else none
  | _, _ => none
def fAdd : FOp := fun S a b => match a, b with
  | .int i, .int j => some (.int (i + j))
  | .str i, .str j => if i.length + j.length ≤ sizeLine then some (.str (i ++ j)) else none
  | .tup xs, .tup ys => if xs.length + ys.length ≤ sizeLine then some (.tup (xs ++ ys)) else none
  | a, b => match asL S a, asL S b with
    | some xs, some ys => if xs.length + ys.length ≤ sizeLine then some (.lst (xs ++ ys)) else none
    | _, _ => none
def rAddU (K : PySem.W.Frag) : R2 := fun x y H Q => (rI0 fun i j => .int (i + j)) x y H Q ∨ ((fun x y H Q => ∃ i j, x = V.str i ∧ y = V.str j ∧ i.length + j.length ≤ sizeLine ∧ Q (.str (i ++ j)) H) x y H Q ∨ (rCatA K x y H Q ∨ rCat x y H Q))
theorem op_addU {X : Cx} (K : PySem.W.Frag) (hK : X.K = K) : OpR X (binaryOp .Add) (rAddU K) := by
  subst hK
  exact OpR.or op_add (OpR.or op_add_str (OpR.or op_catA op_cat))
theorem snd_addI : SndOp G (rI0 fun i j => .int (i + j)) fAddI := by
  intro x y a b c H ρ Z S Q w rx ry e q
  cases rx <;> cases ry <;> simp only [fAddI] at e <;> cases e
  exact ⟨_, _, rfl, rfl, q _ H (Grow.refl _) (.int _)⟩
theorem snd_addS : SndOp G (fun x y H Q => ∃ i j, x = V.str i ∧ y = V.str j ∧ i.length + j.length ≤ sizeLine ∧ Q (.str (i ++ j)) H) fAddS := by
  intro x y a b c H ρ Z S Q w rx ry e q
  cases rx <;> cases ry <;> simp only [fAddS] at e <;> try (cases e; done)
  split at e
  · rename_i h1
    cases e
    exact ⟨_, _, rfl, rfl, h1, q _ H (Grow.refl _) (.str _)⟩
  · cases e
theorem snd_addT : SndOp G (rCatA G.K) fAddT := by
  intro x y a b c H ρ Z S Q w rx ry e q
  cases rx <;> cases ry <;> simp only [fAddT] at e <;> try (cases e; done)
  rename_i p1 vs1 ds1 h1 h2 p2 vs2 ds2 h3 h4
  split at e
  · rename_i h5
    cases e
    have ap := h2.app h4
    refine ⟨p1, p2, vs1, vs2, rfl, rfl, sqt_same hid_le h1, sqt_same hid_le h3, by rw [h2.length, h4.length]; exact h5, fun z => ?_, fun _ z => ?_, fun _ _ p n => ?_⟩
    · subst z
      have : ds1 = [] := List.eq_nil_of_length_eq_zero h2.length.symm
      subst this
      exact q _ H (Grow.refl _) (.tup h3 h4)
    · subst z
      have : ds2 = [] := List.eq_nil_of_length_eq_zero h4.length.symm
      subst this
      rw [List.append_nil] at q
      exact q _ H (Grow.refl _) (.tup h1 h2)
    · obtain ⟨w1, s1, e1⟩ := w.new (o := .tup (vs1 ++ vs2)) n
      exact q _ _ (Grow.new n) (.tup (.inl (.inl e1)) (s1.repL ap))
  · cases e
theorem snd_addL : SndOp G rCat fAddL := by
  intro x y a b c H ρ Z S Q w rx ry e q
  unfold fAddL at e
  cases e1 : asL S a with
  | none => simp [e1] at e
  | some xs =>
    cases e2 : asL S b with
    | none => simp [e1, e2] at e
    | some ys =>
      simp only [e1, e2] at e
      split at e
      · rename_i h5
        cases e
        obtain ⟨p1, vs1, rfl, h1, h2⟩ := asL_ok w rx e1
        obtain ⟨p2, vs2, rfl, h3, h4⟩ := asL_ok w ry e2
        refine ⟨p1, p2, vs1, vs2, rfl, rfl, h1, h3, by rw [h2.length, h4.length]; exact h5, fun p n => ?_⟩
        obtain ⟨w1, s1, e3⟩ := w.new (o := .lst (vs1 ++ vs2)) n
        exact q _ _ (Grow.new n) (.lst e3 (s1.repL (h2.app h4)))
      · cases e
theorem snd_add : SndOp G (rAddU G.K) fAdd := by
  refine SndOp.or (f' := fun S a b => if (fAddS S a b).isSome then fAddS S a b else if (fAddT S a b).isSome then fAddT S a b else fAddL S a b) snd_addI (SndOp.or (f' := fun S a b => if (fAddT S a b).isSome then fAddT S a b else fAddL S a b) snd_addS (SndOp.or snd_addT snd_addL ?_) ?_) ?_
  · intro S a b c e
    split at e
    · exact .inl e
    · exact .inr e
  · intro S a b c e
    split at e
    · exact .inl e
    · exact .inr e
  · intro S a b c e
    cases a <;> cases b <;> first
      | exact .inl e
      | (refine .inr ?_; simp only [fAdd] at e; simp only [fAddS, fAddT]; first | exact e | (simp only [e]; rfl) | (simpa [fAddL, asL] using e))
/-- ints alone -/
def fI (C : Int → Int → Bool) (g : Int → Int → Dv) : FOp := fun _ a b => match a, b with
  | .int i, .int j => if C i j then some (g i j) else none
  | _, _ => none
theorem snd_I {Cp : Int → Int → Prop} {C : Int → Int → Bool} {g : Int → Int → V} {f : Int → Int → Dv} (hC : ∀ i j, C i j = true → Cp i j) (hg : ∀ i j h ρ, Rep G h ρ (g i j) (f i j)) : SndOp G (rI Cp g) (fI C f) := by
  intro x y a b c H ρ Z S Q w rx ry e q
  cases rx <;> cases ry <;> simp only [fI] at e <;> try (cases e; done)
  split at e
  · rename_i h1
    cases e
    exact ⟨_, _, rfl, rfl, hC _ _ h1, q _ H (Grow.refl _) (hg _ _ _ _)⟩
  · cases e
theorem snd_I0 {g : Int → Int → V} {f : Int → Int → Dv} (hg : ∀ i j h ρ, Rep G h ρ (g i j) (f i j)) : SndOp G (rI0 g) (fI (fun _ _ => true) f) := by
  intro x y a b c H ρ Z S Q w rx ry e q
  cases rx <;> cases ry <;> simp only [fI] at e <;> cases e
  exact ⟨_, _, rfl, rfl, q _ H (Grow.refl _) (hg _ _ _ _)⟩
def fSub : FOp := fI (fun _ _ => true) fun i j => .int (i - j)
theorem snd_sub : SndOp G (rI0 fun i j => .int (i - j)) fSub := snd_I0 fun _ _ _ _ => .int _
def fMod : FOp := fI (fun _ j => decide (j ≠ 0)) fun i j => .int (i.fmod j)
theorem snd_mod : SndOp G (rI (fun _ j => j ≠ 0) fun i j => .int (i.fmod j)) fMod := snd_I (fun _ _ h => by have z := of_decide_eq_true h; exact z) fun _ _ _ _ => .int _
def fDiv : FOp := fI (fun _ j => decide (j ≠ 0 ∧ j.natAbs < 1073741824)) fun i j => .int (i.fdiv j)
theorem snd_div : SndOp G (rI CDivN fun i j => .int (i.fdiv j)) fDiv := snd_I (fun _ _ h => by have z := of_decide_eq_true h; exact z) fun _ _ _ _ => .int _
def fPow : FOp := fI (fun i j => decide (0 ≤ j ∧ j ≤ 1000000 ∧ i.natAbs < 2 ^ 64)) fun i j => .int (i ^ j.toNat)
theorem snd_pow : SndOp G (rI CPow fun i j => .int (i ^ j.toNat)) fPow := snd_I (fun _ _ h => by have z := of_decide_eq_true h; exact z) fun _ _ _ _ => .int _
def fMulI : FOp := fI (fun i j => decide (i.natAbs < 2 ^ 64 ∨ j.natAbs < 2 ^ 64)) fun i j => .int (i * j)
theorem snd_mulI : SndOp G (rI CMul fun i j => .int (i * j)) fMulI := snd_I (fun i j h => by
    have z := of_decide_eq_true h
    show (-(2 ^ 64) < i ∧ i < 2 ^ 64) ∨ (-(2 ^ 64) < j ∧ j < 2 ^ 64)
    omega) fun _ _ _ _ => .int _
end
end Mi

set_option Elab.async false
set_option linter.all false
set_option maxRecDepth 100000
set_option maxHeartbeats 4000000
/-! Functions beside the readings: comparisons, tests, displays, calls of built-ins. -/
namespace Mi
open PySem PySem.Spec PyProof.Rows L2 Sw
section
variable {G : Gc} {H H' : Hp} {ρ ρ' : List Addr} {Z : Fm} {S : Sto}

/-! ### comparisons -/
def fLt : FOp := fun _ a b => match a, b with
  | .int i, .int j => some (.bl (decide (i < j)))
  | .str i, .str j => some (.bl (decide (i.cps.toList < j.cps.toList)))
  | _, _ => none
def rLtU : R2 := fun x y H Q => (rI0 fun i j => .bl (decide (i < j))) x y H Q ∨ (fun x y H Q => ∃ i j, x = V.str i ∧ y = V.str j ∧ Q (.bl (decide (i.cps.toList < j.cps.toList))) H) x y H Q
theorem op_ltU {X : Cx} : OpR X (compareOp .Lt) rLtU := OpR.or op_lt op_lt_str
theorem snd_lt : SndOp G rLtU fLt := by
  intro x y a b c H ρ Z S Q w rx ry e q
  cases rx <;> cases ry <;> simp only [fLt] at e <;> try (cases e; done)
  · cases e; exact .inl ⟨_, _, rfl, rfl, q _ H (Grow.refl _) (.bl _)⟩
  · cases e; exact .inr ⟨_, _, rfl, rfl, q _ H (Grow.refl _) (.bl _)⟩
def fLe : FOp := fun _ a b => match a, b with
  | .int i, .int j => some (.bl (decide (i ≤ j)))
  | .str i, .str j => some (.bl (!decide (j.cps.toList < i.cps.toList)))
  | _, _ => none
def rLeU : R2 := fun x y H Q => (rI0 fun i j => .bl (decide (i ≤ j))) x y H Q ∨ (fun x y H Q => ∃ i j, x = V.str i ∧ y = V.str j ∧ Q (.bl (!decide (j.cps.toList < i.cps.toList))) H) x y H Q
theorem op_leU {X : Cx} : OpR X (compareOp .LtE) rLeU := OpR.or op_le op_le_str
theorem snd_le : SndOp G rLeU fLe := by
  intro x y a b c H ρ Z S Q w rx ry e q
  cases rx <;> cases ry <;> simp only [fLe] at e <;> try (cases e; done)
  · cases e; exact .inl ⟨_, _, rfl, rfl, q _ H (Grow.refl _) (.bl _)⟩
  · cases e; exact .inr ⟨_, _, rfl, rfl, q _ H (Grow.refl _) (.bl _)⟩
def fGt : FOp := fun _ a b => match a, b with
  | .int i, .int j => some (.bl (decide (j < i)))
  | .str i, .str j => some (.bl (decide (j.cps.toList < i.cps.toList)))
  | _, _ => none
def rGtU : R2 := fun x y H Q => (rI0 fun i j => .bl (decide (j < i))) x y H Q ∨ (fun x y H Q => ∃ i j, x = V.str i ∧ y = V.str j ∧ Q (.bl (decide (j.cps.toList < i.cps.toList))) H) x y H Q
theorem op_gtU {X : Cx} : OpR X (compareOp .Gt) rGtU := OpR.or op_gt op_gt_str
theorem snd_gt : SndOp G rGtU fGt := by
  intro x y a b c H ρ Z S Q w rx ry e q
  cases rx <;> cases ry <;> simp only [fGt] at e <;> try (cases e; done)
  · cases e; exact .inl ⟨_, _, rfl, rfl, q _ H (Grow.refl _) (.bl _)⟩
  · cases e; exact .inr ⟨_, _, rfl, rfl, q _ H (Grow.refl _) (.bl _)⟩
def fGe : FOp := fun _ a b => match a, b with
  | .int i, .int j => some (.bl (decide (j ≤ i)))
  | .str i, .str j => some (.bl (!decide (i.cps.toList < j.cps.toList)))
  | _, _ => none
def rGeU : R2 := fun x y H Q => (rI0 fun i j => .bl (decide (j ≤ i))) x y H Q ∨ (fun x y H Q => ∃ i j, x = V.str i ∧ y = V.str j ∧ Q (.bl (!decide (i.cps.toList < j.cps.toList))) H) x y H Q
theorem op_geU {X : Cx} : OpR X (compareOp .GtE) rGeU := OpR.or op_ge op_ge_str
theorem snd_ge : SndOp G rGeU fGe := by
  intro x y a b c H ρ Z S Q w rx ry e q
  cases rx <;> cases ry <;> simp only [fGe] at e <;> try (cases e; done)
  · cases e; exact .inl ⟨_, _, rfl, rfl, q _ H (Grow.refl _) (.bl _)⟩
  · cases e; exact .inr ⟨_, _, rfl, rfl, q _ H (Grow.refl _) (.bl _)⟩
/-- == of data -/
def fEqD : FOp := fun S a b => match toPS S a, toPS S b with
  | some p, some q => if SeqAt.shaped p && SeqAt.shaped q then some (.bl (PyData.eqv p q)) else none
  | _, _ => none
def fNeD : FOp := fun S a b => match toPS S a, toPS S b with
  | some p, some q => if SeqAt.shaped p && SeqAt.shaped q then some (.bl (!PyData.eqv p q)) else none
  | _, _ => none
theorem snd_eqD : SndOp G (rEqD G.K) fEqD := by
  intro x y a b c H ρ Z S Q w rx ry e q
  unfold fEqD at e
  cases e1 : toPS S a with
  | none => simp [e1] at e
  | some p =>
    cases e2 : toPS S b with
    | none => simp [e1, e2] at e
    | some r =>
      simp only [e1, e2] at e
      split at e
      · rename_i h
        cases e
        rw [Bool.and_eq_true] at h
        exact ⟨p, r, toPS_ok w rx e1, toPS_ok w ry e2, h.1, h.2, q _ H (Grow.refl _) (.bl _)⟩
      · cases e
theorem snd_neD : SndOp G (rNeD G.K) fNeD := by
  intro x y a b c H ρ Z S Q w rx ry e q
  unfold fNeD at e
  cases e1 : toPS S a with
  | none => simp [e1] at e
  | some p =>
    cases e2 : toPS S b with
    | none => simp [e1, e2] at e
    | some r =>
      simp only [e1, e2] at e
      split at e
      · rename_i h
        cases e
        rw [Bool.and_eq_true] at h
        exact ⟨p, r, toPS_ok w rx e1, toPS_ok w ry e2, h.1, h.2, q _ H (Grow.refl _) (.bl _)⟩
      · cases e
def fEq : FOp := fun S a b => match a, b with
  | .str i, .str j => some (.bl (decide (i = j)))
  | a, b => fEqD S a b
def fNe : FOp := fun S a b => match a, b with
  | .str i, .str j => some (.bl (!decide (i = j)))
  | a, b => fNeD S a b
def rEqU (K : PySem.W.Frag) : R2 := fun x y H Q => rEq x y H Q ∨ rEqD K x y H Q
def rNeU (K : PySem.W.Frag) : R2 := fun x y H Q => rNe x y H Q ∨ rNeD K x y H Q
theorem op_eqK {X : Cx} (K : PySem.W.Frag) (hK : X.K = K) (hu : X.A.units + 64 < cLine) : OpR X (compareOp .Eq) (rEqU K) := by subst hK; exact OpR.or op_eq (op_eqD hu)
theorem op_neK {X : Cx} (K : PySem.W.Frag) (hK : X.K = K) (hu : X.A.units + 64 < cLine) : OpR X (compareOp .NotEq) (rNeU K) := by subst hK; exact OpR.or op_ne (op_neD hu)
theorem dec_str {i j : Str} : decide (V.str i = V.str j) = decide (i = j) := by
  by_cases h : i = j
  · subst h
    rw [decide_eq_true rfl, decide_eq_true rfl]
  · rw [decide_eq_false h, decide_eq_false fun e => h (by cases e; rfl)]
theorem snd_eq : SndOp G (rEqU G.K) fEq := by
  intro x y a b c H ρ Z S Q w rx ry e q
  unfold fEq at e
  split at e
  · cases e
    cases rx
    cases ry
    refine .inl ⟨rfl, ?_⟩
    rw [dec_str]
    exact q _ H (Grow.refl _) (.bl _)
  · exact .inr (snd_eqD x y a b c H ρ Z S Q w rx ry e q)
theorem snd_ne : SndOp G (rNeU G.K) fNe := by
  intro x y a b c H ρ Z S Q w rx ry e q
  unfold fNe at e
  split at e
  · cases e
    cases rx
    cases ry
    refine .inl ⟨rfl, ?_⟩
    rw [dec_str]
    exact q _ H (Grow.refl _) (.bl _)
  · exact .inr (snd_neD x y a b c H ρ Z S Q w rx ry e q)
/-- is None -/
def isNon : Dv → Bool
  | .non => true
  | _ => false
def fIsN : FOp := fun _ a b => if isNon b then some (.bl (isNon a)) else none
def fNotN : FOp := fun _ a b => if isNon b then some (.bl (!isNon a)) else none
theorem non_of {h : Hp} {x : V} {a : Dv} (r : Rep G h ρ x a) : decide (x = .non) = isNon a := by
  cases r <;> rfl
theorem snd_isN : SndOp G (fun x y H Q => y = .non ∧ Q (.bl (decide (x = .non))) H) fIsN := by
  intro x y a b c H ρ Z S Q w rx ry e q
  unfold fIsN at e
  split at e
  · rename_i h
    cases e
    have : y = .non := by cases ry <;> first | rfl | cases h
    refine ⟨this, ?_⟩
    rw [non_of rx]
    exact q _ H (Grow.refl _) (.bl _)
  · cases e
theorem snd_notN : SndOp G (fun x y H Q => y = .non ∧ Q (.bl (!decide (x = .non))) H) fNotN := by
  intro x y a b c H ρ Z S Q w rx ry e q
  unfold fNotN at e
  split at e
  · rename_i h
    cases e
    have : y = .non := by cases ry <;> first | rfl | cases h
    refine ⟨this, ?_⟩
    rw [non_of rx]
    exact q _ H (Grow.refl _) (.bl _)
  · cases e
/-- x in xs, data in a list or a tuple; a text in a text -/
def inP (S : Sto) (a b : Dv) : Option Bool := match toPS S a, toPS S b with
  | some (.str i), some (.str j) => some (!(Builtin.Str.occurrences j i 0 j.length 1).isEmpty)
  | some p, some (.list ps) => if SeqAt.shaped p && SeqAt.shaped (.list ps) then some (ps.any fun z => PyData.eqv z p) else none
  | some p, some (.tuple ps) => if SeqAt.shaped p && SeqAt.shaped (.tuple ps) then some (ps.any fun z => PyData.eqv z p) else none
  | _, _ => none
def rInT (K : PySem.W.Frag) (neg : Bool) : R2 := fun x y H Q => ∃ d ds, Dp K H x d ∧ Dp K H y (.tuple ds) ∧ SeqAt.shaped d = true ∧ SeqAt.shaped (.tuple ds) = true ∧ Q (.bl (if neg then !ds.any fun z => PyData.eqv z d else ds.any fun z => PyData.eqv z d)) H
theorem op_inT {X : Cx} (hu : X.A.units + 65 < cLine) : OpR X (compareOp .In) (rInT X.K false) := by
  intro pins s σ H x y v u Q I rx ry h
  obtain ⟨d, ds, hd, he, sd, se, q⟩ := h
  obtain ⟨as, r1⟩ := Dp.reads I d x v hd rx
  obtain ⟨bs, r2⟩ := Dp.reads I (.tuple ds) y u he ry
  exact SeqAt.in_tuple_reads r2 r1 (by have := SeqAt.canLay_of_shaped se; simpa [PyData.canLay0] using this) (SeqAt.canLay_of_shaped sd) (room_in_shaped sd hu) ⟨.bl _, H, I, rfl, q⟩
theorem op_notInT {X : Cx} (hu : X.A.units + 65 < cLine) : OpR X (compareOp .NotIn) (rInT X.K true) := by
  intro pins s σ H x y v u Q I rx ry h
  obtain ⟨d, ds, hd, he, sd, se, q⟩ := h
  obtain ⟨as, r1⟩ := Dp.reads I d x v hd rx
  obtain ⟨bs, r2⟩ := Dp.reads I (.tuple ds) y u he ry
  exact SeqAt.notIn_tuple_reads r2 r1 (by have := SeqAt.canLay_of_shaped se; simpa [PyData.canLay0] using this) (SeqAt.canLay_of_shaped sd) (room_in_shaped sd hu) ⟨.bl _, H, I, rfl, q⟩

def fIn (neg : Bool) : FOp := fun S a b => match inP S a b with
  | some r => some (.bl (if neg then !r else r))
  | none => none
def rInU (K : PySem.W.Frag) (neg : Bool) : R2 := fun x y H Q => (∃ i j, x = V.str i ∧ y = V.str j ∧ Q (.bl (if neg then !(!(Builtin.Str.occurrences j i 0 j.length 1).isEmpty) else !(Builtin.Str.occurrences j i 0 j.length 1).isEmpty)) H) ∨
  (rInT K neg x y H Q ∨ ∃ d ds, Dp K H x d ∧ Dp K H y (.list ds) ∧ SeqAt.shaped d = true ∧ SeqAt.shaped (.list ds) = true ∧ Q (.bl (if neg then !ds.any fun z => PyData.eqv z d else ds.any fun z => PyData.eqv z d)) H)
theorem op_inU {X : Cx} (K : PySem.W.Frag) (hK : X.K = K) (hu : X.A.units + 65 < cLine) : OpR X (compareOp .In) (rInU K false) := by
  subst hK
  exact OpR.or op_in_str (OpR.or (op_inT hu) (op_inD hu))
theorem op_notInU {X : Cx} (K : PySem.W.Frag) (hK : X.K = K) (hu : X.A.units + 65 < cLine) : OpR X (compareOp .NotIn) (rInU K true) := by
  subst hK
  exact OpR.or op_notin_str (OpR.or (op_notInT hu) (op_notInD hu))
theorem snd_in {neg : Bool} : SndOp G (rInU G.K neg) (fIn neg) := by
  intro x y a b c H ρ Z S Q w rx ry e q
  unfold fIn inP at e
  cases e1 : toPS S a with
  | none => simp [e1] at e
  | some p =>
    cases e2 : toPS S b with
    | none => simp [e1, e2] at e
    | some r =>
      have h1 := toPS_ok w rx e1
      have h2 := toPS_ok w ry e2
      rw [e1, e2] at e
      cases r with
      | list ps =>
        have e : (match (if SeqAt.shaped p && SeqAt.shaped (.list ps) then some (ps.any fun z => PyData.eqv z p) else none) with | some r => some (Dv.bl (if neg then !r else r)) | none => none) = some c := by
          cases p <;> exact e
        by_cases hs : (SeqAt.shaped p && SeqAt.shaped (.list ps)) = true
        · rw [if_pos hs] at e
          cases e
          rw [Bool.and_eq_true] at hs
          exact .inr (.inr ⟨p, ps, h1, h2, hs.1, hs.2, q _ H (Grow.refl _) (.bl _)⟩)
        · rw [if_neg hs] at e
          cases e
      | tuple ps =>
        have e : (match (if SeqAt.shaped p && SeqAt.shaped (.tuple ps) then some (ps.any fun z => PyData.eqv z p) else none) with | some r => some (Dv.bl (if neg then !r else r)) | none => none) = some c := by
          cases p <;> exact e
        by_cases hs : (SeqAt.shaped p && SeqAt.shaped (.tuple ps)) = true
        · rw [if_pos hs] at e
          cases e
          rw [Bool.and_eq_true] at hs
          exact .inr (.inl ⟨p, ps, h1, h2, hs.1, hs.2, q _ H (Grow.refl _) (.bl _)⟩)
        · rw [if_neg hs] at e
          cases e
      | str j =>
        cases p <;> try (cases e; done)
        rename_i i
        cases e
        cases h1
        cases h2
        exact .inl ⟨_, _, rfl, rfl, q _ H (Grow.refl _) (.bl _)⟩
      | _ => cases p <;> cases e

/-! ### tests -/
def mTst (m : ME) : MT := fun ev S => match m ev S with
  | some (.bl b, S1) => some (b, S1)
  | _ => none
theorem snd_tst {t : TE} {m : ME} (h : Snd G t m) : SndT G (tTest t) (mTst m) := by
  intro σ H ρ Z ev S b S' Q w r e q
  unfold mTst at e
  split at e
  · rename_i b' S1 e1
    cases e
    refine h σ H ρ Z ev S _ S' _ w r e1 fun v H1 ρ1 w1 s1 r1 => ?_
    cases r1
    exact ⟨_, rfl, q H1 ρ1 w1 s1⟩
  · cases e
theorem snd_tB {t : TE} {m : ME} (h : Snd G t m) : SndT G (tB t) (mTst m) := snd_tst h
/-- truth of any value -/
def tru (S : Sto) (d : Dv) : Option Bool := match d with
  | .non => some false
  | .bl b => some b
  | .int i => some (i != 0)
  | .str y => if y.length ≤ sizeLine then some ((y.length : Int) != 0) else none
  | d => match asQ S d with
    | some ds => some (!ds.isEmpty)
    | none => none
theorem tru_ok2 (w : Wo G H ρ Z S) {v : V} {d : Dv} {b : Bool} (r : Rep G (hid H (ρ ++ Z.z)) ρ v d) (e : tru S d = some b) : TruV G.K v H b := by
  have ie : ∀ {vs : List V} {ds : List Dv}, RepL G (hid H (ρ ++ Z.z)) ρ vs ds → (!vs.isEmpty) = !ds.isEmpty := fun q => by cases q <;> rfl
  have gen : (match asQ S d with | some ds => some (!ds.isEmpty) | none => none) = some b → TruV G.K v H b := by
    intro e
    cases e1 : asQ S d with
    | some ds =>
      rw [e1] at e
      cases e
      obtain ⟨a, vs, rfl, h1, h2⟩ := asQ_ok w r e1
      rcases h1 with h1 | h1
      · exact .inl ⟨vs, h1, (ie h2).symm⟩
      · exact .inr (.inl ⟨vs, h1, (ie h2).symm⟩)
    | none =>
      rw [e1] at e
      cases e
  cases r <;> simp only [tru] at e <;> first
    | exact gen e
    | (cases e; rfl)
    | (split at e <;> cases e; exact ⟨‹_›, rfl⟩)
def mTru (m : ME) : MT := fun ev S => bnd (m ev S) fun d S1 => match tru S1 d with
  | some b => some (b, S1)
  | none => none
def tTruth (K : PySem.W.Frag) (ta : TE) : TT := fun σ H Q => ta σ H fun x H' => ∃ k, TruV K x H' k ∧ Q k H'
theorem pt_truthK {X : Cx} {a : Expr} {ta : TE} (K : PySem.W.Frag) (hK : X.K = K) (ha : PE X a ta) (he : ∀ whole, isTrue a X.env whole = (do let v ← whole; standAt a.pos; holding [v] (truthy v)) := by intro _; rfl) : PT X a (tTruth K ta) := by
  subst hK
  exact pt_truth ha he
theorem snd_tru {t : TE} {m : ME} (h : Snd G t m) : SndT G (tTruth G.K t) (mTru m) := by
  intro σ H ρ Z ev S b S' Q w r e q
  obtain ⟨d, S1, e1, e⟩ := bnd_eq e
  split at e
  · rename_i b' e2
    cases e
    exact h σ H ρ Z ev S d S' _ w r e1 fun v H1 ρ1 w1 s1 r1 => ⟨b, tru_ok2 w1 r1 e2, q H1 ρ1 w1 s1⟩
  · cases e
def mAndT (a b : MT) : MT := fun ev S => bnd (a ev S) fun c S1 => if c then b ev S1 else some (false, S1)
def mOrT (a b : MT) : MT := fun ev S => bnd (a ev S) fun c S1 => if c then some (true, S1) else b ev S1
def mNotT (a : MT) : MT := fun ev S => bnd (a ev S) fun c S1 => some (!c, S1)
theorem snd_andT {t u : TT} {a b : MT} (ha : SndT G t a) (hb : SndT G u b) : SndT G (tAnd t u) (mAndT a b) := by
  intro σ H ρ Z ev S x S' Q w r e q
  obtain ⟨c, S1, e1, e⟩ := bnd_eq e
  refine ha σ H ρ Z ev S c S1 _ w r e1 fun H1 ρ1 w1 s1 => ?_
  cases c with
  | true => exact hb σ H1 ρ1 Z ev S1 x S' Q w1 (r.stp s1) e fun H2 ρ2 w2 s2 => q H2 ρ2 w2 (s1.trans s2)
  | false => cases e; exact q H1 ρ1 w1 s1
theorem snd_orT {t u : TT} {a b : MT} (ha : SndT G t a) (hb : SndT G u b) : SndT G (tOr t u) (mOrT a b) := by
  intro σ H ρ Z ev S x S' Q w r e q
  obtain ⟨c, S1, e1, e⟩ := bnd_eq e
  refine ha σ H ρ Z ev S c S1 _ w r e1 fun H1 ρ1 w1 s1 => ?_
  cases c with
  | false => exact hb σ H1 ρ1 Z ev S1 x S' Q w1 (r.stp s1) e fun H2 ρ2 w2 s2 => q H2 ρ2 w2 (s1.trans s2)
  | true => cases e; exact q H1 ρ1 w1 s1
theorem snd_notT {t : TT} {a : MT} (ha : SndT G t a) : SndT G (L2.tNot t) (mNotT a) := by
  intro σ H ρ Z ev S x S' Q w r e q
  obtain ⟨c, S1, e1, e⟩ := bnd_eq e
  cases e
  exact ha σ H ρ Z ev S c S' _ w r e1 fun H1 ρ1 w1 s1 => q H1 ρ1 w1 s1
def mIf (c : MT) (a b : ME) : ME := fun ev S => bnd (c ev S) fun k S1 => if k then a ev S1 else b ev S1
theorem snd_if {t : TT} {ta tb : TE} {c : MT} {a b : ME} (hc : SndT G t c) (ha : Snd G ta a) (hb : Snd G tb b) : Snd G (L2.tIf t ta tb) (mIf c a b) := by
  intro σ H ρ Z ev S x S' Q w r e q
  obtain ⟨k, S1, e1, e⟩ := bnd_eq e
  refine hc σ H ρ Z ev S k S1 _ w r e1 fun H1 ρ1 w1 s1 => ?_
  cases k with
  | true => exact ha σ H1 ρ1 Z ev S1 x S' Q w1 (r.stp s1) e fun v H2 ρ2 w2 s2 => q v H2 ρ2 w2 (s1.trans s2)
  | false => exact hb σ H1 ρ1 Z ev S1 x S' Q w1 (r.stp s1) e fun v H2 ρ2 w2 s2 => q v H2 ρ2 w2 (s1.trans s2)
/-- and, or, not of truth values -/
def mAndV (a b : ME) : ME := fun ev S => bnd (a ev S) fun c S1 => match c with
  | .bl true => b ev S1
  | .bl false => some (.bl false, S1)
  | _ => none
def mOrV (a b : ME) : ME := fun ev S => bnd (a ev S) fun c S1 => match c with
  | .bl true => some (.bl true, S1)
  | .bl false => b ev S1
  | _ => none
def mNotV (a : ME) : ME := fun ev S => bnd (a ev S) fun c S1 => match c with
  | .bl k => some (.bl (!k), S1)
  | _ => none
theorem snd_andV {t u : TE} {a b : ME} (ha : Snd G t a) (hb : Snd G u b) : Snd G (tAndV t u) (mAndV a b) := by
  intro σ H ρ Z ev S x S' Q w r e q
  obtain ⟨c, S1, e1, e⟩ := bnd_eq e
  refine ha σ H ρ Z ev S c S1 _ w r e1 fun v H1 ρ1 w1 s1 r1 => ?_
  cases r1 <;> try (cases e; done)
  rename_i k
  cases k with
  | true => exact ⟨true, rfl, hb σ H1 ρ1 Z ev S1 x S' Q w1 (r.stp s1) e fun v H2 ρ2 w2 s2 => q v H2 ρ2 w2 (s1.trans s2)⟩
  | false => cases e; exact ⟨false, rfl, q _ H1 ρ1 w1 s1 (.bl _)⟩
theorem snd_orV {t u : TE} {a b : ME} (ha : Snd G t a) (hb : Snd G u b) : Snd G (tOrV t u) (mOrV a b) := by
  intro σ H ρ Z ev S x S' Q w r e q
  obtain ⟨c, S1, e1, e⟩ := bnd_eq e
  refine ha σ H ρ Z ev S c S1 _ w r e1 fun v H1 ρ1 w1 s1 r1 => ?_
  cases r1 <;> try (cases e; done)
  rename_i k
  cases k with
  | false => exact ⟨false, rfl, hb σ H1 ρ1 Z ev S1 x S' Q w1 (r.stp s1) e fun v H2 ρ2 w2 s2 => q v H2 ρ2 w2 (s1.trans s2)⟩
  | true => cases e; exact ⟨true, rfl, q _ H1 ρ1 w1 s1 (.bl _)⟩
theorem snd_notV {t : TE} {a : ME} (ha : Snd G t a) : Snd G (tNotV t) (mNotV a) := by
  intro σ H ρ Z ev S x S' Q w r e q
  obtain ⟨c, S1, e1, e⟩ := bnd_eq e
  refine ha σ H ρ Z ev S c S1 _ w r e1 fun v H1 ρ1 w1 s1 r1 => ?_
  cases r1 <;> try (cases e; done)
  cases e
  exact ⟨_, rfl, q _ H1 ρ1 w1 s1 (.bl _)⟩

/-! ### arguments, displays -/
def maNil : MA := fun _ S => some ([], S)
def maCons (m : ME) (r : MA) : MA := fun ev S => bnd (m ev S) fun d S1 => bnd (r ev S1) fun ds S2 => some (d :: ds, S2)
def maStar (m : ME) (r : MA) : MA := fun ev S => bnd (m ev S) fun d S1 => match asQ S1 d with
  | some xs => bnd (r ev S1) fun ds S2 => some (xs ++ ds, S2)
  | none => none
theorem snd_nil : SndA G tNil maNil := by
  intro σ H ρ Z ev S ds S' Q w r e q
  cases e
  exact q [] H ρ w .refl .nil
theorem snd_cons {t : TE} {u : TA} {m : ME} {n : MA} (ha : Snd G t m) (hb : SndA G u n) : SndA G (tCons t u) (maCons m n) := by
  intro σ H ρ Z ev S ds S' Q w r e q
  obtain ⟨d, S1, e1, e⟩ := bnd_eq e
  obtain ⟨es, S2, e2, e⟩ := bnd_eq e
  cases e
  refine ha σ H ρ Z ev S d S1 _ w r e1 fun v H1 ρ1 w1 s1 r1 => ?_
  exact hb σ H1 ρ1 Z ev S1 es S' _ w1 (r.stp s1) e2 fun vs H2 ρ2 w2 s2 r2 => q _ H2 ρ2 w2 (s1.trans s2) (.cons (s2.rep r1) r2)
theorem snd_star {t : TE} {u : TA} {m : ME} {n : MA} (ha : Snd G t m) (hb : SndA G u n) : SndA G (StX.tStar G.K t u) (maStar m n) := by
  intro σ H ρ Z ev S ds S' Q w r e q
  obtain ⟨d, S1, e1, e⟩ := bnd_eq e
  split at e
  · rename_i xs e3
    obtain ⟨es, S2, e2, e⟩ := bnd_eq e
    cases e
    refine ha σ H ρ Z ev S d S1 _ w r e1 fun v H1 ρ1 w1 s1 r1 => ?_
    obtain ⟨a, vs, rfl, h1, h2⟩ := asQ_ok w1 r1 e3
    exact ⟨a, vs, rfl, h1.symm, hb σ H1 ρ1 Z ev S1 es S' _ w1 (r.stp s1) e2 fun ws H2 ρ2 w2 s2 r2 => q _ H2 ρ2 w2 (s1.trans s2) ((s2.repL h2).app r2)⟩
  · cases e
def mTup (m : MA) : ME := fun ev S => bnd (m ev S) fun ds S1 => if ds.length ≤ sizeLine then some (.tup ds, S1) else none
def mLst (m : MA) : ME := fun ev S => bnd (m ev S) fun ds S1 => if ds.length ≤ sizeLine then some (.lst ds, S1) else none
/-- a list that will change -/
def mLstL (m : MA) : ME := fun ev S => bnd (m ev S) fun ds S1 => if ds.length ≤ sizeLine then some (.mut S1.length, S1 ++ [.lst ds]) else none
theorem snd_tup {t : TA} {m : MA} (h : SndA G t m) : Snd G (tTup t) (mTup m) := by
  intro σ H ρ Z ev S d S' Q w r e q
  obtain ⟨ds, S1, e1, e⟩ := bnd_eq e
  split at e
  · rename_i hz
    cases e
    refine h σ H ρ Z ev S ds S' _ w r e1 fun vs H1 ρ1 w1 s1 r1 => ⟨by rw [r1.length]; exact hz, fun p n => ?_⟩
    obtain ⟨w2, s2, e2⟩ := w1.new (o := .tup vs) n
    exact q _ _ ρ1 w2 (s1.trans s2) (.tup (.inl (.inl e2)) (s2.repL r1))
  · cases e
theorem snd_lst {t : TA} {m : MA} (h : SndA G t m) : Snd G (tLst t) (mLst m) := by
  intro σ H ρ Z ev S d S' Q w r e q
  obtain ⟨ds, S1, e1, e⟩ := bnd_eq e
  split at e
  · rename_i hz
    cases e
    refine h σ H ρ Z ev S ds S' _ w r e1 fun vs H1 ρ1 w1 s1 r1 => ⟨by rw [r1.length]; exact hz, fun p n => ?_⟩
    obtain ⟨w2, s2, e2⟩ := w1.new (o := .lst vs) n
    exact q _ _ ρ1 w2 (s1.trans s2) (.lst e2 (s2.repL r1))
  · cases e
theorem snd_lstL {t : TA} {m : MA} (h : SndA G t m) : Snd G (tLst t) (mLstL m) := by
  intro σ H ρ Z ev S d S' Q w r e q
  obtain ⟨ds, S1, e1, e⟩ := bnd_eq e
  split at e
  · rename_i hz
    cases e
    refine h σ H ρ Z ev S ds S1 _ w r e1 fun vs H1 ρ1 w1 s1 r1 => ⟨by rw [r1.length]; exact hz, fun p n => ?_⟩
    obtain ⟨w2, s2⟩ := w1.newL (o := .lst vs) (m := .lst ds) n r1
    exact q _ _ _ w2 (s1.trans s2) (.mut (by rw [← w1.len]; simp))
  · cases e

/-! ### calls of built-ins -/
abbrev FC := Sto → List Dv → Option Dv
def SndC (G : Gc) (r : List V → Hp → VK → Prop) (f : FC) : Prop := ∀ (xs : List V) (ds : List Dv) (c : Dv) (H : Hp) (ρ : List Addr) (Z : Fm) (S : Sto) (Q : VK), Wo G H ρ Z S → RepL G (hid H (ρ ++ Z.z)) ρ xs ds → f S ds = some c →
  (∀ v H', Grow H H' → Rep G (hid H' (ρ ++ Z.z)) ρ v c → Q v H') → r xs H Q
def mCB (f : FC) (m : MA) : ME := fun ev S => bnd (m ev S) fun ds S1 => match f S1 ds with
  | some c => some (c, S1)
  | none => none
theorem snd_cb {r : List V → Hp → VK → Prop} {f : FC} {t : TA} {m : MA} (hf : SndC G r f) (h : SndA G t m) : Snd G (tCB r t) (mCB f m) := by
  intro σ H ρ Z ev S d S' Q w rr e q
  obtain ⟨ds, S1, e1, e⟩ := bnd_eq e
  split at e
  · rename_i c e2
    cases e
    refine h σ H ρ Z ev S ds S' _ w rr e1 fun vs H1 ρ1 w1 s1 r1 => ?_
    exact hf vs ds d H1 ρ1 Z S' Q w1 r1 e2 fun v H2 sm r2 => q v H2 ρ1 (w1.grow sm).1 (s1.trans (w1.grow sm).2) r2
  · cases e
theorem SndC.or {r r' : List V → Hp → VK → Prop} {f f' g : FC} (h : SndC G r f) (h' : SndC G r' f') (hg : ∀ S a c, g S a = some c → f S a = some c ∨ f' S a = some c) : SndC G (fun x H Q => r x H Q ∨ r' x H Q) g := by
  intro xs ds c H ρ Z S Q w rx e q
  rcases hg S ds c e with e | e
  · exact .inl (h xs ds c H ρ Z S Q w rx e q)
  · exact .inr (h' xs ds c H ρ Z S Q w rx e q)
theorem repL1 {h : Hp} {xs : List V} {d : Dv} (r : RepL G h ρ xs [d]) : ∃ v, xs = [v] ∧ Rep G h ρ v d := by
  cases r with
  | cons a r => cases r; exact ⟨_, rfl, a⟩
theorem repL2 {h : Hp} {xs : List V} {d e : Dv} (r : RepL G h ρ xs [d, e]) : ∃ v u, xs = [v, u] ∧ Rep G h ρ v d ∧ Rep G h ρ u e := by
  cases r with
  | cons a r => obtain ⟨u, rfl, b⟩ := repL1 r; exact ⟨_, u, rfl, a, b⟩
/-- len of a list, a tuple, a text -/
def fLen : FC := fun S xs => match xs with
  | [d] => match d with
    | .str z => if z.length ≤ sizeLine then some (.int (z.length : Nat)) else none
    | d => match asQ S d with
      | some ds => some (.int (ds.length : Nat))
      | none => none
  | _ => none
theorem call_lenU {X : Cx} (K : PySem.W.Frag) (hK : X.K = K) : CallR X (.builtin "len") (fun xs H Q => ∃ x n, xs = [x] ∧ LenV K x H n ∧ Q (.int n) H) := by subst hK; exact call_len
theorem snd_len : SndC G (fun xs H Q => ∃ (x : V) (n : Nat), xs = [x] ∧ LenV G.K x H n ∧ Q (.int n) H) fLen := by
  intro xs ds c H ρ Z S Q w rx e q
  unfold fLen at e
  split at e
  · rename_i d
    obtain ⟨v, rfl, r⟩ := repL1 rx
    have gen : (match asQ S d with | some ds => some (Dv.int (ds.length : Nat)) | none => none) = some c → ∃ (x : V) (n : Nat), [v] = [x] ∧ LenV G.K x H n ∧ Q (.int n) H := by
      intro e
      cases e1 : asQ S d with
      | none => simp [e1] at e
      | some es =>
        rw [e1] at e
        cases e
        obtain ⟨a, vs, rfl, h1, h2⟩ := asQ_ok w r e1
        refine ⟨_, vs.length, rfl, ?_, ?_⟩
        · rcases h1 with h1 | h1
          · exact .inl ⟨vs, h1, rfl⟩
          · exact .inr ⟨vs, h1, rfl⟩
        · rw [h2.length]
          exact q _ H (Grow.refl _) (.int _)
    split at e
    · rename_i z
      cases r
      split at e
      · rename_i hz
        cases e
        exact ⟨_, z.length, rfl, ⟨hz, rfl⟩, q _ H (Grow.refl _) (.int _)⟩
      · cases e
    · exact gen e
  · cases e
/-- one int in, .. -/
def fC1 (C : Int → Bool) (g : Int → Dv) : FC := fun _ xs => match xs with
  | [.int i] => if C i then some (g i) else none
  | _ => none
def fAbs : FC := fun _ xs => match xs with
  | [.int i] => some (.int (if i < 0 then -i else i))
  | _ => none
theorem snd_abs : SndC G (fun xs H Q => ∃ i, xs = [.int i] ∧ Q (.int (if i < 0 then -i else i)) H) fAbs := by
  intro xs ds c H ρ Z S Q w rx e q
  unfold fAbs at e
  split at e
  · cases e
    obtain ⟨v, rfl, r⟩ := repL1 rx
    cases r
    exact ⟨_, rfl, q _ H (Grow.refl _) (.int _)⟩
  · cases e
def fMax2 : FC := fun _ xs => match xs with
  | [.int i, .int j] => some (.int (if j > i then j else i))
  | _ => none
theorem snd_max2 : SndC G (fun xs H Q => ∃ i j, xs = [.int i, .int j] ∧ Q (.int (if j > i then j else i)) H) fMax2 := by
  intro xs ds c H ρ Z S Q w rx e q
  unfold fMax2 at e
  split at e
  · cases e
    obtain ⟨v, u, rfl, r, r2⟩ := repL2 rx
    cases r
    cases r2
    exact ⟨_, _, rfl, q _ H (Grow.refl _) (.int _)⟩
  · cases e
def fMin2 : FC := fun _ xs => match xs with
  | [.int i, .int j] => some (.int (if j < i then j else i))
  | _ => none
theorem snd_min2 : SndC G (fun xs H Q => ∃ i j, xs = [.int i, .int j] ∧ Q (.int (if j < i then j else i)) H) fMin2 := by
  intro xs ds c H ρ Z S Q w rx e q
  unfold fMin2 at e
  split at e
  · cases e
    obtain ⟨v, u, rfl, r, r2⟩ := repL2 rx
    cases r
    cases r2
    exact ⟨_, _, rfl, q _ H (Grow.refl _) (.int _)⟩
  · cases e
def fInt1 : FC := fun _ xs => match xs with
  | [.int i] => some (.int i)
  | [.bl k] => some (.int (if k then 1 else 0))
  | _ => none
theorem snd_int1 : SndC G (fun xs H Q => (∃ i, xs = [.int i] ∧ Q (.int i) H) ∨ ∃ k, xs = [.bl k] ∧ Q (.int (if k then 1 else 0)) H) fInt1 := by
  intro xs ds c H ρ Z S Q w rx e q
  unfold fInt1 at e
  split at e
  · cases e
    obtain ⟨v, rfl, r⟩ := repL1 rx
    cases r
    exact .inl ⟨_, rfl, q _ H (Grow.refl _) (.int _)⟩
  · cases e
    obtain ⟨v, rfl, r⟩ := repL1 rx
    cases r
    exact .inr ⟨_, rfl, q _ H (Grow.refl _) (.int _)⟩
  · cases e
def fStrI : FC := fun _ xs => match xs with
  | [.int i] => if i.natAbs.log2 < 1920 then some (.str (toString i)) else none
  | _ => none
theorem snd_strI : SndC G (fun xs H Q => ∃ i, xs = [.int i] ∧ i.natAbs.log2 < 1920 ∧ Q (.str (toString i)) H) fStrI := by
  intro xs ds c H ρ Z S Q w rx e q
  unfold fStrI at e
  split at e
  · split at e
    · rename_i h
      cases e
      obtain ⟨v, rfl, r⟩ := repL1 rx
      cases r
      exact ⟨_, rfl, h, q _ H (Grow.refl _) (.str _)⟩
    · cases e
  · cases e
/-- tuple(xs), as an argument's reading -/
def fTupOf (S : Sto) (d : Dv) : Option Dv := match asQ S d with
  | some ds => some (.tup ds)
  | none => none
def mTupOf (m : ME) : ME := fun ev S => bnd (m ev S) fun d S1 => match fTupOf S1 d with
  | some c => some (c, S1)
  | none => none
theorem pe_tupleOfK {X : Cx} {a : Expr} {ta : TE} {p pos : Pos} (K : PySem.W.Frag) (hK : X.K = K) (hg : Gl X "tuple") (hm : X.mg "tuple" = none) (ha : PE X a ta) (na : starEach [a] X.env = (false, eval a X.env) :: starEach [] X.env := by rfl) :
    PE X (.Call (.Name "tuple" p) [a] [] pos) (tThen ta (kTup K)) := by subst hK; exact pe_tupleOf hg hm ha na
theorem snd_tupOf {t : TE} {m : ME} (h : Snd G t m) : Snd G (tThen t (kTup G.K)) (mTupOf m) := by
  intro σ H ρ Z ev S d S' Q w r e q
  obtain ⟨c, S1, e1, e⟩ := bnd_eq e
  split at e
  · rename_i c' e2
    cases e
    refine h σ H ρ Z ev S c S' _ w r e1 fun v H1 ρ1 w1 s1 r1 => ?_
    unfold fTupOf at e2
    split at e2
    · rename_i ds e3
      cases e2
      obtain ⟨a, vs, rfl, h1, h2⟩ := asQ_ok' w1 r1 e3
      rcases h1 with h1 | h1
      · refine .inl ⟨a, vs, rfl, h1, fun p n => ?_⟩
        obtain ⟨w2, s2, e4⟩ := w1.new (o := .tup vs) n
        exact q _ _ ρ1 w2 (s1.trans s2) (.tup (.inl (.inl e4)) (s2.repL h2))
      · exact .inr ⟨a, vs, rfl, sqt_same hid_le h1, q _ H1 ρ1 w1 s1 (.tup h1 h2)⟩
    · cases e2
  · cases e
end
end Mi

set_option Elab.async false
set_option linter.all false
set_option maxRecDepth 100000
set_option maxHeartbeats 4000000
/-! Functions beside the readings: walks, comprehensions, loops, statements. -/
namespace Mi
open PySem PySem.Spec PyProof.Rows L2 Sw
section
variable {G : Gc} {H H' : Hp} {ρ ρ' : List Addr} {Z : Fm} {S : Sto}

/-! ### targets -/
abbrev MG := Dv → Ev → Option Ev
def gV (i : Nat) : MG := fun d ev => some (ev.set i (some d))
abbrev MGs := List Dv → Ev → Option Ev
def gsNil : MGs := fun ds ev => match ds with
  | [] => some ev
  | _ => none
def gsCons (g : MG) (r : MGs) : MGs := fun ds ev => match ds with
  | d :: ds => match g d ev with
    | some ev1 => r ds ev1
    | none => none
  | [] => none
def gT (n : Nat) (g : MGs) : MG := fun d ev => match d with
  | .tup ds => if ds.length = n then g ds ev else none
  | _ => none
def SndGs (G : Gc) (g : TGs) (m : MGs) (vs : List Nat) : Prop := ∀ (σ : L2.St) (H : Hp) (ρ : List Addr) (Z : Fm) (ev ev' : Ev) (xs : List V) (ds : List Dv) (Q : L2.St → Hp → Prop), EvR G (hid H (ρ ++ Z.z)) ρ σ ev → RepL G (hid H (ρ ++ Z.z)) ρ xs ds → m ds ev = some ev' →
  (∀ σ', EvR G (hid H (ρ ++ Z.z)) ρ σ' ev' → L2.wipe σ' vs = L2.wipe σ vs → Q σ' H) → g xs σ H Q
theorem wipe_set {σ : L2.St} {i : Nat} {x : Option V} : ∀ {vs : List Nat}, i ∈ vs → L2.wipe (σ.set i x) vs = L2.wipe σ vs
  | [], h => by cases h
  | v :: vs, h => by
    have comm : ∀ (ws : List Nat) (σ : L2.St), L2.wipe (σ.set v x) ws = L2.wipe σ ws ∨ L2.wipe (σ.set v x) ws = (L2.wipe σ ws).set v x := by
      intro ws
      induction ws with
      | nil => intro σ; exact .inr rfl
      | cons w ws ih =>
        intro σ
        rcases ih σ with e | e
        · exact .inl (by simp [L2.wipe, e])
        · by_cases hw : w = v
          · subst hw
            exact .inl (by simp [L2.wipe, e])
          · exact .inr (by simp only [L2.wipe, e]; exact List.set_comm _ _ (Ne.symm hw))
    by_cases hv : v = i
    · subst hv
      rcases comm vs σ with e | e
      · simp [L2.wipe, e]
      · simp [L2.wipe, e]
    · have hi : i ∈ vs := by
        rcases List.mem_cons.mp h with e | e
        · exact absurd e.symm hv
        · exact e
      simp only [L2.wipe]
      rw [wipe_set hi]
theorem wipe_wipe {σ : L2.St} : ∀ (vs : List Nat) , L2.wipe (L2.wipe σ vs) vs = L2.wipe σ vs := by
  have key : ∀ (ws vs : List Nat) (σ : L2.St), (∀ i ∈ ws, i ∈ vs) → L2.wipe (L2.wipe σ ws) vs = L2.wipe σ vs := by
    intro ws
    induction ws with
    | nil => intro vs σ _; rfl
    | cons w ws ih =>
      intro vs σ h
      show L2.wipe ((L2.wipe σ ws).set w none) vs = _
      rw [wipe_set (h w (.head _))]
      exact ih vs σ fun i hi => h i (.tail _ hi)
  exact fun vs => key vs vs σ fun _ h => h
theorem snd_gV {i : Nat} {vs : List Nat} (hi : i ∈ vs) : SndG G (gName i) (gV i) vs := by
  intro σ H ρ Z ev ev' x d Q r rx e q
  cases e
  exact q _ (r.set i rx) (wipe_set hi)
theorem snd_gsNil {vs : List Nat} : SndGs G gNil gsNil vs := by
  intro σ H ρ Z ev ev' xs ds Q r rx e q
  cases rx with
  | nil => cases e; exact ⟨rfl, q σ r rfl⟩
  | cons a b => cases e
theorem snd_gsCons {g : TG} {u : TGs} {m : MG} {n : MGs} {vs : List Nat} (h : SndG G g m vs) (h2 : SndGs G u n vs) : SndGs G (gCons g u) (gsCons m n) vs := by
  intro σ H ρ Z ev ev' xs ds Q r rx e q
  cases rx with
  | nil => cases e
  | cons a b =>
    simp only [gsCons] at e
    split at e
    · rename_i ev1 e1
      refine ⟨_, _, rfl, h σ H ρ Z ev ev1 _ _ _ r a e1 fun σ1 r1 w1 => ?_⟩
      exact h2 σ1 H ρ Z ev1 ev' _ _ _ r1 b e fun σ2 r2 w2 => q σ2 r2 (w2.trans w1)
    · cases e
theorem pg_tupK {X : Cx} {es : List Expr} {k : Nat} {t : TGs} {n : Nat} {pos : Pos} (K : PySem.W.Frag) (hK : X.K = K) (hc : X.calm = true) (h : PGs X es t)
    (hn : (assignEach es X.env).length = n := by rfl) (hst : (assignEach es X.env).findIdx? (·.1) = none := by rfl) : PG X (.Tuple es k pos) (gTup K n t) := by
  subst hK
  exact pg_tup hc h hn hst
theorem snd_gT {n : Nat} {u : TGs} {m : MGs} {vs : List Nat} (h : SndGs G u m vs) : SndG G (gTup G.K n u) (gT n m) vs := by
  intro σ H ρ Z ev ev' x d Q r rx e q
  cases rx <;> simp only [gT] at e <;> try (cases e; done)
  rename_i a ws es h1 h2
  split at e
  · rename_i hl
    exact ⟨a, ws, rfl, sqt_same hid_le h1, by rw [h2.length]; exact hl, h σ H ρ Z ev ev' ws es Q r h2 e q⟩
  · cases e

/-! ### walks -/
theorem PI.or {X : Cx} {tg iter : Expr} {w1 w2 : TI} (h1 : PI X tg iter w1) (h2 : PI X tg iter w2) : PI X tg iter (fun σ H R => w1 σ H R ∨ w2 σ H R) :=
  ⟨fun pins s σ H R I q => by
    rcases q with q | q
    · exact h1.run pins s σ H R I q
    · exact h2.run pins s σ H R I q⟩
def iU (K : PySem.W.Frag) (t : TE) : TI := fun σ H R => iList K t σ H R ∨ (fun σ H R => iTup K t σ H R ∨ iStr t σ H R) σ H R
theorem pi_U {X : Cx} {tg e : Expr} {t : TE} (K : PySem.W.Frag) (hK : X.K = K) (h : PE X e t) : PI X tg e (iU K t) := by
  subst hK
  exact PI.or (pi_list h) (PI.or (pi_tup h) (pi_str h))
def itemsOf : Dv → Option (List Dv)
  | .str z => some ((chars z).map .str)
  | .tup ds => some ds
  | .lst ds => some ds
  | .scr ds => some ds
  | _ => none
def mIt (m : ME) : MA := fun ev S => bnd (m ev S) fun d S1 => match itemsOf d with
  | some ds => some (ds, S1)
  | none => none
theorem gives_at {H1 : Hp} {ρ1 : List Addr} {Z : Fm} {vs : List V} {ds : List Dv} (r : RepL G (hid H1 (ρ1 ++ Z.z)) ρ1 vs ds) : Gives G H1 ρ1 Z ds (YAt vs) := by
  intro i H2 ρ2 Z2 S2 x H3 d w sm sa hd ⟨e, hv⟩
  subst e
  obtain ⟨v, hv2, rv⟩ := r.at hd
  rw [hv] at hv2
  cases hv2
  exact ⟨.refl _, rv.mono sm sa⟩
theorem Sm.hid {h h' : Hp} {L : List Addr} (s : Sm h (hid h' L)) : Sm h h' := s.trans (.of hid_le)
theorem snd_it {t : TE} {m : ME} (h : Snd G t m) : SndI G (iU G.K t) (mIt m) := by
  intro σ H ρ Z ev S items S' R w r e q
  obtain ⟨d, S1, e1, e⟩ := bnd_eq e
  split at e
  · rename_i ds e2
    cases e
    cases d <;> simp only [itemsOf] at e2 <;> try (cases e2; done)
    · rename_i z
      cases e2
      refine .inr (.inr (h σ H ρ Z ev S _ S' _ w r e1 fun v H1 ρ1 w1 s1 r1 => ?_))
      cases r1
      refine ⟨z, rfl, q _ _ _ H1 ρ1 w1 s1 (by rw [List.length_map]; exact walk_chars) (fun _ _ _ => True.intro) ?_⟩
      intro i H2 ρ2 Z2 S2 x H3 d w sm sa hd ⟨e, c, hc, hx⟩
      subst e hx
      rw [List.getElem?_map, hc] at hd
      cases hd
      exact ⟨.refl _, .str _⟩
    · cases e2
      refine .inr (.inl (h σ H ρ Z ev S _ S' _ w r e1 fun v H1 ρ1 w1 s1 r1 => ?_))
      cases r1
      rename_i a vs h1 h2
      refine ⟨a, rfl, ⟨vs, sqt_same hid_le h1⟩, q _ _ _ H1 ρ1 w1 s1 (by rw [← h2.length]; exact walk_tup) (fun H2 sm _ => sm.sqt h1) (gives_at h2)⟩
    · cases e2
      refine .inl (h σ H ρ Z ev S _ S' _ w r e1 fun v H1 ρ1 w1 s1 r1 => ?_)
      cases r1
      rename_i a vs h1 h2
      refine ⟨a, rfl, ⟨vs, .inl (.inl (hid_le _ _ h1))⟩, q _ (fun H => SqL G.K H a vs) _ H1 ρ1 w1 s1 (by rw [← h2.length]; exact walk_list) (fun H2 sm _ => .inl (.inl (sm.lst h1))) (gives_at h2)⟩
    · cases e2
      refine .inl (h σ H ρ Z ev S _ S' _ w r e1 fun v H1 ρ1 w1 s1 r1 => ?_)
      cases r1
      rename_i a vs h1 h2
      refine ⟨a, rfl, ⟨vs, Same.seq hid_le h1⟩, q _ _ _ H1 ρ1 w1 s1 (by rw [← h2.length]; exact walk_list) (fun H2 sm _ => sm.sql h1) (gives_at h2)⟩
  · cases e
/-- ranges -/
def rangeD (lo : Int) (n : Nat) : List Dv := (List.range n).map fun i => .int (lo + (i : Nat))
def mRng1 (m : MA) : MA := fun ev S => bnd (m ev S) fun ds S1 => match ds with
  | [.int j] => if j.natAbs < 2 ^ 62 then some (rangeD 0 j.toNat, S1) else none
  | _ => none
def mRng2 (m : MA) : MA := fun ev S => bnd (m ev S) fun ds S1 => match ds with
  | [.int i, .int j] => if i.natAbs < 2 ^ 62 ∧ j.natAbs < 2 ^ 62 then some (rangeD i (j - i).toNat, S1) else none
  | _ => none
theorem gives_range {H1 : Hp} {ρ1 : List Addr} {Z : Fm} {lo : Int} {n : Nat} : Gives G H1 ρ1 Z (rangeD lo n) (YFn fun i => .int (lo + i)) := by
  intro i H2 ρ2 Z2 S2 x H3 d w sm sa hd ⟨e, hv⟩
  subst e hv
  unfold rangeD at hd
  rw [List.getElem?_map] at hd
  cases hr : (List.range n)[i]? with
  | none => rw [hr] at hd; cases hd
  | some k =>
    rw [hr] at hd
    obtain ⟨hk, e⟩ := List.getElem?_eq_some_iff.mp hr
    rw [List.getElem_range] at e
    subst e
    cases hd
    exact ⟨.refl _, .int _⟩
theorem snd_rng1 {t : TA} {m : MA} (h : SndA G t m) : SndI G (iRng1 t) (mRng1 m) := by
  intro σ H ρ Z ev S items S' R w r e q
  obtain ⟨ds, S1, e1, e⟩ := bnd_eq e
  split at e
  · rename_i j
    split at e
    · rename_i hb
      cases e
      refine h σ H ρ Z ev S _ S' _ w r e1 fun vs H1 ρ1 w1 s1 r1 => ?_
      obtain ⟨v, rfl, rv⟩ := repL1 r1
      cases rv
      exact ⟨j, rfl, by omega, by omega, q _ _ _ H1 ρ1 w1 s1 (by unfold rangeD; rw [List.length_map, List.length_range]; exact walk_range) (fun _ _ _ => True.intro) gives_range⟩
    · cases e
  · cases e
theorem snd_rng2 {t : TA} {m : MA} (h : SndA G t m) : SndI G (iRng2 t) (mRng2 m) := by
  intro σ H ρ Z ev S items S' R w r e q
  obtain ⟨ds, S1, e1, e⟩ := bnd_eq e
  split at e
  · rename_i i j
    split at e
    · rename_i hb
      cases e
      refine h σ H ρ Z ev S _ S' _ w r e1 fun vs H1 ρ1 w1 s1 r1 => ?_
      obtain ⟨v, u, rfl, rv, ru⟩ := repL2 r1
      cases rv
      cases ru
      exact ⟨i, j, rfl, ⟨by omega, by omega, by omega, by omega⟩, q _ _ _ H1 ρ1 w1 s1 (by unfold rangeD; rw [List.length_map, List.length_range]; exact walk_range) (fun _ _ _ => True.intro) gives_range⟩
    · cases e
  · cases e
/-- enumerate -/
def enumD : Nat → List Dv → List Dv
  | _, [] => []
  | i, d :: ds => .tup [.int (i : Nat), d] :: enumD (i + 1) ds
theorem enumD_len : ∀ (k : Nat) (ds : List Dv), (enumD k ds).length = ds.length
  | _, [] => rfl
  | k, d :: ds => by simp [enumD, enumD_len (k + 1) ds]
theorem enumD_at : ∀ (k : Nat) (ds : List Dv) (i : Nat) (e : Dv), (enumD k ds)[i]? = some e → ∃ d, ds[i]? = some d ∧ e = .tup [.int ((k + i : Nat) : Int), d]
  | _, [], i, e, h => by simp [enumD] at h
  | k, d :: ds, 0, e, h => by simp [enumD] at h; exact ⟨d, rfl, by simp [h]⟩
  | k, d :: ds, i + 1, e, h => by
    obtain ⟨d2, h1, h2⟩ := enumD_at (k + 1) ds i e (by simpa [enumD] using h)
    refine ⟨d2, by simpa using h1, ?_⟩
    rw [h2, Nat.add_assoc, Nat.add_comm 1 i]
theorem gives_pair {H1 : Hp} {ρ1 : List Addr} {Z : Fm} {n : Nat} {ds : List Dv} {f g : Nat → Option V} (hi : ∀ (i : Nat) (d : Dv), ds[i]? = some d → ∃ d1 d2, d = .tup [d1, d2] ∧ (∀ v, f i = some v → Rep G (hid H1 (ρ1 ++ Z.z)) ρ1 v d1) ∧ (∀ v, g i = some v → Rep G (hid H1 (ρ1 ++ Z.z)) ρ1 v d2)) :
    Gives G H1 ρ1 Z ds (YPair f g) := by
  intro i H2 ρ2 Z2 S2 x H3 d w sm sa hd ⟨T, v1, v2, e1, nT, e3, hf, hg⟩
  subst e1 e3
  obtain ⟨d1, d2, rfl, h1, h2⟩ := hi i d hd
  obtain ⟨w2, s2, e2⟩ := w.new (o := .tup [v1, v2]) nT
  exact ⟨Grow.new nT, .tup (.inl (.inl e2)) (.cons (s2.rep ((h1 v1 hf).mono sm sa)) (.cons (s2.rep ((h2 v2 hg).mono sm sa)) .nil))⟩
theorem walk_enumT {K : PySem.W.Frag} {a : Addr} {xs : List V} : Walk (IteT K a) xs.length (fun H => SqT K H a xs) (YPair (fun i => some (.int (i : Nat))) (fun i => xs[i]?)) := by
  refine ⟨fun i _ hi q => ⟨xs, xs[i], q, by simp [hi]⟩, fun _ q => ⟨xs, q, Nat.le_refl _⟩, fun i H v H' _ q y => ?_⟩
  obtain ⟨T, x, h1, h2, h3, h4⟩ := y
  exact ⟨T, .int (i : Nat), x, h1, h2, h3, rfl, h4 xs q⟩
def mEnum (m : MA) : MA := fun ev S => bnd (m ev S) fun ds S1 => match ds with
  | [.lst es] => some (enumD 0 es, S1)
  | [.tup es] => some (enumD 0 es, S1)
  | _ => none
def iEnumU (K : PySem.W.Frag) (ta : TA) : TI := fun σ H R => iEnum K ta σ H R ∨ iEnumT K ta σ H R
theorem pi_enumU {X : Cx} {e : Expr} {ta : TA} {p pos tpos : Pos} {elts : List Expr} {kk : Nat} (K : PySem.W.Frag) (hK : X.K = K) (hg : Gl X "enumerate") (hm : X.mg "enumerate" = none) (ha : PA X [e] ta) (hs : starEach [e] X.env = [(false, eval e X.env)] := by rfl) :
    PI X (.Tuple elts kk tpos) (.Call (.Name "enumerate" p) [e] [] pos) (iEnumU K ta) := by
  subst hK
  exact PI.or (pi_enum hg hm ha hs) (pi_enumT hg hm ha hs)
theorem snd_enum {t : TA} {m : MA} (h : SndA G t m) : SndI G (iEnumU G.K t) (mEnum m) := by
  intro σ H ρ Z ev S items S' R w r e q
  obtain ⟨ds, S1, e1, e⟩ := bnd_eq e
  have gv : ∀ (H1 : Hp) (ρ1 : List Addr) (vs : List V) (es : List Dv), RepL G (hid H1 (ρ1 ++ Z.z)) ρ1 vs es → Gives G H1 ρ1 Z (enumD 0 es) (YPair (fun i => some (.int (i : Nat))) (fun i => vs[i]?)) := fun H1 ρ1 vs es r2 => by
    refine gives_pair (n := 0) fun i d hd => ?_
    obtain ⟨d2, h1, h2⟩ := enumD_at 0 es i d hd
    rw [Nat.zero_add] at h2
    refine ⟨_, d2, h2, fun v hv => ?_, fun v hv => ?_⟩
    · cases hv
      exact .int _
    · obtain ⟨d3, h3, h4⟩ := r2.atV hv
      rw [h1] at h3
      cases h3
      exact h4
  split at e
  · rename_i es
    cases e
    refine .inl (h σ H ρ Z ev S _ S' _ w r e1 fun vs H1 ρ1 w1 s1 r1 => ?_)
    obtain ⟨v, rfl, rv⟩ := repL1 r1
    cases rv
    rename_i a ws h1 h2
    exact ⟨a, ws, rfl, .inl (.inl (hid_le _ _ h1)), q _ (fun H => SqL G.K H a ws) _ H1 ρ1 w1 s1 (by rw [enumD_len, ← h2.length]; exact walk_enum) (fun H2 sm _ => .inl (.inl (sm.lst h1))) (gv H1 ρ1 ws es h2)⟩
  · rename_i es
    cases e
    refine .inr (h σ H ρ Z ev S _ S' _ w r e1 fun vs H1 ρ1 w1 s1 r1 => ?_)
    obtain ⟨v, rfl, rv⟩ := repL1 r1
    cases rv
    rename_i a ws h1 h2
    exact ⟨a, ws, rfl, sqt_same hid_le h1, q _ _ _ H1 ρ1 w1 s1 (by rw [enumD_len, ← h2.length]; exact walk_enumT) (fun H2 sm _ => sm.sqt h1) (gv H1 ρ1 ws es h2)⟩
  · cases e

/-! ### comprehensions -/
/-- the turns of a comprehension -/
def lcGo (g : MG) (tt : MT) (me : ME) (ev : Ev) : List Dv → Sto → Option (List Dv × Sto)
  | [], S => some ([], S)
  | x :: xs, S => match g x ev with
    | some ev1 => bnd (tt ev1 S) fun b S1 => if b then bnd (me ev1 S1) fun d S2 => bnd (lcGo g tt me ev xs S2) fun ds S3 => some (d :: ds, S3) else lcGo g tt me ev xs S1
    | none => none
def mLc (vs : List Nat) (mi : MA) (g : MG) (tt : MT) (me : ME) : ME := fun ev S => bnd (mi ev S) fun items S1 => bnd (lcGo g tt me (wipeE ev vs) items S1) fun ds S2 => if ds.length ≤ sizeLine then some (.lst ds, S2) else none
def mYes : MT := fun _ S => some (true, S)
theorem snd_yes : SndT G tYes mYes := by
  intro σ H ρ Z ev S b S' Q w r e q
  cases e
  exact q H ρ w .refl
/-- an address is hidden as well -/
def Fm.with (Z : Fm) (D : Addr) : Fm := ⟨Z.z ++ [D], Z.lk⟩
theorem hid_app {H : Hp} {L M : List Addr} : hid H (L ++ M) = hid (hid H L) M := by
  funext a
  unfold hid
  by_cases h1 : a ∈ M
  · rw [if_pos h1, if_pos (List.mem_append.mpr (.inr h1))]
  · rw [if_neg h1]
    by_cases h2 : a ∈ L
    · rw [if_pos h2, if_pos (List.mem_append.mpr (.inl h2))]
    · rw [if_neg h2, if_neg fun z => (List.mem_append.mp z).elim h2 h1]
theorem Wo.hide (w : Wo G H ρ Z S) {D : Addr} {o : HO} (n : H D = none) (po : plainO o = true := by rfl) : Wo G (upd H D o) ρ (Z.with D) S ∧ Sm (hid H (ρ ++ Z.z)) (hid (upd H D o) (ρ ++ (Z.with D).z)) := by
  have f := w.fresh n
  have eh : hid (upd H D o) (ρ ++ (Z.with D).z) = hid H (ρ ++ Z.z) := by
    funext a
    unfold hid Fm.with
    by_cases h1 : a ∈ ρ ++ Z.z
    · rw [if_pos h1, if_pos (by rw [← List.append_assoc]; exact List.mem_append.mpr (.inl h1))]
    · rw [if_neg h1]
      by_cases h2 : a = D
      · rw [if_pos (by rw [← List.append_assoc]; exact List.mem_append.mpr (.inr (by simp [h2]))), h2, n]
      · rw [if_neg (by rw [← List.append_assoc]; intro z; exact (List.mem_append.mp z).elim h1 fun y => h2 (by simpa using y)), upd_ne h2]
  refine ⟨⟨w.len, ?_, fun l m e => ?_, fun z m => ?_, w.nofz.grow (Grow.new n po) fun a m => ?_⟩, by rw [eh]; exact .refl _⟩
  · unfold Fm.with
    rw [← List.append_assoc]
    refine List.nodup_append.mpr ⟨w.nd, List.nodup_cons.mpr ⟨by simp, List.nodup_nil⟩, fun a ha b hb => ?_⟩
    intro z
    subst z
    rw [List.mem_singleton.mp hb] at ha
    exact f ha
  · obtain ⟨a, ho, h1, h2, h3⟩ := w.cell l m e
    exact ⟨a, ho, h1, same_new n _ _ h2, by rw [eh]; exact h3⟩
  · rcases List.mem_append.mp m with m | m
    · exact fun e => w.zin z m ((same_new n).free e)
    · rw [List.mem_singleton.mp m, upd_same]
      simp
  · unfold Fm.with at m
    rw [← List.append_assoc] at m
    rcases List.mem_append.mp m with m | m
    · exact .inl m
    · rw [List.mem_singleton.mp m]; exact .inr n
theorem Wo.rewrite (w : Wo G H ρ (Z.with D) S) {o : HO} (po : plainO o = true := by rfl) : Wo G (upd H D o) ρ (Z.with D) S ∧ hid (upd H D o) (ρ ++ (Z.with D).z) = hid H (ρ ++ (Z.with D).z) ∧ ∀ z ∈ Z.z, upd H D o z = H z := by
  have mD : D ∈ ρ ++ (Z.with D).z := List.mem_append.mpr (.inr (List.mem_append.mpr (.inr (.head _))))
  have eh : hid (upd H D o) (ρ ++ (Z.with D).z) = hid H (ρ ++ (Z.with D).z) := by
    funext a
    unfold hid
    by_cases h1 : a ∈ ρ ++ (Z.with D).z
    · rw [if_pos h1, if_pos h1]
    · rw [if_neg h1, if_neg h1, upd_ne fun z => h1 (by rw [z]; exact mD)]
  have nd := w.nd
  have nz : ∀ z ∈ Z.z, z ≠ D := fun z m e => by
    subst e
    have h1 := (List.nodup_append.mp nd).2.1
    exact (List.nodup_append.mp h1).2.2 z m z (.head _) rfl
  have nr : ∀ a ∈ ρ, a ≠ D := fun a m e => by
    subst e
    exact (List.nodup_append.mp nd).2.2 a m a (List.mem_append.mpr (.inr (.head _))) rfl
  refine ⟨⟨w.len, nd, fun l m e => ?_, fun z m => ?_, w.nofz.upd mD po⟩, eh, fun z m => upd_ne (nz z m)⟩
  · obtain ⟨a, ho, h1, h2, h3⟩ := w.cell l m e
    exact ⟨a, ho, h1, by rw [upd_ne (nr a (List.mem_of_getElem? h1))]; exact h2, by rw [eh]; exact h3⟩
  · rcases List.mem_append.mp m with m2 | m2
    · rw [upd_ne (nz z m2)]
      exact w.zin z m
    · rw [List.mem_singleton.mp m2, upd_same]
      simp
theorem Wo.show_ (w : Wo G H ρ (Z.with D) S) : Wo G H ρ Z S ∧ Sm (hid H (ρ ++ (Z.with D).z)) (hid H (ρ ++ Z.z)) ∧ D ∉ ρ ++ Z.z := by
  have sm : Sm (hid H (ρ ++ (Z.with D).z)) (hid H (ρ ++ Z.z)) := .of <| hid_mono (Same.refl _) fun a m1 m2 => absurd (by
    unfold Fm.with
    rw [← List.append_assoc]
    exact List.mem_append.mpr (.inl m1)) m2
  have nd := w.nd
  unfold Fm.with at nd
  rw [← List.append_assoc] at nd
  refine ⟨⟨w.len, (List.nodup_append.mp nd).1, fun l m e => ?_, fun z m => w.zin z (List.mem_append.mpr (.inl m)), w.nofz.grow (Grow.refl _) fun a m => .inl (by unfold Fm.with; rw [← List.append_assoc]; exact List.mem_append.mpr (.inl m))⟩, sm, fun m => ?_⟩
  · obtain ⟨a, ho, h1, h2, h3⟩ := w.cell l m e
    exact ⟨a, ho, h1, h2, h3.mono sm fun _ _ q => q⟩
  · exact (List.nodup_append.mp nd).2.2 D m D (.head _) rfl
theorem Stp.to {H1 H2 : Hp} {ρ1 ρ2 : List Addr} (p : ∃ r, ρ2 = ρ1 ++ r) (s : Sm (hid H1 (ρ1 ++ Z.z)) (hid H2 (ρ2 ++ Z.z))) (k : ∀ z ∈ Z.z, H2 z = H1 z) : Stp H1 ρ1 Z H2 ρ2 := ⟨p, s, k⟩
/-- the invariant of a comprehension -/
structure LcAt (G : Gc) (H1 : Hp) (ρ1 : List Addr) (Z : Fm) (D : Addr) (go : List Dv → Sto → Option (List Dv × Sto)) (items : List Dv) (all : List Dv) (S' : Sto) (i : Nat) (H : Hp) : Prop where
  ex : ∃ (ρ : List Addr) (S : Sto) (vs : List V) (acc rest : List Dv), Wo G H ρ (Z.with D) S ∧ (∃ r, ρ = ρ1 ++ r) ∧ Sm (hid H1 (ρ1 ++ Z.z)) (hid H (ρ ++ (Z.with D).z)) ∧ (∀ z ∈ Z.z, H z = H1 z) ∧
    H D = some (.lst vs) ∧ RepL G (hid H (ρ ++ (Z.with D).z)) ρ vs acc ∧ go (items.drop i) S = some (rest, S') ∧ all = acc ++ rest
theorem pre_at {ρ ρ' : List Addr} (p : ∃ r, ρ' = ρ ++ r) (l : Nat) (a : Addr) (e : ρ[l]? = some a) : ρ'[l]? = some a := by
  obtain ⟨r, rfl⟩ := p
  rw [List.getElem?_append_left (List.getElem?_eq_some_iff.mp e).1]
  exact e
theorem drop_cons {α : Type} {xs : List α} {i : Nat} {x : α} (h : xs[i]? = some x) : xs.drop i = x :: xs.drop (i + 1) := by
  obtain ⟨h1, h2⟩ := List.getElem?_eq_some_iff.mp h
  rw [← h2]
  exact (List.getElem_cons_drop h1).symm
theorem snd_lc {wi : TI} {g : TG} {tt : TT} {te : TE} {vs : List Nat} {mi : MA} {mg : MG} {mt : MT} {me : ME} (hi : SndI G wi mi) (hg : SndG G g mg vs) (ht : SndT G tt mt) (he : Snd G te me) : Snd G (tLc wi g tt te vs) (mLc vs mi mg mt me) := by
  intro σ H ρ Z ev S d S' Q w r e q
  obtain ⟨items, S1, e1, e⟩ := bnd_eq e
  obtain ⟨all, S2, e2, e⟩ := bnd_eq e
  split at e
  case isFalse => cases e
  rename_i hz
  cases e
  refine hi σ H ρ Z ev S items S1 _ w r e1 fun J Gd Y H1 ρ1 w1 s1 wk gd gv D nD => ?_
  have r1 := (r.stp s1).wipe vs
  refine lc_it wk (LcAt G H1 ρ1 Z D (lcGo mg mt me (wipeE ev vs)) items all S') ?_ ?_ ?_ ?_
  · obtain ⟨w2, s2⟩ := w1.hide (o := .lst []) nD
    refine ⟨ρ1, S1, [], [], all, w2, ⟨[], by simp⟩, s2, fun z m => upd_ne fun e => ?_, upd_same, .nil, e2, rfl⟩
    subst e
    exact w1.zin z m nD
  · rintro i H2 hi2 ⟨ρ2, S3, us, acc, rest, w2, p2, s2, k2, hD, rr, go, ea⟩
    exact gd H2 s2.hid fun p m => (w2.nofz.1 p m).1
  · rintro i x H2 H3 hi2 ⟨ρ2, S3, us, acc, rest, w2, p2, s2, k2, hD, rr, go, ea⟩ y
    obtain ⟨it, hit⟩ : ∃ it, items[i]? = some it := ⟨items[i], List.getElem?_eq_getElem hi2⟩
    obtain ⟨gr, rx⟩ := gv i H2 ρ2 (Z.with D) S3 x H3 it w2 s2 (pre_at p2) hit y
    obtain ⟨w3, s3⟩ := w2.grow gr
    rw [drop_cons hit] at go
    simp only [lcGo] at go
    split at go
    case h_2 => cases go
    rename_i ev1 eg
    obtain ⟨b, S4, e4, go⟩ := bnd_eq go
    have r3 : EvR G (hid H3 (ρ2 ++ (Z.with D).z)) ρ2 (L2.wipe σ vs) (wipeE ev vs) := (r1.mono s2 (pre_at p2)).stp s3
    refine hg _ H3 ρ2 (Z.with D) _ ev1 x it _ r3 rx eg fun σ2 r4 hw => ⟨hw.trans (wipe_wipe vs), ?_⟩
    refine ht σ2 H3 ρ2 (Z.with D) ev1 S3 b S4 _ w3 r4 e4 fun H4 ρ4 w4 s4 => ?_
    have zD : D ∈ (Z.with D).z := List.mem_append.mpr (.inr (.head _))
    have zZ : ∀ z ∈ Z.z, z ∈ (Z.with D).z := fun z m => List.mem_append.mpr (.inl m)
    have hD3 : H3 D = some (.lst us) := gr.same _ _ hD
    have hD4 : H4 D = some (.lst us) := (s4.zk D zD).trans hD3
    have pre : ∀ {ρa ρb : List Addr}, (∃ r, ρa = ρ1 ++ r) → (∃ r, ρb = ρa ++ r) → ∃ r, ρb = ρ1 ++ r := fun ⟨a, ea⟩ ⟨b, eb⟩ => ⟨a ++ b, by rw [eb, ea, List.append_assoc]⟩
    cases b with
    | false =>
      rw [if_neg Bool.false_ne_true] at go ⊢
      exact ⟨ρ4, S4, us, acc, rest, w4, pre p2 (s3.trans s4).pre, s2.trans (s3.trans s4).same, fun z m => ((s3.trans s4).zk z (zZ z m)).trans (k2 z m), hD4, (s3.trans s4).repL rr, go, ea⟩
    | true =>
      rw [if_pos rfl] at go ⊢
      obtain ⟨d, S5, e5, go⟩ := bnd_eq go
      obtain ⟨ds, S6, e6, go⟩ := bnd_eq go
      cases go
      refine he σ2 H4 ρ4 (Z.with D) ev1 S4 d S5 _ w4 (r4.stp s4) e5 fun v H5 ρ5 w5 s5 r5 => ?_
      have st := (s3.trans s4).trans s5
      have hD5 : H5 D = some (.lst us) := (s5.zk D zD).trans hD4
      have la := congrArg List.length ea
      rw [List.length_append, List.length_cons] at la
      obtain ⟨w6, e6h, z6⟩ := w5.rewrite (o := .lst (us ++ [v]))
      refine ⟨us, hD5, ?_, ⟨ρ5, S5, us ++ [v], acc ++ [d], ds, w6, pre p2 st.pre, ?_, fun z m => (z6 z m).trans ((st.zk z (zZ z m)).trans (k2 z m)), upd_same, ?_, e6, by rw [ea, List.append_assoc]; rfl⟩⟩
      · have := rr.length
        omega
      · rw [e6h]
        exact s2.trans st.same
      · rw [e6h]
        exact (st.repL rr).app (.cons r5 .nil)
  · rintro H2 ⟨ρ2, S3, us, acc, rest, w2, p2, s2, k2, hD, rr, go, ea⟩
    rw [List.drop_length] at go
    simp only [lcGo] at go
    cases go
    rw [List.append_nil] at ea
    subst ea
    obtain ⟨w3, s3, nD3⟩ := w2.show_
    exact q _ H2 ρ2 w3 (s1.trans (.to p2 (s2.trans s3) k2)) (.lst (hid_of nD3 hD) (rr.mono s3 fun _ _ q => q))
end
end Mi

set_option Elab.async false
set_option linter.all false
set_option maxRecDepth 100000
set_option maxHeartbeats 4000000
/-! Functions beside the readings: loops, statements, defs. -/
namespace Mi
open PySem PySem.Spec PyProof.Rows L2 Sw
section
variable {G : Gc} {H H' : Hp} {ρ ρ' : List Addr} {Z : Fm} {S : Sto}

/-! ### statements -/
def sNext : MS := fun ev S => some (.nx ev, S)
def sSeq (a b : MS) : MS := fun ev S => bnd (a ev S) fun o S1 => match o with
  | .nx ev1 => b ev1 S1
  | o => some (o, S1)
theorem snd_next : SndS G tNext sNext := by
  intro σ H ρ Z ev S o S' D w r e q
  cases e
  exact q σ H ρ w .refl r
theorem snd_seq {t u : TS} {a b : MS} (ha : SndS G t a) (hb : SndS G u b) : SndS G (tSeq t u) (sSeq a b) := by
  intro σ H ρ Z ev S o S' D w r e q
  obtain ⟨o1, S1, e1, e⟩ := bnd_eq e
  refine ha σ H ρ Z ev S o1 S1 _ w r e1 ?_
  cases o1 with
  | nx ev1 => exact fun σ1 H1 ρ1 w1 s1 r1 => hb σ1 H1 ρ1 Z ev1 S1 o S' D w1 r1 e (q.of s1)
  | rt d => cases e; exact q
  | bk ev1 => cases e; exact q
  | ct ev1 => cases e; exact q
def sSet (i : Nat) (m : ME) : MS := fun ev S => bnd (m ev S) fun d S1 => some (.nx (ev.set i (some d)), S1)
theorem snd_set {i : Nat} {t : TE} {m : ME} (h : Snd G t m) : SndS G (tAsg t (gName i)) (sSet i m) := by
  intro σ H ρ Z ev S o S' D w r e q
  obtain ⟨d, S1, e1, e⟩ := bnd_eq e
  cases e
  exact h σ H ρ Z ev S d S' _ w r e1 fun v H1 ρ1 w1 s1 r1 => q _ H1 ρ1 w1 s1 ((r.stp s1).set i r1)
/-- a target of another form -/
def sAsg (g : MG) (m : ME) : MS := fun ev S => bnd (m ev S) fun d S1 => match g d ev with
  | some ev1 => some (.nx ev1, S1)
  | none => none
theorem snd_asg {vs : List Nat} {t : TE} {m : ME} {g : TG} {mg : MG} (h : Snd G t m) (hg : SndG G g mg vs) : SndS G (tAsg t g) (sAsg mg m) := by
  intro σ H ρ Z ev S o S' D w r e q
  obtain ⟨d, S1, e1, e⟩ := bnd_eq e
  split at e
  · rename_i ev1 e2
    cases e
    exact h σ H ρ Z ev S d S' _ w r e1 fun v H1 ρ1 w1 s1 r1 => hg σ H1 ρ1 Z ev ev1 v d _ (r.stp s1) r1 e2 fun σ2 r2 _ => q _ H1 ρ1 w1 s1 r2
  · cases e
def sPar (i j : Nat) (m : MA) : MS := fun ev S => bnd (m ev S) fun ds S1 => match ds with
  | [a, b] => some (.nx ((ev.set i (some a)).set j (some b)), S1)
  | _ => none
theorem snd_par {i j : Nat} {t : TA} {m : MA} (h : SndA G t m) : SndS G (tPar i j t) (sPar i j m) := by
  intro σ H ρ Z ev S o S' D w r e q
  obtain ⟨ds, S1, e1, e⟩ := bnd_eq e
  split at e
  · cases e
    refine h σ H ρ Z ev S _ S' _ w r e1 fun vs H1 ρ1 w1 s1 r1 => ?_
    obtain ⟨v, u, rfl, rv, ru⟩ := repL2 r1
    exact ⟨v, u, rfl, q _ H1 ρ1 w1 s1 (((r.stp s1).set i rv).set j ru)⟩
  · cases e
def sRet (m : ME) : MS := fun ev S => bnd (m ev S) fun d S1 => some (.rt d, S1)
theorem snd_ret {t : TE} {m : ME} (h : Snd G t m) : SndS G (tRet t) (sRet m) := by
  intro σ H ρ Z ev S o S' D w r e q
  obtain ⟨d, S1, e1, e⟩ := bnd_eq e
  cases e
  exact h σ H ρ Z ev S d S' _ w r e1 fun v H1 ρ1 w1 s1 r1 => q v H1 ρ1 w1 s1 r1
def sRetN : MS := fun _ S => some (.rt .non, S)
theorem snd_retN : SndS G tRetN sRetN := by
  intro σ H ρ Z ev S o S' D w r e q
  cases e
  exact q _ H ρ w .refl .non
def sDrop (m : ME) : MS := fun ev S => bnd (m ev S) fun _ S1 => some (.nx ev, S1)
theorem snd_drop {t : TE} {m : ME} (h : Snd G t m) : SndS G (tDrop t) (sDrop m) := by
  intro σ H ρ Z ev S o S' D w r e q
  obtain ⟨d, S1, e1, e⟩ := bnd_eq e
  cases e
  exact h σ H ρ Z ev S d S' _ w r e1 fun v H1 ρ1 w1 s1 r1 => q σ H1 ρ1 w1 s1 (r.stp s1)
def sIf (c : MT) (a b : MS) : MS := fun ev S => bnd (c ev S) fun k S1 => if k then a ev S1 else b ev S1
theorem snd_ifS {c : TT} {t u : TS} {mc : MT} {a b : MS} (hc : SndT G c mc) (ha : SndS G t a) (hb : SndS G u b) : SndS G (tIfS c t u) (sIf mc a b) := by
  intro σ H ρ Z ev S o S' D w r e q
  obtain ⟨k, S1, e1, e⟩ := bnd_eq e
  refine hc σ H ρ Z ev S k S1 _ w r e1 fun H1 ρ1 w1 s1 => ?_
  cases k with
  | true => exact ha σ H1 ρ1 Z ev S1 o S' D w1 (r.stp s1) e (q.of s1)
  | false => exact hb σ H1 ρ1 Z ev S1 o S' D w1 (r.stp s1) e (q.of s1)
/-- what is not reached -/
def sNever : MS := fun _ _ => none
theorem snd_never : SndS G tNever sNever := by
  intro σ H ρ Z ev S o S' D w r e q
  cases e
theorem snd_bk : SndS G tBreak fun ev S => some (.bk ev, S) := by
  intro σ H ρ Z ev S o S' D w r e q
  cases e
  exact q σ H ρ w .refl r
theorem snd_ct : SndS G tCont fun ev S => some (.ct ev, S) := by
  intro σ H ρ Z ev S o S' D w r e q
  cases e
  exact q σ H ρ w .refl r
/-- xs[i] = e, of a list that changes -/
def sPut (m mo mi : ME) : MS := fun ev S => bnd (m ev S) fun d S1 => bnd (mo ev S1) fun o S2 => bnd (mi ev S2) fun i S3 => match o, i with
  | .mut l, .int k => match S3[l]? with
    | some (.lst ds) => match ixN ds.length k with
      | some j => some (.nx ev, S3.set l (.lst (ds.set j d)))
      | none => none
    | _ => none
  | _, _ => none
theorem snd_put {t to ti : TE} {m mo mi : ME} (h : Snd G t m) (ho : Snd G to mo) (hi : Snd G ti mi) : SndS G (tAsg t (gSub to ti rSetL)) (sPut m mo mi) := by
  intro σ H ρ Z ev S o S' D w r e q
  obtain ⟨d, S1, e1, e⟩ := bnd_eq e
  obtain ⟨od, S2, e2, e⟩ := bnd_eq e
  obtain ⟨i, S3, e3, e⟩ := bnd_eq e
  cases od <;> try (cases e; done)
  rename_i l
  cases i <;> try (cases e; done)
  rename_i k
  simp only at e
  split at e
  case h_2 => cases e
  rename_i ds e4
  split at e
  case h_2 => cases e
  rename_i j e5
  cases e
  refine h σ H ρ Z ev S d S1 _ w r e1 fun v H1 ρ1 w1 s1 r1 => ?_
  refine ho σ H1 ρ1 Z ev S1 _ S2 _ w1 (r.stp s1) e2 fun vo H2 ρ2 w2 s2 r2 => ?_
  refine hi σ H2 ρ2 Z ev S2 _ S3 _ w2 (r.stp (s1.trans s2)) e3 fun vi H3 ρ3 w3 s3 r3 => ?_
  have r2' := s3.rep r2
  cases r3
  cases r2'
  rename_i a ha
  obtain ⟨vs, h1, h2⟩ := cellL w3 ha e4
  obtain ⟨w4, s4⟩ := w3.set (o := .lst (vs.set j v)) (m := .lst (ds.set j d)) ha (h2.set j ((s2.trans s3).rep r1))
  exact ⟨a, vs, k, j, rfl, rfl, h1, by rw [h2.length]; exact e5, q σ _ ρ3 w4 (((s1.trans s2).trans s3).trans s4) (r.stp (((s1.trans s2).trans s3).trans s4))⟩

/-! ### for -/
def forGo (g : MG) (b : MS) : List Dv → Ev → Sto → Option (Out × Sto)
  | [], ev, S => some (.nx ev, S)
  | x :: xs, ev, S => match g x ev with
    | some ev1 => bnd (b ev1 S) fun o S1 => match o with
      | .nx ev2 => forGo g b xs ev2 S1
      | .ct ev2 => forGo g b xs ev2 S1
      | .bk ev2 => some (.nx ev2, S1)
      | .rt d => some (.rt d, S1)
    | none => none
def sFor (mi : MA) (g : MG) (b : MS) : MS := fun ev S => bnd (mi ev S) fun items S1 => forGo g b items ev S1
theorem snd_for {vs : List Nat} {wi : TI} {g : TG} {tb : TS} {mi : MA} {mg : MG} {b : MS} (hi : SndI G wi mi) (hg : SndG G g mg vs) (hb : SndS G tb b) : SndS G (tFor wi g tb) (sFor mi mg b) := by
  intro σ H ρ Z ev S o S' D w r e q
  obtain ⟨items, S1, e1, e⟩ := bnd_eq e
  refine hi σ H ρ Z ev S items S1 _ w r e1 fun J Gd Y H1 ρ1 w1 s1 wk gd gv => ?_
  have q := q.of s1
  refine for_it wk (fun i σ2 H2 => (∃ (ρ2 : List Addr) (S2 : Sto) (ev2 : Ev), Wo G H2 ρ2 Z S2 ∧ Stp H1 ρ1 Z H2 ρ2 ∧ EvR G (hid H2 (ρ2 ++ Z.z)) ρ2 σ2 ev2 ∧ forGo mg b (items.drop i) ev2 S2 = some (o, S'))) ?_ ?_ ?_ ?_
  · exact ⟨ρ1, S1, ev, w1, .refl, r.stp s1, e⟩
  · rintro i σ2 H2 hi2 ⟨ρ2, S2, ev2, w2, s2, r2, go⟩
    exact gd H2 s2.same.hid fun p m => (w2.nofz.1 p m).1
  · rintro i x σ2 H2 H3 hi2 ⟨ρ2, S2, ev2, w2, s2, r2, go⟩ y
    obtain ⟨it, hit⟩ : ∃ it, items[i]? = some it := ⟨items[i], List.getElem?_eq_getElem hi2⟩
    obtain ⟨gr, rx⟩ := gv i H2 ρ2 Z S2 x H3 it w2 s2.same s2.at hit y
    obtain ⟨w3, s3⟩ := w2.grow gr
    rw [drop_cons hit] at go
    simp only [forGo] at go
    split at go
    case h_2 => cases go
    rename_i ev3 eg
    obtain ⟨o1, S4, e4, go⟩ := bnd_eq go
    refine hg σ2 H3 ρ2 Z ev2 ev3 x it _ (r2.stp s3) rx eg fun σ3 r3 _ => ?_
    refine hb σ3 H3 ρ2 Z ev3 S2 o1 S4 _ w3 r3 e4 ?_
    cases o1 with
    | nx ev4 => exact fun σ4 H4 ρ4 w4 s4 r4 => ⟨ρ4, S4, ev4, w4, (s2.trans s3).trans s4, r4, go⟩
    | ct ev4 => exact fun σ4 H4 ρ4 w4 s4 r4 => ⟨ρ4, S4, ev4, w4, (s2.trans s3).trans s4, r4, go⟩
    | bk ev4 => cases go; exact fun σ4 H4 ρ4 w4 s4 r4 => q σ4 H4 ρ4 w4 ((s2.trans s3).trans s4) r4
    | rt d => cases go; exact fun v H4 ρ4 w4 s4 r4 => q v H4 ρ4 w4 ((s2.trans s3).trans s4) r4
  · rintro σ2 H2 ⟨ρ2, S2, ev2, w2, s2, r2, go⟩
    rw [List.drop_length] at go
    simp only [forGo] at go
    cases go
    exact q σ2 H2 ρ2 w2 s2 r2
/-- while: at most so many turns -/
def whGo (c : MT) (b : MS) : Nat → Ev → Sto → Option (Out × Sto)
  | 0, _, _ => none
  | n + 1, ev, S => bnd (c ev S) fun k S1 => if k then bnd (b ev S1) fun o S2 => match o with
      | .nx ev2 => whGo c b n ev2 S2
      | .ct ev2 => whGo c b n ev2 S2
      | .bk ev2 => some (.nx ev2, S2)
      | .rt d => some (.rt d, S2)
    else some (.nx ev, S1)
theorem snd_while {n : Nat} {c : TT} {tb : TS} {mc : MT} {b : MS} (hc : SndT G c mc) (hb : SndS G tb b) : SndS G (tWhile c tb) (whGo mc b n) := by
  intro σ H ρ Z ev S o S' D w r e q
  refine ⟨fun m σ2 H2 => ∃ (ρ2 : List Addr) (S2 : Sto) (ev2 : Ev), Wo G H2 ρ2 Z S2 ∧ Stp H ρ Z H2 ρ2 ∧ EvR G (hid H2 (ρ2 ++ Z.z)) ρ2 σ2 ev2 ∧ whGo mc b m ev2 S2 = some (o, S'), ⟨n, ρ, S, ev, w, .refl, r, e⟩, ?_⟩
  rintro m σ2 H2 ⟨ρ2, S2, ev2, w2, s2, r2, go⟩
  cases m with
  | zero => cases go
  | succ m =>
    simp only [whGo] at go
    obtain ⟨k, S3, e3, go⟩ := bnd_eq go
    refine hc σ2 H2 ρ2 Z ev2 S2 k S3 _ w2 r2 e3 fun H3 ρ3 w3 s3 => ?_
    cases k with
    | false =>
      rw [if_neg Bool.false_ne_true] at go ⊢
      cases go
      exact q σ2 H3 ρ3 w3 (s2.trans s3) (r2.stp s3)
    | true =>
      rw [if_pos rfl] at go ⊢
      obtain ⟨o1, S4, e4, go⟩ := bnd_eq go
      refine ⟨fun σ4 H4 => ∃ (ρ4 : List Addr) (S4 : Sto) (ev4 : Ev), Wo G H4 ρ4 Z S4 ∧ Stp H ρ Z H4 ρ4 ∧ EvR G (hid H4 (ρ4 ++ Z.z)) ρ4 σ4 ev4 ∧ whGo mc b m ev4 S4 = some (o, S'), fun σ' H' h => ⟨m, Nat.lt_succ_self m, h⟩, ?_⟩
      refine hb σ2 H3 ρ3 Z ev2 S3 o1 S4 _ w3 (r2.stp s3) e4 ?_
      cases o1 with
      | nx ev4 => exact fun σ4 H4 ρ4 w4 s4 r4 => ⟨ρ4, S4, ev4, w4, (s2.trans s3).trans s4, r4, go⟩
      | ct ev4 => exact fun σ4 H4 ρ4 w4 s4 r4 => ⟨ρ4, S4, ev4, w4, (s2.trans s3).trans s4, r4, go⟩
      | bk ev4 => cases go; exact fun σ4 H4 ρ4 w4 s4 r4 => q σ4 H4 ρ4 w4 ((s2.trans s3).trans s4) r4
      | rt d => cases go; exact fun v H4 ρ4 w4 s4 r4 => q v H4 ρ4 w4 ((s2.trans s3).trans s4) r4

/-! ### defs -/
mutual
/-- no cell of the store is in it -/
def clean : Dv → Bool
  | .mut _ => false
  | .tup ds => cleanL ds
  | .tupN ds => cleanL ds
  | .lst ds => cleanL ds
  | .scr ds => cleanL ds
  | .dic ds => cleanK ds
  | .obj _ fs => cleanF fs
  | _ => true
def cleanL : List Dv → Bool
  | [] => true
  | d :: ds => clean d && cleanL ds
def cleanK : List (Key × Dv) → Bool
  | [] => true
  | d :: ds => clean d.2 && cleanK ds
def cleanF : List (Str × Dv) → Bool
  | [] => true
  | d :: ds => clean d.2 && cleanF ds
end
theorem cleanK_map : ∀ ds : List (Key × Dv), cleanK ds = cleanL (ds.map (·.2))
  | [] => by simp [cleanK, cleanL]
  | d :: ds => by simp [cleanK, cleanL, cleanK_map ds]
theorem cleanF_map : ∀ ds : List (Str × Dv), cleanF ds = cleanL (ds.map (·.2))
  | [] => by simp [cleanF, cleanL]
  | d :: ds => by simp [cleanF, cleanL, cleanF_map ds]
mutual
theorem Rep.clean {h h' : Hp} {ρ ρ' : List Addr} (s : Sm h h') : ∀ {v : V} {d : Dv}, Rep G h ρ v d → clean d = true → Rep G h' ρ' v d
  | _, _, .non, _ => .non
  | _, _, .bl b, _ => .bl b
  | _, _, .int i, _ => .int i
  | _, _, .str z, _ => .str z
  | _, _, .ty n, _ => .ty n
  | _, _, .adr a, _ => .adr a
  | _, _, .cls m, _ => .cls m
  | _, _, .tup e r, c => .tup (s.sqt e) (RepL.clean s r (by simpa [Mi.clean] using c))
  | _, _, .tupN e n r, c => .tupN (s.frzT e) n (RepL.clean s r (by simpa [Mi.clean] using c))
  | _, _, .lst e r, c => .lst (s.lst e) (RepL.clean s r (by simpa [Mi.clean] using c))
  | _, _, .scr e r, c => .scr (s.sql e) (RepL.clean s r (by simpa [Mi.clean] using c))
  | _, _, .dic e k r, c => .dic (s.rd e) k (RepL.clean s r (by simpa [Mi.clean, cleanK_map] using c))
  | _, _, .obj m e k r, c => .obj m (s.ins e) k (RepL.clean s r (by simpa [Mi.clean, cleanF_map] using c))
  | _, _, .mut e, c => by simp [Mi.clean] at c
theorem RepL.clean {h h' : Hp} {ρ ρ' : List Addr} (s : Sm h h') : ∀ {vs : List V} {ds : List Dv}, RepL G h ρ vs ds → cleanL ds = true → RepL G h' ρ' vs ds
  | _, _, .nil, _ => .nil
  | _, _, .cons a r, c => by
    rw [cleanL, Bool.and_eq_true] at c
    exact .cons (Rep.clean s a c.1) (RepL.clean s r c.2)
end
/-- a value behind a def: what is new in the store is laid into it -/
def frz (n : Nat) (S : Sto) (d : Dv) : Option Dv := match d with
  | .mut l => if l < n then some (.mut l) else match S[l]? with
    | some (.lst ds) => if cleanL ds then some (.lst ds) else none
    | some (.dic ds) => if cleanK ds then some (.dic ds) else none
    | some (.ins c fs) => if cleanF fs then some (.obj c fs) else none
    | _ => none
  | d => if clean d then some d else none
def okMo : Mo → Bool
  | .lst ds => cleanL ds
  | .dic ds => cleanK ds
  | .ins _ fs => cleanF fs
  | .set _ => true
def fin (n : Nat) (S : Sto) (d : Dv) : Option (Dv × Sto) := if (S.take n).all okMo then (match frz n S d with
  | some d' => some (d', S.take n)
  | none => none) else none
def mDef (k : Nat) (m : MS) : MF := fun ds S => match m (ds.map some ++ List.replicate k none) S with
  | some (.nx _, S1) => fin S.length S1 .non
  | some (.rt d, S1) => fin S.length S1 d
  | _ => none
theorem Wo.cut {H1 : Hp} {ρ1 : List Addr} {S1 : Sto} (w : Wo G H1 ρ1 Z S1) (n : Nat) (ok : (S1.take n).all okMo = true) : Wo G H1 (ρ1.take n) Z (S1.take n) ∧ Sm (hid H1 (ρ1 ++ Z.z)) (hid H1 (ρ1.take n ++ Z.z)) := by
  have sub : ∀ a, a ∈ ρ1.take n ++ Z.z → a ∈ ρ1 ++ Z.z := fun a m => by
    rcases List.mem_append.mp m with m | m
    · exact List.mem_append.mpr (.inl (List.mem_of_mem_take m))
    · exact List.mem_append.mpr (.inr m)
  have sm : Sm (hid H1 (ρ1 ++ Z.z)) (hid H1 (ρ1.take n ++ Z.z)) := .of <| hid_mono (Same.refl _) fun a m1 m2 => absurd (sub a m1) m2
  refine ⟨⟨by rw [List.length_take, List.length_take, w.len], ?_, fun l m e => ?_, w.zin, w.nofz.grow (Grow.refl _) fun a m => .inl (sub a m)⟩, sm⟩
  · have nd := List.nodup_append.mp w.nd
    exact List.nodup_append.mpr ⟨List.Nodup.sublist (List.take_sublist _ _) nd.1, nd.2.1, fun a ha b hb => nd.2.2 a (List.mem_of_mem_take ha) b hb⟩
  · have om : okMo m = true := List.all_eq_true.mp ok m (List.mem_of_getElem? e)
    have lt : l < n := by
      have := (List.getElem?_eq_some_iff.mp e).1
      rw [List.length_take] at this
      omega
    rw [List.getElem?_take_of_lt lt] at e
    obtain ⟨a, ho, h1, h2, h3⟩ := w.cell l m e
    refine ⟨a, ho, by rw [List.getElem?_take_of_lt lt]; exact h1, h2, ?_⟩
    cases m <;> cases ho <;> first
      | exact h3.elim
      | exact (show _ ∧ ∃ _, HO.ext _ = _ from h3)
      | exact RepL.clean sm h3 om
      | exact ⟨h3.1, RepL.clean sm h3.2 (by rw [← cleanK_map]; exact om)⟩
      | exact ⟨h3.1, h3.2.1, RepL.clean sm h3.2.2 (by rw [← cleanF_map]; exact om)⟩
theorem cellI (w : Wo G H ρ Z S) {l : Nat} {a : Addr} {c : Str} {fs : List (Str × Dv)} (ea : ρ[l]? = some a) (e : S[l]? = some (.ins c fs)) : ∃ C dx fv, G.mg c = some (.ref C) ∧ H a = some (.ins C dx fv) ∧ fv.map (·.1) = fs.map (·.1) ∧ RepL G (hid H (ρ ++ Z.z)) ρ (fv.map (·.2)) (fs.map (·.2)) := by
  obtain ⟨b, ho, h1, h2, h3⟩ := w.cell l _ e
  rw [ea] at h1
  cases h1
  cases ho <;> first | exact h3.elim | exact ⟨_, _, _, h3.1, h2, h3.2.1, h3.2.2⟩
theorem fin_ok {H1 : Hp} {ρ1 : List Addr} {S1 S' : Sto} {n : Nat} {d d' : Dv} {v : V} (w : Wo G H1 ρ1 Z S1) (r : Rep G (hid H1 (ρ1 ++ Z.z)) ρ1 v d) (e : fin n S1 d = some (d', S')) :
    Wo G H1 (ρ1.take n) Z S' ∧ Sm (hid H1 (ρ1 ++ Z.z)) (hid H1 (ρ1.take n ++ Z.z)) ∧ Rep G (hid H1 (ρ1.take n ++ Z.z)) (ρ1.take n) v d' := by
  unfold fin at e
  split at e
  case isFalse => cases e
  rename_i ok
  split at e
  case h_2 => cases e
  rename_i d2 ef
  cases e
  obtain ⟨w2, sm⟩ := w.cut n ok
  refine ⟨w2, sm, ?_⟩
  have gen : (if clean d then some d else none) = some d' → Rep G (hid H1 (ρ1.take n ++ Z.z)) (ρ1.take n) v d' := fun e => by
    split at e
    · rename_i c
      cases e
      exact r.clean sm c
    · cases e
  cases d
  case «mut» l =>
    cases r
    rename_i a ha
    simp only [frz] at ef
    split at ef
    · rename_i lt
      cases ef
      exact .mut (by rw [List.getElem?_take_of_lt lt]; exact ha)
    · rename_i ge
      have na : a ∉ ρ1.take n ++ Z.z := fun m => by
        have nd := List.nodup_append.mp w.nd
        rcases List.mem_append.mp m with m | m
        · obtain ⟨k, hk⟩ := List.mem_iff_getElem?.mp m
          have lk : k < n := by
            have := (List.getElem?_eq_some_iff.mp hk).1
            rw [List.length_take] at this
            omega
          rw [List.getElem?_take_of_lt lk] at hk
          obtain ⟨b1, c1⟩ := List.getElem?_eq_some_iff.mp ha
          obtain ⟨b2, c2⟩ := List.getElem?_eq_some_iff.mp hk
          exact List.pairwise_iff_getElem.mp nd.1 k l b2 b1 (by omega) (c2.trans c1.symm)
        · exact nd.2.2 a (List.mem_of_getElem? ha) a m rfl
      split at ef
      · rename_i ds e2
        split at ef
        · rename_i c
          cases ef
          obtain ⟨vs, h1, h2⟩ := cellL w ha e2
          exact .lst (hid_of na h1) (h2.clean sm c)
        · cases ef
      · rename_i ds e2
        split at ef
        · rename_i c
          cases ef
          obtain ⟨kvs, h1, h2, h3⟩ := cellD w ha e2
          exact .dic (.inl (hid_of na h1)) h2 (h3.clean sm (by rw [← cleanK_map]; exact c))
        · cases ef
      · rename_i c0 fs e2
        split at ef
        · rename_i c
          cases ef
          obtain ⟨C, dx, fv, h0, h1, h2, h3⟩ := cellI w ha e2
          exact .obj h0 (hid_of na h1) h2 (h3.clean sm (by rw [← cleanF_map]; exact c))
        · cases ef
      · cases ef
  all_goals exact gen ef
/-- the promise of a def by its function -/
def spM (G : Gc) (n : Nat) (F : MF) : Sp := fun vs H Q _ => vs.length = n ∧ ∃ (ρ : List Addr) (Z : Fm) (S : Sto) (ds : List Dv) (d : Dv) (S' : Sto), Wo G H ρ Z S ∧ RepL G (hid H (ρ ++ Z.z)) ρ vs ds ∧ F ds S = some (d, S') ∧
  ∀ v H' ρ', Wo G H' ρ' Z S' → Stp H ρ Z H' ρ' → Rep G (hid H' (ρ' ++ Z.z)) ρ' v d → Q v H'
theorem start_ev {N : List Str} {vs : List V} {ds : List Dv} {h : Hp} {ρ : List Addr} {k : Nat} (r : RepL G h ρ vs ds) (hk : N.length - vs.length = k) : EvR G h ρ (L2.start N vs) (ds.map some ++ List.replicate k none) := by
  refine ⟨by simp [L2.start, ← hk, r.length], fun i d e => ?_⟩
  by_cases lt : i < ds.length
  · rw [List.getElem?_append_left (by rw [List.length_map]; exact lt), List.getElem?_map] at e
    cases e1 : ds[i]? with
    | none => rw [e1] at e; cases e
    | some d1 =>
      rw [e1] at e
      cases e
      obtain ⟨v, h1, h2⟩ := r.at e1
      refine ⟨v, ?_, h2⟩
      unfold L2.start
      rw [List.getElem?_append_left (by rw [List.length_map, r.length]; exact lt), List.getElem?_map, h1]
      rfl
  · rw [List.getElem?_append_right (by rw [List.length_map]; omega)] at e
    obtain ⟨h1, h2⟩ := List.getElem?_eq_some_iff.mp e
    rw [List.getElem_replicate] at h2
    cases h2
/-- the body of a def keeps the def's promise -/
theorem body_ok {N : List Str} {vs : List V} {n k : Nat} {t : TS} {m : MS} {H : Hp} {Q : VK} {E : XK} (hk : N.length - n = k) (h : SndS G t m) (p : spM G n (mDef k m) vs H Q E) : t { nx := fun _ H' => Q .non H', rt := Q } (L2.start N vs) H := by
  obtain ⟨hn, ρ, Z, S, ds, d, S', w, r, e, q⟩ := p
  unfold mDef at e
  have ev := start_ev (N := N) (k := k) r (by rw [hn]; exact hk)
  have back : ∀ {v : V} {d1 : Dv} {S1 : Sto} {H1 : Hp} {ρ1 : List Addr}, Wo G H1 ρ1 Z S1 → Stp H ρ Z H1 ρ1 → Rep G (hid H1 (ρ1 ++ Z.z)) ρ1 v d1 → fin S.length S1 d1 = some (d, S') → Q v H1 := fun {v d1 S1 H1 ρ1} w1 s1 r1 ef => by
    obtain ⟨w2, sm, r2⟩ := fin_ok w1 r1 ef
    refine q v H1 _ w2 ⟨⟨[], ?_⟩, s1.same.trans sm, s1.zk⟩ r2
    obtain ⟨x, ex⟩ := s1.pre
    rw [ex, ← w.len, List.take_left', List.append_nil]
    rfl
  split at e
  · rename_i ev1 S1 e1
    exact h _ H ρ Z _ S _ S1 _ w ev e1 fun σ1 H1 ρ1 w1 s1 r1 => back w1 s1 .non e
  · rename_i d1 S1 e1
    exact h _ H ρ Z _ S _ S1 _ w ev e1 fun v H1 ρ1 w1 s1 r1 => back w1 s1 r1 e
  · cases e
def mCall (F : MF) (m : MA) : ME := fun ev S => bnd (m ev S) fun ds S1 => F ds S1
theorem snd_call {n : Nat} {F : MF} {t : TA} {m : MA} (hn : ∀ ev S ds S1, m ev S = some (ds, S1) → ds.length = n) (h : SndA G t m) : Snd G (tCall (spM G n F) [] E0 t) (mCall F m) := by
  intro σ H ρ Z ev S d S' Q w r e q
  obtain ⟨ds, S1, e1, e⟩ := bnd_eq e
  refine h σ H ρ Z ev S ds S1 _ w r e1 fun vs H1 ρ1 w1 s1 r1 => ?_
  rw [List.append_nil]
  exact ⟨by rw [r1.length]; exact hn ev S ds S1 e1, ρ1, Z, S1, ds, d, S', w1, r1, e, fun v H2 ρ2 w2 s2 r2 => q v H2 ρ2 w2 (s1.trans s2) r2⟩
theorem len_nil : ∀ ev S ds S1, maNil ev S = some (ds, S1) → ds.length = 0 := fun ev S ds S1 e => by cases e; rfl
theorem len_cons {m : ME} {r : MA} {n : Nat} (h : ∀ ev S ds S1, r ev S = some (ds, S1) → ds.length = n) : ∀ ev S ds S1, maCons m r ev S = some (ds, S1) → ds.length = n + 1 := fun ev S ds S1 e => by
  obtain ⟨d, S2, e1, e⟩ := bnd_eq e
  obtain ⟨es, S3, e2, e⟩ := bnd_eq e
  cases e
  rw [List.length_cons, h _ _ _ _ e2]
end
end Mi

set_option Elab.async false
set_option linter.all false
set_option maxRecDepth 100000
set_option maxHeartbeats 4000000
/-! Functions beside the readings: subscripts, slices, methods of lists and texts, dicts. -/
namespace Mi
open PySem PySem.Spec PyProof.Rows L2 Sw
section
variable {G : Gc} {H H' : Hp} {ρ ρ' : List Addr} {Z : Fm} {S : Sto}

/-! ### subscripts -/
def signsD (z : Str) : List Dv := (chars z).map .str
def fIx : FOp := fun S a b => match b with
  | .int i => match a with
    | .str z => if z.length ≤ sizeLine then (match atI z.cps.toList i with
      | some c => some (.str ⟨#[c]⟩)
      | none => none) else none
    | a => match asQ S a with
      | some ds => atI ds i
      | none => none
  | _ => none
theorem ix_U {X : Cx} (K : PySem.W.Frag) (hK : X.K = K) : IxR X (rIx K) := by subst hK; exact ix_seq
theorem atI_rep {h : Hp} {vs : List V} {ds : List Dv} {i : Int} {d : Dv} (r : RepL G h ρ vs ds) (e : atI ds i = some d) : ∃ v, atI vs i = some v ∧ Rep G h ρ v d := by
  unfold atI at e ⊢
  rw [r.length]
  cases e1 : ixN ds.length i with
  | none => rw [e1] at e; cases e
  | some j =>
    rw [e1] at e
    obtain ⟨v, h1, h2⟩ := r.at (i := j) e
    exact ⟨v, h1, h2⟩
theorem snd_ix : SndOp G (rIx G.K) fIx := by
  intro x y a b c H ρ Z S Q w rx ry e q
  cases b <;> simp only [fIx] at e <;> try (cases e; done)
  rename_i i
  cases ry
  have gen : (match asQ S a with | some ds => atI ds i | none => none) = some c → rIx G.K x (.int i) H Q := by
    intro e
    cases e1 : asQ S a with
    | none => rw [e1] at e; cases e
    | some ds =>
      rw [e1] at e
      obtain ⟨p, vs, rfl, h1, h2⟩ := asQ_ok w rx e1
      obtain ⟨v, h3, h4⟩ := atI_rep h2 e
      rcases h1 with h1 | h1
      · exact .inl ⟨p, vs, i, v, rfl, rfl, h1, h3, q v H (.refl _) h4⟩
      · exact .inr (.inl ⟨p, vs, i, v, rfl, rfl, h1, h3, q v H (.refl _) h4⟩)
  cases a <;> try exact gen e
  rename_i z
  cases rx
  simp only at e
  split at e
  · rename_i hz
    split at e
    · rename_i k ek
      cases e
      exact .inr (.inr ⟨z, i, k, rfl, rfl, hz, ek, q _ H (.refl _) (.str _)⟩)
    · cases e
  · cases e
/-! ### slices -/
abbrev MO := Ev → Sto → Option (Option Int × Sto)
def SndO (G : Gc) (t : TO) (m : MO) : Prop := ∀ (σ : L2.St) (H : Hp) (ρ : List Addr) (Z : Fm) (ev : Ev) (S : Sto) (o : Option Int) (S' : Sto) (Q : Option Int → Hp → Prop), Wo G H ρ Z S → EvR G (hid H (ρ ++ Z.z)) ρ σ ev → m ev S = some (o, S') →
  (∀ H' ρ', Wo G H' ρ' Z S' → Stp H ρ Z H' ρ' → Q o H') → t σ H Q
def moNo : MO := fun _ S => some (none, S)
def moInt (m : ME) : MO := fun ev S => bnd (m ev S) fun d S1 => match d with
  | .int i => some (some i, S1)
  | _ => none
theorem snd_moNo : SndO G tNoPart moNo := by
  intro σ H ρ Z ev S o S' Q w r e q
  cases e
  exact q H ρ w .refl
theorem snd_moInt {t : TE} {m : ME} (h : Snd G t m) : SndO G (tPart t) (moInt m) := by
  intro σ H ρ Z ev S o S' Q w r e q
  obtain ⟨d, S1, e1, e⟩ := bnd_eq e
  cases d <;> try (cases e; done)
  cases e
  refine h σ H ρ Z ev S _ S' _ w r e1 fun v H1 ρ1 w1 s1 r1 => ?_
  cases r1
  exact ⟨_, rfl, q H1 ρ1 w1 s1⟩
def cutD (ds : List Dv) (lo hi : Option Int) : List Dv := (ds.drop (HT.sIx ds.length 0 lo)).take (HT.sIx ds.length ds.length hi - HT.sIx ds.length 0 lo)
theorem cut_rep {h : Hp} {vs : List V} {ds : List Dv} {lo hi : Option Int} (r : RepL G h ρ vs ds) : RepL G h ρ (cutV vs lo hi) (cutD ds lo hi) := by
  unfold cutV cutD
  rw [r.length]
  exact (r.drop _).take _
/-- a list, to be read -/
def asS (S : Sto) : Dv → Option (List Dv)
  | .scr ds => some ds
  | d => asL S d
theorem asS_ok (w : Wo G H ρ Z S) {v : V} {d : Dv} {ds : List Dv} (r : Rep G (hid H (ρ ++ Z.z)) ρ v d) (e : asS S d = some ds) : ∃ a vs, v = .ref a ∧ SqL G.K H a vs ∧ RepL G (hid H (ρ ++ Z.z)) ρ vs ds := by
  have gen : asL S d = some ds → ∃ a vs, v = .ref a ∧ SqL G.K H a vs ∧ RepL G (hid H (ρ ++ Z.z)) ρ vs ds := fun e => by
    obtain ⟨a, vs, h1, h2, h3⟩ := asL_ok w r e
    exact ⟨a, vs, h1, .inl (.inl h2), h3⟩
  cases d <;> try exact gen e
  cases r
  rename_i ds a vs h1 h2
  cases e
  exact ⟨a, vs, rfl, Same.seq hid_le h1, h2⟩
def fSl (S : Sto) (a : Dv) (lo hi : Option Int) : Option Dv := match a with
  | .str z => if z.length ≤ sizeLine then some (.str (cutS z lo hi)) else none
  | .tup ds => if HT.sIx ds.length 0 lo = 0 ∧ HT.sIx ds.length ds.length hi = ds.length then none else some (.tup (cutD ds lo hi))
  | a => match asS S a with
    | some ds => some (.lst (cutD ds lo hi))
    | none => none
def rSlU (K : PySem.W.Frag) : V → Option Int → Option Int → Hp → VK → Prop := fun x lo hi H Q => rSlS x lo hi H Q ∨ (fun x lo hi H Q => rSlT K x lo hi H Q ∨ rSlL K x lo hi H Q) x lo hi H Q
theorem sl_U {X : Cx} (K : PySem.W.Frag) (hK : X.K = K) : SlR X (rSlU K) := by
  subst hK
  exact SlR.or sl_str (SlR.or sl_tup sl_list)
def mSl (me : ME) (ml mh : MO) : ME := fun ev S => bnd (me ev S) fun a S1 => bnd (ml ev S1) fun lo S2 => bnd (mh ev S2) fun hi S3 => match fSl S3 a lo hi with
  | some c => some (c, S3)
  | none => none
theorem snd_sl {te : TE} {tl th : TO} {me : ME} {ml mh : MO} (h : Snd G te me) (hl : SndO G tl ml) (hh : SndO G th mh) : Snd G (tSl (rSlU G.K) te tl th) (mSl me ml mh) := by
  intro σ H ρ Z ev S d S' Q w r e q
  obtain ⟨a, S1, e1, e⟩ := bnd_eq e
  obtain ⟨lo, S2, e2, e⟩ := bnd_eq e
  obtain ⟨hi, S3, e3, e⟩ := bnd_eq e
  split at e
  case h_2 => cases e
  rename_i c ec
  cases e
  refine h σ H ρ Z ev S a S1 _ w r e1 fun x H1 ρ1 w1 s1 r1 => ?_
  refine hl σ H1 ρ1 Z ev S1 lo S2 _ w1 (r.stp s1) e2 fun H2 ρ2 w2 s2 => ?_
  refine hh σ H2 ρ2 Z ev S2 hi S' _ w2 (r.stp (s1.trans s2)) e3 fun H3 ρ3 w3 s3 => ?_
  have rx := (s2.trans s3).rep r1
  have st := (s1.trans s2).trans s3
  have gen : (match asS S' a with | some ds => some (Dv.lst (cutD ds lo hi)) | none => none) = some d → rSlU G.K x lo hi H3 Q := fun e => by
    cases e1 : asS S' a with
    | none => rw [e1] at e; cases e
    | some ds =>
      rw [e1] at e
      cases e
      obtain ⟨p, vs, rfl, h1, h2⟩ := asS_ok w3 rx e1
      refine .inr (.inr ⟨p, vs, rfl, h1, fun b n => ?_⟩)
      obtain ⟨w4, s4, e4⟩ := w3.new (o := .lst (cutV vs lo hi)) n
      exact q _ _ ρ3 w4 (st.trans s4) (.lst e4 (s4.repL (cut_rep h2)))
  cases a with
  | str z =>
    cases rx
    simp only [fSl] at ec
    split at ec
    · rename_i hz
      cases ec
      exact .inl ⟨z, rfl, hz, q _ H3 ρ3 w3 st (.str _)⟩
    · cases ec
  | tup ds =>
    cases rx
    rename_i p vs h1 h2
    simp only [fSl] at ec
    split at ec
    · cases ec
    · rename_i nw
      cases ec
      refine .inr (.inl ⟨p, vs, rfl, sqt_same hid_le h1, by rw [h2.length]; exact nw, fun b n => ?_⟩)
      obtain ⟨w4, s4, e4⟩ := w3.new (o := .tup (cutV vs lo hi)) n
      exact q _ _ ρ3 w4 (st.trans s4) (.tup (.inl (.inl e4)) (s4.repL (cut_rep h2)))
  | _ => exact gen ec

/-! ### methods of lists that change -/
def isLstAt (S : Sto) (l : Nat) : Bool := match S[l]? with
  | some (.lst _) => true
  | _ => false
theorem isLstAt_ok {l : Nat} (h : isLstAt S l = true) : ∃ ds, S[l]? = some (.lst ds) := by
  unfold isLstAt at h
  split at h
  · rename_i ds e
    exact ⟨ds, e⟩
  · cases h
def mAppend (mo : ME) (m : MA) : ME := fun ev S => bnd (mo ev S) fun o S1 => match o with
  | .mut l => if isLstAt S1 l then bnd (m ev S1) fun ds S2 => match ds with
    | [d] => match S2[l]? with
      | some (.lst es) => if es.length < sizeLine then some (.non, S2.set l (.lst (es ++ [d]))) else none
      | _ => none
    | _ => none
    else none
  | _ => none
theorem snd_append {to : TE} {t : TA} {mo : ME} {m : MA} (ho : Snd G to mo) (h : SndA G t m) : Snd G (tBM G.K "list" rAppend to t) (mAppend mo m) := by
  intro σ H ρ Z ev S d S' Q w r e q
  obtain ⟨o, S1, e1, e⟩ := bnd_eq e
  cases o with
  | «mut» l =>
    simp only at e
    split at e
    case isFalse => cases e
    rename_i il
    obtain ⟨ds, S2, e2, e⟩ := bnd_eq e
    obtain ⟨es0, e0⟩ := isLstAt_ok il
    refine ho σ H ρ Z ev S _ S1 _ w r e1 fun x H1 ρ1 w1 s1 r1 => ?_
    cases r1
    rename_i a ha
    obtain ⟨us0, h50, h60⟩ := cellL w1 ha e0
    refine ⟨.inl ⟨rfl, us0, .inl (.inl h50)⟩, h σ H1 ρ1 Z ev S1 ds S2 _ w1 (r.stp s1) e2 fun vs H2 ρ2 w2 s2 r2 => ?_⟩
    match ds, e, r2 with
    | [y], e, r2 =>
      simp only at e
      split at e
      case h_2 => cases e
      rename_i es e3
      split at e
      case isFalse => cases e
      rename_i hz
      cases e
      obtain ⟨us, h5, h6⟩ := cellL w2 (s2.at _ _ ha) e3
      obtain ⟨v, rfl, rv⟩ := repL1 r2
      obtain ⟨w4, s4⟩ := w2.set (o := .lst (us ++ [v])) (m := .lst (es ++ [y])) (s2.at _ _ ha) (h6.app (.cons rv .nil))
      exact ⟨a, us, v, rfl, rfl, h5, by rw [h6.length]; exact hz, q _ _ ρ2 w4 ((s1.trans s2).trans s4) .non⟩
    | [], e, _ => cases e
    | _ :: _ :: _, e, _ => cases e
  | _ => cases e
def mExtend (mo : ME) (m : MA) : ME := fun ev S => bnd (mo ev S) fun o S1 => match o with
  | .mut l => if isLstAt S1 l then bnd (m ev S1) fun ds S2 => match ds with
    | [d] => match S2[l]?, asL S2 d with
      | some (.lst es), some fs => if es.length + fs.length ≤ sizeLine then some (.non, S2.set l (.lst (es ++ fs))) else none
      | _, _ => none
    | _ => none
    else none
  | _ => none
theorem snd_extend {to : TE} {t : TA} {mo : ME} {m : MA} (ho : Snd G to mo) (h : SndA G t m) : Snd G (tBM G.K "list" rExtend to t) (mExtend mo m) := by
  intro σ H ρ Z ev S d S' Q w r e q
  obtain ⟨o, S1, e1, e⟩ := bnd_eq e
  cases o with
  | «mut» l =>
    simp only at e
    split at e
    case isFalse => cases e
    rename_i il
    obtain ⟨ds, S2, e2, e⟩ := bnd_eq e
    obtain ⟨es0, e0⟩ := isLstAt_ok il
    refine ho σ H ρ Z ev S _ S1 _ w r e1 fun x H1 ρ1 w1 s1 r1 => ?_
    cases r1
    rename_i a ha
    obtain ⟨us0, h50, h60⟩ := cellL w1 ha e0
    refine ⟨.inl ⟨rfl, us0, .inl (.inl h50)⟩, h σ H1 ρ1 Z ev S1 ds S2 _ w1 (r.stp s1) e2 fun vs H2 ρ2 w2 s2 r2 => ?_⟩
    match ds, e, r2 with
    | [y], e, r2 =>
      simp only at e
      split at e
      case h_2 => cases e
      rename_i es fs e3 e4
      split at e
      case isFalse => cases e
      rename_i hz
      cases e
      obtain ⟨us, h5, h6⟩ := cellL w2 (s2.at _ _ ha) e3
      obtain ⟨v, rfl, rv⟩ := repL1 r2
      obtain ⟨b, ws, rfl, h7, h8⟩ := asL_ok w2 rv e4
      obtain ⟨w4, s4⟩ := w2.set (o := .lst (us ++ ws)) (m := .lst (es ++ fs)) (s2.at _ _ ha) (h6.app h8)
      exact ⟨a, b, us, ws, rfl, rfl, h5, h7, by rw [h6.length, h8.length]; exact hz, q _ _ ρ2 w4 ((s1.trans s2).trans s4) .non⟩
    | [], e, _ => cases e
    | _ :: _ :: _, e, _ => cases e
  | _ => cases e

/-! ### texts -/
def asStrs : List Dv → Option (List Str)
  | [] => some []
  | .str z :: ds => match asStrs ds with
    | some zs => some (z :: zs)
    | none => none
  | _ :: _ => none
theorem asStrs_ok {h : Hp} : ∀ {ds : List Dv} {zs : List Str} {vs : List V}, asStrs ds = some zs → RepL G h ρ vs ds → vs = zs.map V.str ∧ ds = zs.map Dv.str
  | [], zs, vs, e, r => by cases e; cases r; exact ⟨rfl, rfl⟩
  | .str z :: ds, zs, vs, e, r => by
    simp only [asStrs] at e
    split at e
    · rename_i ys e1
      cases e
      cases r with
      | cons a r =>
        cases a
        obtain ⟨h1, h2⟩ := asStrs_ok e1 r
        rw [h1, h2]
        exact ⟨rfl, rfl⟩
    · cases e
  | .non :: _, _, _, e, _ => by cases e
  | .bl _ :: _, _, _, e, _ => by cases e
  | .int _ :: _, _, _, e, _ => by cases e
  | .ty _ :: _, _, _, e, _ => by cases e
  | .adr _ :: _, _, _, e, _ => by cases e
  | .cls _ :: _, _, _, e, _ => by cases e
  | .tup _ :: _, _, _, e, _ => by cases e
  | .lst _ :: _, _, _, e, _ => by cases e
  | .scr _ :: _, _, _, e, _ => by cases e
  | .dic _ :: _, _, _, e, _ => by cases e
  | .obj _ _ :: _, _, _, e, _ => by cases e
  | .mut _ :: _, _, _, e, _ => by cases e
theorem asStrs_map : ∀ zs : List Str, asStrs (zs.map Dv.str) = some zs
  | [] => rfl
  | z :: zs => by simp [asStrs, asStrs_map zs]
def mJoin (mo : ME) (m : MA) : ME := fun ev S => bnd (mo ev S) fun o S1 => match o with
  | .str a => bnd (m ev S1) fun ds S2 => match ds with
    | [d] => match asQ S2 d with
      | some es => match asStrs es with
        | some ys => if (ys.map (·.length)).sum + ys.length * a.length ≤ 16777216 then some (.str (Txt.join a ys), S2) else none
        | none => none
      | none => none
    | _ => none
  | _ => none
theorem snd_join {to : TE} {t : TA} {mo : ME} {m : MA} (ho : Snd G to mo) (h : SndA G t m) : Snd G (tBM G.K "str" (rJoinK G.K) to t) (mJoin mo m) := by
  intro σ H ρ Z ev S d S' Q w r e q
  obtain ⟨o, S1, e1, e⟩ := bnd_eq e
  cases o with
  | str a =>
    obtain ⟨ds, S2, e2, e⟩ := bnd_eq e
    refine ho σ H ρ Z ev S _ S1 _ w r e1 fun x H1 ρ1 w1 s1 r1 => ?_
    cases r1
    refine ⟨rfl, h σ H1 ρ1 Z ev S1 ds S2 _ w1 (r.stp s1) e2 fun vs H2 ρ2 w2 s2 r2 => ?_⟩
    match ds, e, r2 with
    | [y], e, r2 =>
      simp only at e
      split at e
      case h_2 => cases e
      rename_i es e3
      split at e
      case h_2 => cases e
      rename_i ys e4
      split at e
      case isFalse => cases e
      rename_i hz
      cases e
      obtain ⟨v, rfl, rv⟩ := repL1 r2
      obtain ⟨p, us, rfl, h5, h6⟩ := asQ_ok w2 rv e3
      obtain ⟨h7, h8⟩ := asStrs_ok e4 h6
      subst h7
      exact ⟨a, p, ys, rfl, rfl, h5, hz, q _ H2 ρ2 w2 (s1.trans s2) (.str _)⟩
    | [], e, _ => cases e
    | _ :: _ :: _, e, _ => cases e
  | _ => cases e
/-! ### sorting, as the kernel reckons it -/
def insS (x : Str) : List Str → List Str
  | [] => [x]
  | y :: ys => if strLe x y then x :: y :: ys else y :: insS x ys
def isortS : List Str → List Str
  | [] => []
  | x :: xs => insS x (isortS xs)
theorem strLe_total : PySem.W.TotalLe strLe := by
  refine ⟨fun a b c h1 h2 => ?_, fun a b => ?_⟩
  · exact decide_eq_true (List.le_trans (of_decide_eq_true h1) (of_decide_eq_true h2))
  · rcases List.le_total a.cps.toList b.cps.toList with h | h
    · exact .inl (decide_eq_true h)
    · exact .inr (decide_eq_true h)
theorem strLe_anti {a b : Str} (h1 : strLe a b = true) (h2 : strLe b a = true) : a = b :=
  PySem.W.str_of_cps (List.le_antisymm (of_decide_eq_true h1) (of_decide_eq_true h2))
theorem insS_perm (x : Str) : ∀ ys, (insS x ys).Perm (x :: ys)
  | [] => .refl _
  | y :: ys => by
    unfold insS
    split
    · exact .refl _
    · exact ((insS_perm x ys).cons y).trans (.swap _ _ _)
theorem insS_sorted (x : Str) : ∀ {ys : List Str}, ys.Pairwise (fun a b => strLe a b = true) → (insS x ys).Pairwise (fun a b => strLe a b = true)
  | [], _ => by simp [insS]
  | y :: ys, h => by
    unfold insS
    have h1 := List.pairwise_cons.mp h
    split
    · rename_i c
      refine List.pairwise_cons.mpr ⟨fun z hz => ?_, h⟩
      rcases List.mem_cons.mp hz with e | e
      · rw [e]; exact c
      · exact strLe_total.trans _ _ _ c (h1.1 z e)
    · rename_i c
      refine List.pairwise_cons.mpr ⟨fun z hz => ?_, insS_sorted x h1.2⟩
      rcases List.mem_cons.mp ((insS_perm x ys).mem_iff.mp hz) with e | e
      · rw [e]
        rcases strLe_total.total x y with t | t
        · exact absurd t c
        · exact t
      · exact h1.1 z e
theorem isortS_perm : ∀ xs, (isortS xs).Perm xs
  | [] => .refl _
  | x :: xs => (insS_perm x _).trans ((isortS_perm xs).cons x)
theorem isortS_sorted : ∀ xs, (isortS xs).Pairwise (fun a b => strLe a b = true)
  | [] => .nil
  | x :: xs => insS_sorted x (isortS_sorted xs)
theorem isortS_eq (xs : List Str) : xs.mergeSort strLe = isortS xs := by
  refine List.Perm.eq_of_pairwise (le := fun a b => strLe a b = true) ?_ (PySem.W.sort_pairwise strLe_total xs) (isortS_sorted xs) ((List.mergeSort_perm xs strLe).trans (isortS_perm xs).symm)
  intro a b _ _ h3 h4
  exact strLe_anti h3 h4
/-- sorted(texts) -/
def fSortS : FC := fun S xs => match xs with
  | [d] => match asS S d with
    | some es => match asStrs es with
      | some zs => some (.lst ((isortS zs).map .str))
      | none => none
    | none => none
  | _ => none
theorem call_sortSK {X : Cx} (K : PySem.W.Frag) (hK : X.K = K) (hu : X.A.units + 64 < cLine) : CallR X (.builtin "sorted") (rSortS K) := by subst hK; exact call_sortS hu
theorem snd_sortS : SndC G (rSortS G.K) fSortS := by
  intro xs ds c H ρ Z S Q w rx e q
  match ds, e, rx with
  | [d], e, rx =>
    simp only [fSortS] at e
    split at e
    case h_2 => cases e
    rename_i es e1
    split at e
    case h_2 => cases e
    rename_i zs e2
    cases e
    obtain ⟨v, rfl, r⟩ := repL1 rx
    obtain ⟨a, vs, rfl, h1, h2⟩ := asS_ok w r e1
    obtain ⟨h3, h4⟩ := asStrs_ok e2 h2
    subst h3
    refine ⟨a, zs, rfl, h1, fun p n => ?_⟩
    rw [isortS_eq] 
    obtain ⟨w4, s4, e4⟩ := w.new (o := .lst ((isortS zs).map V.str)) n
    exact q _ _ (Grow.new n) (.lst e4 (.strs _))
  | [], e, _ => cases e
  | _ :: _ :: _, e, _ => cases e
/-- all(xs), any(xs) -/
def asBls : List Dv → Option (List Bool)
  | [] => some []
  | .bl z :: ds => match asBls ds with
    | some zs => some (z :: zs)
    | none => none
  | _ :: _ => none
theorem asBls_ok {h : Hp} : ∀ {ds : List Dv} {zs : List Bool} {vs : List V}, asBls ds = some zs → RepL G h ρ vs ds → vs = zs.map V.bl ∧ ds = zs.map Dv.bl
  | [], zs, vs, e, r => by cases e; cases r; exact ⟨rfl, rfl⟩
  | .bl z :: ds, zs, vs, e, r => by
    simp only [asBls] at e
    split at e
    · rename_i ys e1
      cases e
      cases r with
      | cons a r =>
        cases a
        obtain ⟨h1, h2⟩ := asBls_ok e1 r
        rw [h1, h2]
        exact ⟨rfl, rfl⟩
    · cases e
  | .non :: _, _, _, e, _ => by cases e
  | .str _ :: _, _, _, e, _ => by cases e
  | .int _ :: _, _, _, e, _ => by cases e
  | .ty _ :: _, _, _, e, _ => by cases e
  | .adr _ :: _, _, _, e, _ => by cases e
  | .cls _ :: _, _, _, e, _ => by cases e
  | .tup _ :: _, _, _, e, _ => by cases e
  | .lst _ :: _, _, _, e, _ => by cases e
  | .scr _ :: _, _, _, e, _ => by cases e
  | .dic _ :: _, _, _, e, _ => by cases e
  | .obj _ _ :: _, _, _, e, _ => by cases e
  | .mut _ :: _, _, _, e, _ => by cases e
theorem asBls_map : ∀ zs : List Bool, asBls (zs.map Dv.bl) = some zs
  | [] => rfl
  | z :: zs => by simp [asBls, asBls_map zs]
def fAll : FC := fun S xs => match xs with
  | [d] => match asS S d with
    | some es => match asBls es with
      | some zs => some (.bl (zs.all id))
      | none => none
    | none => none
  | _ => none
def fAny : FC := fun S xs => match xs with
  | [d] => match asS S d with
    | some es => match asBls es with
      | some zs => some (.bl (zs.any id))
      | none => none
    | none => none
  | _ => none
theorem snd_all : SndC G (rAll G.K) fAll := by
  intro xs ds c H ρ Z S Q w rx e q
  match ds, e, rx with
  | [d], e, rx =>
    simp only [fAll] at e
    split at e
    case h_2 => cases e
    rename_i es e1
    split at e
    case h_2 => cases e
    rename_i zs e2
    cases e
    obtain ⟨v, rfl, r⟩ := repL1 rx
    obtain ⟨a, vs, rfl, h1, h2⟩ := asS_ok w r e1
    obtain ⟨h3, h4⟩ := asBls_ok e2 h2
    subst h3
    exact ⟨a, zs, rfl, h1, q _ H (.refl _) (.bl _)⟩
  | [], e, _ => cases e
  | _ :: _ :: _, e, _ => cases e
theorem snd_any : SndC G (rAny G.K) fAny := by
  intro xs ds c H ρ Z S Q w rx e q
  match ds, e, rx with
  | [d], e, rx =>
    simp only [fAny] at e
    split at e
    case h_2 => cases e
    rename_i es e1
    split at e
    case h_2 => cases e
    rename_i zs e2
    cases e
    obtain ⟨v, rfl, r⟩ := repL1 rx
    obtain ⟨a, vs, rfl, h1, h2⟩ := asS_ok w r e1
    obtain ⟨h3, h4⟩ := asBls_ok e2 h2
    subst h3
    exact ⟨a, zs, rfl, h1, q _ H (.refl _) (.bl _)⟩
  | [], e, _ => cases e
  | _ :: _ :: _, e, _ => cases e

/-! ### dicts -/
def valD (ds : List (Key × Dv)) (k : Key) : Option Dv := (ds.find? fun kv => decide (kv.1 = k)).map (·.2)
def putD (ds : List (Key × Dv)) (k : Key) (v : Dv) : List (Key × Dv) :=
  if (ds.any fun kv => decide (kv.1 = k)) = true then ds.map (fun kv => if kv.1 = k then (kv.1, v) else kv) else ds ++ [(k, v)]
def keyOf : Dv → Option Key
  | .int i => some (.inl i)
  | .str z => some (.inr z)
  | _ => none
theorem keyOf_ok {h : Hp} {v : V} {d : Dv} {k : Key} (r : Rep G h ρ v d) (e : keyOf d = some k) : v = kV k := by
  cases r <;> simp only [keyOf] at e <;> cases e <;> rfl
/-- a dict's pairs and their data -/
def KRep (G : Gc) (h : Hp) (ρ : List Addr) (kvs : List (Key × V)) (ds : List (Key × Dv)) : Prop := kvs.map (·.1) = ds.map (·.1) ∧ RepL G h ρ (kvs.map (·.2)) (ds.map (·.2))
theorem krep_nil {h : Hp} : KRep G h ρ [] [] := ⟨rfl, .nil⟩
theorem krep_cons {h : Hp} {k : Key} {v : V} {d : Dv} {kvs : List (Key × V)} {ds : List (Key × Dv)} (a : Rep G h ρ v d) (r : KRep G h ρ kvs ds) : KRep G h ρ ((k, v) :: kvs) ((k, d) :: ds) :=
  ⟨by simp [r.1], .cons a r.2⟩
theorem krep_inv {h : Hp} {p : Key × V} {q : Key × Dv} {kvs : List (Key × V)} {ds : List (Key × Dv)} (r : KRep G h ρ (p :: kvs) (q :: ds)) : p.1 = q.1 ∧ Rep G h ρ p.2 q.2 ∧ KRep G h ρ kvs ds := by
  obtain ⟨h1, h2⟩ := r
  simp only [List.map_cons, List.cons.injEq] at h1
  cases h2 with
  | cons a r => exact ⟨h1.1, a, h1.2, r⟩
theorem krep_app {h : Hp} {kvs lvs : List (Key × V)} {ds es : List (Key × Dv)} (a : KRep G h ρ kvs ds) (b : KRep G h ρ lvs es) : KRep G h ρ (kvs ++ lvs) (ds ++ es) :=
  ⟨by rw [List.map_append, List.map_append, a.1, b.1], by rw [List.map_append, List.map_append]; exact a.2.app b.2⟩
theorem krep_val {h : Hp} {k : Key} : ∀ {kvs : List (Key × V)} {ds : List (Key × Dv)}, KRep G h ρ kvs ds → (∀ d, valD ds k = some d → ∃ v, valV kvs k = some v ∧ Rep G h ρ v d) ∧ (valV kvs k).isSome = (valD ds k).isSome
  | [], [], _ => ⟨fun d e => (by cases e), rfl⟩
  | [], _ :: _, r => by have := r.1; simp at this
  | _ :: _, [], r => by have := r.1; simp at this
  | p :: kvs, q :: ds, r => by
    obtain ⟨h1, h2, h3⟩ := krep_inv r
    obtain ⟨i1, i2⟩ := krep_val (k := k) h3
    by_cases e : q.1 = k
    · have e2 : p.1 = k := h1.trans e
      refine ⟨fun d ed => ⟨p.2, valV_pos e2, ?_⟩, ?_⟩
      · simp [valD, List.find?_cons, e] at ed
        rw [← ed]
        exact h2
      · rw [valV_pos e2]
        simp [valD, List.find?_cons, e]
    · have e2 : ¬ p.1 = k := fun z => e (h1.symm.trans z)
      have e3 : valD (q :: ds) k = valD ds k := by simp [valD, List.find?_cons, e]
      rw [e3, valV_neg e2]
      exact ⟨i1, i2⟩
theorem krep_any {h : Hp} {k : Key} : ∀ {kvs : List (Key × V)} {ds : List (Key × Dv)}, KRep G h ρ kvs ds → (kvs.any fun kv => decide (kv.1 = k)) = ds.any fun kv => decide (kv.1 = k)
  | [], [], _ => rfl
  | [], _ :: _, r => by have := r.1; simp at this
  | _ :: _, [], r => by have := r.1; simp at this
  | p :: kvs, q :: ds, r => by
    obtain ⟨h1, h2, h3⟩ := krep_inv r
    rw [List.any_cons, List.any_cons, h1, krep_any h3]
theorem krep_map {h : Hp} {k : Key} {v : V} {d : Dv} (a : Rep G h ρ v d) : ∀ {kvs : List (Key × V)} {ds : List (Key × Dv)}, KRep G h ρ kvs ds → KRep G h ρ (kvs.map fun kv => if kv.1 = k then (kv.1, v) else kv) (ds.map fun kv => if kv.1 = k then (kv.1, d) else kv)
  | [], [], _ => krep_nil
  | [], _ :: _, r => by have := r.1; simp at this
  | _ :: _, [], r => by have := r.1; simp at this
  | (k1, v1) :: kvs, (k2, d2) :: ds, r => by
    obtain ⟨h1, h2, h3⟩ := krep_inv r
    simp only at h1
    subst h1
    rw [List.map_cons, List.map_cons]
    by_cases e : k1 = k
    · rw [if_pos e, if_pos e]
      exact krep_cons a (krep_map a h3)
    · rw [if_neg e, if_neg e]
      exact krep_cons h2 (krep_map a h3)
theorem krep_put {h : Hp} {k : Key} {v : V} {d : Dv} {kvs : List (Key × V)} {ds : List (Key × Dv)} (a : Rep G h ρ v d) (r : KRep G h ρ kvs ds) : KRep G h ρ (putK kvs k v) (putD ds k d) := by
  unfold putK putD
  rw [krep_any r]
  split
  · exact krep_map a r
  · exact krep_app r (krep_cons a krep_nil)
theorem krep_len {h : Hp} {kvs : List (Key × V)} {ds : List (Key × Dv)} (r : KRep G h ρ kvs ds) : kvs.length = ds.length := by
  have := congrArg List.length r.1
  simpa using this
theorem krep_mono {h h' : Hp} {ρ ρ' : List Addr} {kvs : List (Key × V)} {ds : List (Key × Dv)} (s : Sm h h') (p : ∀ (l : Nat) (a : Addr), ρ[l]? = some a → ρ'[l]? = some a) (r : KRep G h ρ kvs ds) : KRep G h' ρ' kvs ds := ⟨r.1, r.2.mono s p⟩
/-- d[k] -/
def mDGet (mo mk : ME) : ME := fun ev S => bnd (mo ev S) fun o S1 => bnd (mk ev S1) fun k S2 => match asD S2 o, keyOf k with
  | some ds, some y => match valD ds y with
    | some d => some (d, S2)
    | none => none
  | _, _ => none
theorem snd_dget {td ty : TE} {mo mk : ME} (ho : Snd G td mo) (hk : Snd G ty mk) : Snd G (tDGet td ty) (mDGet mo mk) := by
  intro σ H ρ Z ev S d S' Q w r e q
  obtain ⟨o, S1, e1, e⟩ := bnd_eq e
  obtain ⟨k, S2, e2, e⟩ := bnd_eq e
  split at e
  case h_2 => cases e
  rename_i ds y e3 e4
  split at e
  case h_2 => cases e
  rename_i d2 e5
  cases e
  refine ho σ H ρ Z ev S o S1 _ w r e1 fun x H1 ρ1 w1 s1 r1 => ?_
  refine hk σ H1 ρ1 Z ev S1 k S' _ w1 (r.stp s1) e2 fun u H2 ρ2 w2 s2 r2 => ?_
  obtain ⟨a, kvs, rfl, h1, h2, h3⟩ := asD_ok w2 (s2.rep r1) e3
  obtain ⟨v, h4, h5⟩ := (krep_val (k := y) ⟨h2, h3⟩).1 d e5
  exact ⟨a, v, rfl, .inl ⟨kvs, y, h1, keyOf_ok r2 e4, h4.symm⟩, q v H2 ρ2 w2 (s1.trans s2) h5⟩
def mDIn (neg : Bool) (mk mo : ME) : ME := fun ev S => bnd (mk ev S) fun k S1 => bnd (mo ev S1) fun o S2 => match asD S2 o, keyOf k with
  | some ds, some y => some (.bl (if neg then !(valD ds y).isSome else (valD ds y).isSome), S2)
  | _, _ => none
theorem snd_din {td ty : TE} {mo mk : ME} (hk : Snd G ty mk) (ho : Snd G td mo) : Snd G (tDIn ty td) (mDIn false mk mo) := by
  intro σ H ρ Z ev S d S' Q w r e q
  obtain ⟨k, S1, e1, e⟩ := bnd_eq e
  obtain ⟨o, S2, e2, e⟩ := bnd_eq e
  split at e
  case h_2 => cases e
  rename_i ds y e3 e4
  cases e
  refine hk σ H ρ Z ev S k S1 _ w r e1 fun u H1 ρ1 w1 s1 r1 => ?_
  refine ho σ H1 ρ1 Z ev S1 o S' _ w1 (r.stp s1) e2 fun x H2 ρ2 w2 s2 r2 => ?_
  obtain ⟨a, kvs, rfl, h1, h2, h3⟩ := asD_ok w2 r2 e3
  refine ⟨a, valV kvs y, rfl, .inl ⟨kvs, y, h1, keyOf_ok r1 e4, rfl⟩, ?_⟩
  rw [(krep_val (k := y) ⟨h2, h3⟩).2]
  exact q _ H2 ρ2 w2 (s1.trans s2) (.bl _)
theorem snd_dnotin {td ty : TE} {mo mk : ME} (hk : Snd G ty mk) (ho : Snd G td mo) : Snd G (tDNotIn ty td) (mDIn true mk mo) := by
  intro σ H ρ Z ev S d S' Q w r e q
  obtain ⟨k, S1, e1, e⟩ := bnd_eq e
  obtain ⟨o, S2, e2, e⟩ := bnd_eq e
  split at e
  case h_2 => cases e
  rename_i ds y e3 e4
  cases e
  refine hk σ H ρ Z ev S k S1 _ w r e1 fun u H1 ρ1 w1 s1 r1 => ?_
  refine ho σ H1 ρ1 Z ev S1 o S' _ w1 (r.stp s1) e2 fun x H2 ρ2 w2 s2 r2 => ?_
  obtain ⟨a, kvs, rfl, h1, h2, h3⟩ := asD_ok w2 r2 e3
  refine ⟨a, valV kvs y, rfl, .inl ⟨kvs, y, h1, keyOf_ok r1 e4, rfl⟩, ?_⟩
  rw [(krep_val (k := y) ⟨h2, h3⟩).2]
  exact q _ H2 ρ2 w2 (s1.trans s2) (.bl _)
end
end Mi

set_option Elab.async false
set_option linter.all false
set_option maxRecDepth 100000
set_option maxHeartbeats 4000000
/-! Texts repeated. -/
namespace Mi
open PySem PySem.Spec PyProof.Rows L2 Sw

section
variable {G : Gc} {H H' : Hp} {ρ ρ' : List Addr} {Z : Fm} {S : Sto}
/-- a text k times -/
def repS (z : Str) (k : Nat) : Str := ⟨List.foldl (· ++ ·) #[] (List.replicate k z.cps)⟩
def rMulS : R2 := fun x y H Q => ∃ (z : Str) (k : Int), x = .str z ∧ y = .int k ∧ 1 ≤ k ∧ k ≤ 1000 ∧ 1 ≤ z.length ∧ z.length ≤ 1000 ∧ (repS z k.toNat).length ≤ sizeLine ∧ Q (.str (repS z k.toNat)) H
theorem op_mulS {X : Cx} : OpR X (binaryOp .Mult) rMulS := by
  intro pins s σ H x y v u Q I rx ry h
  obtain ⟨z, k, rfl, rfl, h1, h2, h3, h4, h5, h⟩ := h
  obtain ⟨t, rfl⟩ := rx
  obtain ⟨t', rfl⟩ := ry
  refine wpAny_binaryOp_repeat (T := "str") (U := "int") (id := "str.__mul__") (idr := "int.__rmul__") (by decide +kernel) (fun s' => rfl) (fun s' => rfl) rfl rfl PySem.F.slot_int_rmul PySem.repeat_str rfl ?_
  refine call_gives PySem.F.slot_int_rmul rfl PySem.F.entry_int_rmul (PySem.F.args_int_rmul_2 _ _) (PySem.AutoIntG1.int___rmul___int_str_0 _ _ _ _) ?_
  refine ⟨rfl, ?_⟩
  have hk : ¬ k < 1 := by omega
  refine call_gives PySem.F.slot_str_mul rfl PySem.F.entry_str_mul (PySem.F.args_str_mul_2 _ _) (PySem.gives_str_mul z k t t' ?_ ?_ ?_) ?_
  · simp only [Bool.or_eq_false_iff, decide_eq_false_iff_not]
    omega
  · intro _ _
    have e : (z.length : Int) ≤ 1000 := by exact_mod_cast h4
    have : (1000 : Int) ≤ (2 ^ 63 - 1) / k := by
      rw [Int.le_ediv_iff_mul_le (by omega)]
      omega
    omega
  · intro _ _
    have e : z.length * k.toNat ≤ 1000 * 1000 := Nat.mul_le_mul h4 (by omega)
    have e2 : (1000 * 1000 : Nat) ≤ sizeLine := by decide +kernel
    exact decide_eq_false (by omega)
  · rw [if_neg hk]
    split
    case isTrue c =>
      have hz : (z.length == 0) = false := by
        rw [beq_eq_false_iff_ne]
        omega
      rw [hz, Bool.or_false, beq_iff_eq] at c
      subst c
      have e : repS z (1 : Int).toNat = z := by
        show (⟨#[] ++ z.cps⟩ : Str) = z
        rw [Array.empty_append]
      rw [e] at h
      exact ⟨.str z, H, I, ⟨t, rfl⟩, h⟩
    case isFalse =>
      simp only [Made.post]
      exact ⟨h5, .str (repS z k.toNat), H, I.tok _, ⟨_, rfl⟩, h⟩
/-- z * k: a text 1 to 1000 times -/
def fMulS : FOp := fun _ a b => match a, b with
  | .str z, .int k => if 1 ≤ k ∧ k ≤ 1000 ∧ 1 ≤ z.length ∧ z.length ≤ 1000 ∧ (repS z k.toNat).length ≤ sizeLine then some (.str (repS z k.toNat)) else none
  | _, _ => none
theorem snd_mulS : SndOp G rMulS fMulS := by
  intro x y a b c H ρ Z S Q w rx ry e q
  unfold fMulS at e
  split at e
  case h_2 => cases e
  rename_i z k
  split at e
  case isFalse => cases e
  rename_i hz
  cases e
  cases rx
  cases ry
  exact ⟨z, k, rfl, rfl, hz.1, hz.2.1, hz.2.2.1, hz.2.2.2.1, hz.2.2.2.2, q _ _ (Grow.refl _) (.str _)⟩
end
end Mi

set_option Elab.async false
set_option linter.all false
set_option maxRecDepth 100000
set_option maxHeartbeats 4000000
/-! Functions beside the readings: products, zip, comprehensions of two walks, repr, new lists handed out. -/
namespace Mi
open PySem PySem.Spec PyProof.Rows L2 Sw
section
variable {G : Gc} {H H' : Hp} {ρ ρ' : List Addr} {Z : Fm} {S : Sto}
theorem blkOk_at {N N' : List Str} {sc sc' scope : Scope} {own : List (Str × Nat)} (e1 : N' = N) (e : sc' = sc) (h : blkC N sc scope own = true) : BlkOk N' sc' scope own := by
  subst e1
  subst e
  exact blkOk_by h
theorem hu65 {A : Around} {k : Nat} (hr : Room k A) : A.units + 65 < cLine := by have := hr.un; omega
/-! ### products -/
def fMulL : FOp := fun S a b => match asL S a, b with
  | some ds, .int k => if k.natAbs < 2 ^ 63 ∧ ds.length * k.toNat ≤ sizeLine then some (.lst (List.replicate k.toNat ds).flatten) else none
  | _, _ => none
theorem repL_flat {h : Hp} {vs : List V} {ds : List Dv} (r : RepL G h ρ vs ds) : ∀ k : Nat, RepL G h ρ (List.replicate k vs).flatten (List.replicate k ds).flatten
  | 0 => .nil
  | k + 1 => by
    rw [List.replicate_succ, List.replicate_succ, List.flatten_cons, List.flatten_cons]
    exact r.app (repL_flat r k)
theorem snd_mulL : SndOp G rRep fMulL := by
  intro x y a b c H ρ Z S Q w rx ry e q
  unfold fMulL at e
  split at e
  case h_2 => cases e
  rename_i ds k e1
  split at e
  case isFalse => cases e
  rename_i hz
  cases e
  cases ry
  obtain ⟨p, vs, rfl, h1, h2⟩ := asL_ok w rx e1
  refine ⟨p, k, vs, rfl, rfl, h1, by have := hz.1; omega, by have := hz.1; omega, by rw [h2.length]; exact hz.2, fun b n => ?_⟩
  obtain ⟨w4, s4, e4⟩ := w.new (o := .lst (List.replicate k.toNat vs).flatten) n
  exact q _ _ (Grow.new n) (.lst e4 (s4.repL (repL_flat h2 _)))
def fMul : FOp := fun S a b => match fMulI S a b with
  | some c => some c
  | none => match fMulL S a b with
    | some c => some c
    | none => fMulS S a b
def rMulU : R2 := fun x y H Q => (rI CMul fun i j => .int (i * j)) x y H Q ∨ (fun x y H Q => rRep x y H Q ∨ rMulS x y H Q) x y H Q
theorem op_mulU {X : Cx} : OpR X (binaryOp .Mult) rMulU := OpR.or op_mul (OpR.or op_rep op_mulS)
theorem snd_mul : SndOp G rMulU fMul := SndOp.or (f' := fun S a b => match fMulL S a b with
    | some c => some c
    | none => fMulS S a b) snd_mulI (SndOp.or snd_mulL snd_mulS fun S a b c e => by
  split at e
  · rename_i c' h
    cases e
    exact .inl h
  · exact .inr e) fun S a b c e => by
  unfold fMul at e
  split at e
  · rename_i c' h
    cases e
    exact .inl h
  · exact .inr e
@[simp] theorem fMul_int {i j : Int} (h : i.natAbs < 2 ^ 64 ∨ j.natAbs < 2 ^ 64) : fMul S (.int i) (.int j) = some (.int (i * j)) := by
  unfold fMul fMulI fI
  simp only
  rw [if_pos (decide_eq_true h)]
def mNeg (m : ME) : ME := fun ev S => bnd (m ev S) fun d S1 => match d with
  | .int i => some (.int (-i), S1)
  | _ => none
theorem snd_neg {t : TE} {m : ME} (h : Snd G t m) : Snd G (tUn (rU fun i => .int (-i)) t) (mNeg m) := by
  intro σ H ρ Z ev S d S' Q w r e q
  obtain ⟨a, S1, e1, e⟩ := bnd_eq e
  cases a with
  | int i =>
    cases e
    refine h σ H ρ Z ev S _ S' _ w r e1 fun v H1 ρ1 w1 s1 r1 => ?_
    cases r1
    exact ⟨_, rfl, q _ H1 ρ1 w1 s1 (.int _)⟩
  | _ => cases e
theorem cr_allK {X : Cx} (K : PySem.W.Frag) (hK : X.K = K) (hc : X.calm = true) : CallR X (.builtin "all") (rAll K) := by subst hK; exact cr_all hc
theorem cr_anyK {X : Cx} (K : PySem.W.Frag) (hK : X.K = K) (hc : X.calm = true) : CallR X (.builtin "any") (rAny K) := by subst hK; exact cr_any hc
/-! ### repr -/
theorem call_reprK {X : Cx} (K : PySem.W.Frag) (hK : X.K = K) (fr : Free0 X.A) (hu : X.A.units + 64 < cLine) : CallR X (.builtin "repr") (rRepr K) := by subst hK; exact call_repr fr hu
/-- what can be shown -/
def shown (p : PyData) : Option Str := if p.showable = true ∧ p.shown.length ≤ sizeLine ∧ p.depth ≤ 60 then some p.shown else none
def fRepr : FC := fun S xs => match xs with
  | [d] => match toPS S d with
    | some p => match shown p with
      | some z => some (.str z)
      | none => none
    | none => none
  | _ => none
theorem snd_repr : SndC G (rRepr G.K) fRepr := by
  intro xs ds c H ρ Z S Q w rx e q
  match ds, e, rx with
  | [d], e, rx =>
    simp only [fRepr] at e
    split at e
    case h_2 => cases e
    rename_i p e1
    split at e
    case h_2 => cases e
    rename_i z e2
    cases e
    unfold shown at e2
    split at e2
    case isFalse => cases e2
    rename_i hs
    cases e2
    obtain ⟨v, rfl, r⟩ := repL1 rx
    exact ⟨v, p, rfl, .flat (toPS_ok w r e1), hs.1, hs.2.1, hs.2.2, q _ H (.refl _) (.str _)⟩
  | [], e, _ => cases e
  | _ :: _ :: _, e, _ => cases e
/-! ### zip -/
def zipD : List Dv → List Dv → List Dv
  | a :: as, b :: bs => .tup [a, b] :: zipD as bs
  | _, _ => []
theorem zipD_len : ∀ {as bs : List Dv}, (zipD as bs).length = min as.length bs.length
  | [], bs => by simp [zipD]
  | a :: as, [] => by simp [zipD]
  | a :: as, b :: bs => by simp [zipD, zipD_len (as := as) (bs := bs)]
theorem zipD_at : ∀ {as bs : List Dv} {i : Nat} {d : Dv}, (zipD as bs)[i]? = some d → ∃ a b, as[i]? = some a ∧ bs[i]? = some b ∧ d = .tup [a, b]
  | [], bs, i, d, e => by simp [zipD] at e
  | a :: as, [], i, d, e => by simp [zipD] at e
  | a :: as, b :: bs, 0, d, e => by simp [zipD] at e; exact ⟨a, b, rfl, rfl, e.symm⟩
  | a :: as, b :: bs, i + 1, d, e => by
    obtain ⟨x, y, h1, h2, h3⟩ := zipD_at (as := as) (bs := bs) (i := i) (by simpa [zipD] using e)
    exact ⟨x, y, by simpa using h1, by simpa using h2, h3⟩
def mZip (m : MA) : MA := fun ev S => bnd (m ev S) fun ds S1 => match ds with
  | [.lst as, .lst bs] => some (zipD as bs, S1)
  | [.tup as, .tup bs] => if as.length = bs.length then some (zipD as bs, S1) else none
  | [.str x, .str y] => if x.length = y.length then some (zipD (signsD x) (signsD y), S1) else none
  | _ => none
def iZipU (K : PySem.W.Frag) (ta : TA) : TI := fun σ H R => RZ.iZipA K ta σ H R ∨ iZipS ta σ H R
theorem pi_zipU {X : Cx} {e e2 : Expr} {ta : TA} {p pos tpos : Pos} {elts : List Expr} {kk : Nat} (K : PySem.W.Frag) (hK : X.K = K) (hg : Gl X "zip") (hm : X.mg "zip" = none) (ha : PA X [e, e2] ta)
    (hs : starEach [e, e2] X.env = (false, eval e X.env) :: starEach [e2] X.env := by rfl) (hpl : (backTo pos (starEach [e2] X.env)).any (·.1) = false := by rfl) :
    PI X (.Tuple elts kk tpos) (.Call (.Name "zip" p) [e, e2] [] pos) (iZipU K ta) := by
  subst hK
  exact PI.or (RZ.pi_zipA hg hm ha (hs := hs) (hpl := hpl)) (pi_zipS hg hm ha (hs := hs) (hpl := hpl))
theorem walk_zipT {K : PySem.W.Frag} {a b : Addr} {xs ys : List V} (hl : xs.length = ys.length) : Walk (RZ.ItzT K a b) xs.length (fun H => SqT K H a xs ∧ SqT K H b ys) (YPair (fun i => xs[i]?) (fun i => ys[i]?)) := by
  refine ⟨fun i H hi q => ⟨xs, ys, xs[i], ys[i], q.1, q.2, by simp [hi], by simp [show i < ys.length by omega]⟩, fun H q => ⟨xs, ys, q.1, q.2, .inl (Nat.le_refl _)⟩, fun i H v H' _ q y => ?_⟩
  obtain ⟨T, x, z, h1, h2, h3, h4, h5⟩ := y
  exact ⟨T, x, z, h1, h2, h3, h4 xs q.1, h5 ys q.2⟩
theorem walkZ {K : PySem.W.Frag} {a b : Addr} {vs us : List V} {as bs : List Dv} (hl : as.length = bs.length) (h2 : vs.length = as.length) (h4 : us.length = bs.length) :
    Walk (RZ.ItzT K a b) (zipD as bs).length (fun H => SqT K H a vs ∧ SqT K H b us) (YPair (fun i => vs[i]?) (fun i => us[i]?)) := by
  have e : (zipD as bs).length = vs.length := by rw [zipD_len]; omega
  rw [e]
  exact walk_zipT (by omega)
theorem gives_zip {H1 : Hp} {ρ1 : List Addr} {Z : Fm} {vs us : List V} {as bs : List Dv} (r1 : RepL G (hid H1 (ρ1 ++ Z.z)) ρ1 vs as) (r2 : RepL G (hid H1 (ρ1 ++ Z.z)) ρ1 us bs) : Gives G H1 ρ1 Z (zipD as bs) (YPair (fun i => vs[i]?) (fun i => us[i]?)) := by
  refine gives_pair (n := 0) fun i d hd => ?_
  obtain ⟨x, y, h1, h2, h3⟩ := zipD_at hd
  refine ⟨x, y, h3, fun v hv => ?_, fun v hv => ?_⟩
  · obtain ⟨d2, h4, h5⟩ := r1.atV hv
    rw [h1] at h4
    cases h4
    exact h5
  · obtain ⟨d2, h4, h5⟩ := r2.atV hv
    rw [h2] at h4
    cases h4
    exact h5
theorem snd_zip {t : TA} {m : MA} (h : SndA G t m) : SndI G (iZipU G.K t) (mZip m) := by
  intro σ H ρ Z ev S items S' R w r e q
  obtain ⟨ds, S1, e1, e⟩ := bnd_eq e
  split at e
  · cases e
    refine .inl (h σ H ρ Z ev S _ S' _ w r e1 fun vs H1 ρ1 w1 s1 r1 => ?_)
    obtain ⟨v, u, rfl, rv, ru⟩ := repL2 r1
    cases rv
    cases ru
    rename_i a vs h1 h2 b us h3 h4
    exact ⟨a, b, vs, us, rfl, .inl ⟨.inl (.inl (hid_le _ _ h1)), .inl (.inl (hid_le _ _ h3)), q _ (fun H => SqL G.K H a vs ∧ SqL G.K H b us) _ H1 ρ1 w1 s1 (walk_zip (by rw [zipD_len, h2.length, h4.length])) (fun H2 sm _ => ⟨.inl (.inl (sm.lst h1)), .inl (.inl (sm.lst h3))⟩) (gives_zip h2 h4)⟩⟩
  · split at e
    case isFalse => cases e
    rename_i hl
    cases e
    refine .inl (h σ H ρ Z ev S _ S' _ w r e1 fun vs H1 ρ1 w1 s1 r1 => ?_)
    obtain ⟨v, u, rfl, rv, ru⟩ := repL2 r1
    cases rv
    cases ru
    rename_i a vs h1 h2 b us h3 h4
    exact ⟨a, b, vs, us, rfl, .inr ⟨sqt_same hid_le h1, sqt_same hid_le h3, q _ (fun H => SqT G.K H a vs ∧ SqT G.K H b us) _ H1 ρ1 w1 s1 (walkZ hl h2.length h4.length) (fun H2 sm _ => ⟨sm.sqt h1, sm.sqt h3⟩) (gives_zip h2 h4)⟩⟩
  · split at e
    case isFalse => cases e
    rename_i x y hl
    cases e
    refine .inr (h σ H ρ Z ev S _ S' _ w r e1 fun vs H1 ρ1 w1 s1 r1 => ?_)
    obtain ⟨v, u, rfl, rv, ru⟩ := repL2 r1
    cases rv
    cases ru
    have hc : (chars x).length = (chars y).length := by rw [chars_len, chars_len]; exact hl
    have sg : ∀ z : Str, (signsD z).length = (chars z).length := fun z => by unfold signsD; rw [List.length_map]
    have lz : (zipD (signsD x) (signsD y)).length = (chars x).length := zipD_len.trans (by rw [sg, sg, hc, Nat.min_self])
    refine ⟨x, y, rfl, q _ (fun _ => True) _ H1 ρ1 w1 s1 (by rw [lz]; exact walk_zipS hc) (fun _ _ _ => True.intro) ?_⟩
    have := gives_zip (G := G) (H1 := H1) (ρ1 := ρ1) (Z := Z) (RepL.strs (chars x)) (RepL.strs (chars y))
    intro i H2 ρ2 Z2 S2 v H3 d w sm sa hd yy
    refine this i H2 ρ2 Z2 S2 v H3 d w sm sa hd ?_
    obtain ⟨T, x1, y1, g1, g2, g3, g4, g5⟩ := yy
    exact ⟨T, x1, y1, g1, g2, g3, by show ((chars x).map V.str)[i]? = _; rw [List.getElem?_map]; exact g4, by show ((chars y).map V.str)[i]? = _; rw [List.getElem?_map]; exact g5⟩
  · cases e
/-! ### comprehensions of two walks -/
def lc2In (g1 : MG) (t1 : MT) (me : ME) (ev : Ev) : List Dv → Sto → Option (List Dv × Sto) := lcGo g1 t1 me ev
def lc2Go (g : MG) (t : MT) (mi1 : MA) (vs1 : List Nat) (g1 : MG) (t1 : MT) (me : ME) (ev : Ev) : List Dv → Sto → Option (List Dv × Sto)
  | [], S => some ([], S)
  | x :: xs, S => match g x ev with
    | some ev1 => bnd (t ev1 S) fun b S1 => if b then bnd (mi1 ev1 S1) fun items S2 => bnd (lcGo g1 t1 me (wipeE ev1 vs1) items S2) fun ds S3 => bnd (lc2Go g t mi1 vs1 g1 t1 me ev xs S3) fun es S4 => some (ds ++ es, S4)
      else lc2Go g t mi1 vs1 g1 t1 me ev xs S1
    | none => none
def mLc2 (vs vs1 : List Nat) (mi : MA) (g : MG) (t : MT) (mi1 : MA) (g1 : MG) (t1 : MT) (me : ME) : ME := fun ev S => bnd (mi ev S) fun items S1 => bnd (lc2Go g t mi1 vs1 g1 t1 me (wipeE ev vs) items S1) fun ds S2 => if ds.length ≤ sizeLine then some (.lst ds, S2) else none
theorem wipe_sub {σ τ : L2.St} {vs : List Nat} : ∀ {ws : List Nat}, (∀ i ∈ ws, i ∈ vs) → L2.wipe (L2.wipe σ ws) vs = L2.wipe σ vs
  | [], _ => rfl
  | w :: ws, h => by
    show L2.wipe ((L2.wipe σ ws).set w none) vs = _
    rw [wipe_set (h w (.head _))]
    exact wipe_sub (τ := τ) fun i hi => h i (.tail _ hi)
structure Lc2At (G : Gc) (H1 : Hp) (ρ1 : List Addr) (Z : Fm) (D : Addr) (go : Sto → Option (List Dv × Sto)) (all : List Dv) (S' : Sto) (H : Hp) : Prop where
  ex : ∃ (ρ : List Addr) (S : Sto) (vs : List V) (acc rest : List Dv), Wo G H ρ (Z.with D) S ∧ (∃ r, ρ = ρ1 ++ r) ∧ Sm (hid H1 (ρ1 ++ Z.z)) (hid H (ρ ++ (Z.with D).z)) ∧ (∀ z ∈ Z.z, H z = H1 z) ∧
    H D = some (.lst vs) ∧ RepL G (hid H (ρ ++ (Z.with D).z)) ρ vs acc ∧ go S = some (rest, S') ∧ all = acc ++ rest
theorem snd_lc2 {wi wi1 : TI} {g g1 : TG} {tt tt1 : TT} {te : TE} {vs vs1 : List Nat} {mi mi1 : MA} {mg mg1 : MG} {mt mt1 : MT} {me : ME} (hi : SndI G wi mi) (hg : SndG G g mg vs) (ht : SndT G tt mt) (hi1 : SndI G wi1 mi1) (hg1 : SndG G g1 mg1 vs1) (ht1 : SndT G tt1 mt1) (he : Snd G te me) :
    Snd G (tLc2 wi g tt wi1 g1 tt1 te vs vs1) (mLc2 vs vs1 mi mg mt mi1 mg1 mt1 me) := by
  intro σ H ρ Z ev S d S' Q w r e q
  obtain ⟨items, S1, e1, e⟩ := bnd_eq e
  obtain ⟨all, S2, e2, e⟩ := bnd_eq e
  split at e
  case isFalse => cases e
  rename_i hz
  cases e
  refine hi σ H ρ Z ev S items S1 _ w r e1 fun J Gd Y H1 ρ1 w1 s1 wk gd gv D nD => ?_
  have r1 := (r.stp s1).wipe vs
  refine lc2_out wk (fun i H => Lc2At G H1 ρ1 Z D (lc2Go mg mt mi1 vs1 mg1 mt1 me (wipeE ev vs) (items.drop i)) all S' H) ?_ ?_ ?_ ?_
  · obtain ⟨w2, s2⟩ := w1.hide (o := .lst []) nD
    refine ⟨ρ1, S1, [], [], all, w2, ⟨[], by simp⟩, s2, fun z m => upd_ne fun e => ?_, upd_same, .nil, e2, rfl⟩
    subst e
    exact w1.zin z m nD
  · rintro i H2 hi2 ⟨ρ2, S3, us, acc, rest, w2, p2, s2, k2, hD, rr, go, ea⟩
    exact gd H2 s2.hid fun p m => (w2.nofz.1 p m).1
  · rintro i x H2 H3 hi2 ⟨ρ2, S3, us, acc, rest, w2, p2, s2, k2, hD, rr, go, ea⟩ y
    obtain ⟨it, hit⟩ : ∃ it, items[i]? = some it := ⟨items[i], List.getElem?_eq_getElem hi2⟩
    obtain ⟨gr, rx⟩ := gv i H2 ρ2 (Z.with D) S3 x H3 it w2 s2 (pre_at p2) hit y
    obtain ⟨w3, s3⟩ := w2.grow gr
    rw [drop_cons hit] at go
    simp only [lc2Go] at go
    split at go
    case h_2 => cases go
    rename_i ev1 eg
    obtain ⟨b, S4, e4, go⟩ := bnd_eq go
    have r3 : EvR G (hid H3 (ρ2 ++ (Z.with D).z)) ρ2 (L2.wipe σ vs) (wipeE ev vs) := (r1.mono s2 (pre_at p2)).stp s3
    refine hg _ H3 ρ2 (Z.with D) _ ev1 x it _ r3 rx eg fun σ2 r4 hw => ⟨hw.trans (wipe_wipe vs), ?_⟩
    refine ht σ2 H3 ρ2 (Z.with D) ev1 S3 b S4 _ w3 r4 e4 fun H4 ρ4 w4 s4 => ?_
    have zD : D ∈ (Z.with D).z := List.mem_append.mpr (.inr (.head _))
    have zZ : ∀ z ∈ Z.z, z ∈ (Z.with D).z := fun z m => List.mem_append.mpr (.inl m)
    have hD3 : H3 D = some (.lst us) := gr.same _ _ hD
    have hD4 : H4 D = some (.lst us) := (s4.zk D zD).trans hD3
    have pre : ∀ {ρa ρb : List Addr}, (∃ r, ρa = ρ1 ++ r) → (∃ r, ρb = ρa ++ r) → ∃ r, ρb = ρ1 ++ r := fun ⟨a, ea⟩ ⟨b, eb⟩ => ⟨a ++ b, by rw [eb, ea, List.append_assoc]⟩
    cases b with
    | false =>
      rw [if_neg Bool.false_ne_true] at go ⊢
      exact ⟨ρ4, S4, us, acc, rest, w4, pre p2 (s3.trans s4).pre, s2.trans (s3.trans s4).same, fun z m => ((s3.trans s4).zk z (zZ z m)).trans (k2 z m), hD4, (s3.trans s4).repL rr, go, ea⟩
    | true =>
      rw [if_pos rfl] at go ⊢
      obtain ⟨its, S5, e5, go⟩ := bnd_eq go
      obtain ⟨ds, S6, e6, go⟩ := bnd_eq go
      obtain ⟨es, S7, e7, go⟩ := bnd_eq go
      cases go
      refine hi1 σ2 H4 ρ4 (Z.with D) ev1 S4 its S5 _ w4 (r4.stp s4) e5 fun J1 Gd1 Y1 H5 ρ5 w5 s5 wk1 gd1 gv1 => ?_
      have st5 := (s3.trans s4).trans s5
      have r5 := (r4.stp (s4.trans s5)).wipe vs1
      have hD5 : H5 D = some (.lst us) := (s5.zk D zD).trans hD4
      have p5 := pre p2 st5.pre
      have k5 : ∀ z ∈ Z.z, H5 z = H1 z := fun z m => (st5.zk z (zZ z m)).trans (k2 z m)
      have s15 := s2.trans st5.same
      refine lc2_in wk1 (fun j H => ∃ (ρ6 : List Addr) (S8 : Sto) (ws : List V) (acc2 rest2 : List Dv), Wo G H ρ6 (Z.with D) S8 ∧ (∃ r, ρ6 = ρ5 ++ r) ∧ Sm (hid H5 (ρ5 ++ (Z.with D).z)) (hid H (ρ6 ++ (Z.with D).z)) ∧ (∀ z ∈ Z.z, H z = H1 z) ∧
        H D = some (.lst ws) ∧ RepL G (hid H (ρ6 ++ (Z.with D).z)) ρ6 ws acc2 ∧ lcGo mg1 mt1 me (wipeE ev1 vs1) (its.drop j) S8 = some (rest2, S6) ∧ acc ++ ds = acc2 ++ rest2) ?_ ?_ ?_ ?_
      · exact ⟨ρ5, S5, us, acc, ds, w5, ⟨[], by simp⟩, .refl _, k5, hD5, st5.repL rr, e6, rfl⟩
      · rintro j H6 hj ⟨ρ6, S8, ws, acc2, rest2, w6, p6, s6, k6, hD6, rr6, go6, ea6⟩
        exact gd1 H6 s6.hid fun p m => (w6.nofz.1 p m).1
      · rintro j x1 H6 H7 hj ⟨ρ6, S8, ws, acc2, rest2, w6, p6, s6, k6, hD6, rr6, go6, ea6⟩ y1
        obtain ⟨it1, hit1⟩ : ∃ it1, its[j]? = some it1 := ⟨its[j], List.getElem?_eq_getElem hj⟩
        obtain ⟨gr1, rx1⟩ := gv1 j H6 ρ6 (Z.with D) S8 x1 H7 it1 w6 s6 (pre_at p6) hit1 y1
        obtain ⟨w7, s7⟩ := w6.grow gr1
        rw [drop_cons hit1] at go6
        simp only [lcGo] at go6
        split at go6
        case h_2 => cases go6
        rename_i ev2 eg1
        obtain ⟨b1, S9, e9, go6⟩ := bnd_eq go6
        have r7 : EvR G (hid H7 (ρ6 ++ (Z.with D).z)) ρ6 (L2.wipe σ2 vs1) (wipeE ev1 vs1) := (r5.mono s6 (pre_at p6)).stp s7
        refine hg1 _ H7 ρ6 (Z.with D) _ ev2 x1 it1 _ r7 rx1 eg1 fun σ3 r8 hw1 => ⟨hw1.trans (wipe_wipe vs1), ?_⟩
        refine ht1 σ3 H7 ρ6 (Z.with D) ev2 S8 b1 S9 _ w7 r8 e9 fun H8 ρ8 w8 s8 => ?_
        have hD8 : H8 D = some (.lst ws) := (s8.zk D zD).trans (gr1.same _ _ hD6)
        have pre5 : ∀ {ρa ρb : List Addr}, (∃ r, ρa = ρ5 ++ r) → (∃ r, ρb = ρa ++ r) → ∃ r, ρb = ρ5 ++ r := fun ⟨a, ea⟩ ⟨b, eb⟩ => ⟨a ++ b, by rw [eb, ea, List.append_assoc]⟩
        cases b1 with
        | false =>
          rw [if_neg Bool.false_ne_true] at go6 ⊢
          exact ⟨ρ8, S9, ws, acc2, rest2, w8, pre5 p6 (s7.trans s8).pre, s6.trans (s7.trans s8).same, fun z m => ((s7.trans s8).zk z (zZ z m)).trans (k6 z m), hD8, (s7.trans s8).repL rr6, go6, ea6⟩
        | true =>
          rw [if_pos rfl] at go6 ⊢
          obtain ⟨d1, S10, e10, go6⟩ := bnd_eq go6
          obtain ⟨ds2, S11, e11, go6⟩ := bnd_eq go6
          cases go6
          refine he σ3 H8 ρ8 (Z.with D) ev2 S9 d1 S10 _ w8 (r8.stp s8) e10 fun v H9 ρ9 w9 s9 r9 => ?_
          have st := (s7.trans s8).trans s9
          have hD9 : H9 D = some (.lst ws) := (s9.zk D zD).trans hD8
          have la := congrArg List.length ea6
          have lb := congrArg List.length ea
          simp only [List.length_append, List.length_cons] at la lb
          obtain ⟨w10, e10h, z10⟩ := w9.rewrite (o := .lst (ws ++ [v]))
          refine ⟨ws, hD9, ?_, ρ9, S10, ws ++ [v], acc2 ++ [d1], ds2, w10, pre5 p6 st.pre, ?_, fun z m => (z10 z m).trans ((st.zk z (zZ z m)).trans (k6 z m)), upd_same, ?_, e11, by rw [ea6, List.append_assoc]; rfl⟩
          · have := rr6.length
            omega
          · rw [e10h]
            exact s6.trans st.same
          · rw [e10h]
            exact (st.repL rr6).app (.cons r9 .nil)
      · rintro H6 ⟨ρ6, S8, ws, acc2, rest2, w6, p6, s6, k6, hD6, rr6, go6, ea6⟩
        rw [List.drop_length] at go6
        simp only [lcGo] at go6
        cases go6
        rw [List.append_nil] at ea6
        exact ⟨ρ6, _, ws, acc ++ ds, es, w6, pre p5 p6, s15.trans s6, k6, hD6, by rw [ea6]; exact rr6, e7, by rw [ea, List.append_assoc]⟩
  · rintro H2 ⟨ρ2, S3, us, acc, rest, w2, p2, s2, k2, hD, rr, go, ea⟩
    rw [List.drop_length] at go
    simp only [lc2Go] at go
    cases go
    rw [List.append_nil] at ea
    subst ea
    obtain ⟨w3, s3, nD3⟩ := w2.show_
    exact q _ H2 ρ2 w3 (s1.trans (.to p2 (s2.trans s3) k2)) (.lst (hid_of nD3 hD) (rr.mono s3 fun _ _ q => q))
/-! ### defs that hand out a new list that changes -/
def finL (n : Nat) (S : Sto) (d : Dv) : Option (Dv × Sto) := match d with
  | .mut l => if n ≤ l ∧ (S.take n).all okMo = true then (match S[l]? with
    | some (.lst ds) => if cleanL ds then some (.mut n, S.take n ++ [.lst ds]) else none
    | _ => none) else none
  | _ => none
def mDefL (k : Nat) (m : MS) : MF := fun ds S => match m (ds.map some ++ List.replicate k none) S with
  | some (.rt d, S1) => finL S.length S1 d
  | _ => none
theorem body_okL {N : List Str} {vs : List V} {n k : Nat} {t : TS} {m : MS} {H : Hp} {Q : VK} {E : XK} (hk : N.length - n = k) (h : SndS G t m) (p : spM G n (mDefL k m) vs H Q E) : t { nx := fun _ H' => Q .non H', rt := Q } (L2.start N vs) H := by
  obtain ⟨hn, ρ, Z, S, ds, d, S', w, r, e, q⟩ := p
  unfold mDefL at e
  have ev := start_ev (N := N) (k := k) r (by rw [hn]; exact hk)
  split at e
  case h_2 => cases e
  rename_i d1 S1 e1
  refine h _ H ρ Z _ S _ S1 _ w ev e1 fun v H1 ρ1 w1 s1 r1 => ?_
  unfold finL at e
  split at e
  case h_2 => cases e
  rename_i l
  split at e
  case isFalse => cases e
  rename_i hl
  split at e
  case h_2 => cases e
  rename_i es e2
  split at e
  case isFalse => cases e
  rename_i cl
  cases e
  cases r1
  rename_i a ha
  obtain ⟨us, h1, h2⟩ := cellL w1 ha e2
  obtain ⟨w2, sm⟩ := w1.cut S.length hl.2
  obtain ⟨x, ex⟩ := s1.pre
  have et : ρ1.take S.length = ρ := by rw [ex, ← w.len, List.take_left']; rfl
  rw [et] at w2 sm
  have na : a ∉ ρ ++ Z.z := fun m => by
    have nd := List.nodup_append.mp w1.nd
    rcases List.mem_append.mp m with m | m
    · obtain ⟨j, hj⟩ := List.mem_iff_getElem?.mp m
      have lj := (List.getElem?_eq_some_iff.mp hj).1
      rw [w.len] at lj
      have hj1 : ρ1[j]? = some a := s1.at j a hj
      obtain ⟨b1, c1⟩ := List.getElem?_eq_some_iff.mp ha
      obtain ⟨b2, c2⟩ := List.getElem?_eq_some_iff.mp hj1
      exact List.pairwise_iff_getElem.mp nd.1 j l b2 b1 (by omega) (c2.trans c1.symm)
    · exact nd.2.2 a (List.mem_of_getElem? ha) a m rfl
  have sub : ∀ b, b ∈ (ρ ++ [a]) ++ Z.z → b ∈ ρ1 ++ Z.z := fun b m => by
    rcases List.mem_append.mp m with m | m
    · refine List.mem_append.mpr (.inl ?_)
      rcases List.mem_append.mp m with m | m
      · rw [ex]; exact List.mem_append.mpr (.inl m)
      · rw [List.mem_singleton.mp m]; exact List.mem_of_getElem? ha
    · exact List.mem_append.mpr (.inr m)
  have sm2 : Sm (hid H1 (ρ1 ++ Z.z)) (hid H1 ((ρ ++ [a]) ++ Z.z)) := .of <| hid_mono (Same.refl _) fun b m1 m2 => absurd (sub b m1) m2
  refine q _ H1 (ρ ++ [a]) ⟨?_, ?_, fun j m em => ?_, w1.zin, w1.nofz.grow (Grow.refl _) fun b mb => .inl (sub b mb)⟩ ⟨⟨[a], rfl⟩, s1.same.trans sm2, s1.zk⟩ (.mut ?_)
  · rw [List.length_append, List.length_append, w2.len]
    rfl
  · have nd := List.nodup_append.mp w2.nd
    rw [List.append_assoc, List.nodup_append]
    refine ⟨nd.1, List.nodup_cons.mpr ⟨fun m => na (List.mem_append.mpr (.inr m)), nd.2.1⟩, fun b hb c hc => ?_⟩
    rcases List.mem_cons.mp hc with e | e
    · subst e
      intro z
      subst z
      exact na (List.mem_append.mpr (.inl hb))
    · exact nd.2.2 b hb c e
  · by_cases lj : j < (S1.take S.length).length
    · rw [List.getElem?_append_left lj] at em
      have om : okMo m = true := List.all_eq_true.mp hl.2 m (List.mem_of_getElem? em)
      have lt : j < S.length := by rw [List.length_take] at lj; omega
      rw [List.getElem?_take_of_lt lt] at em
      obtain ⟨b, ho, g1, g2, g3⟩ := w1.cell j m em
      have g4 : (ρ ++ [a])[j]? = some b := by
        rw [List.getElem?_append_left (by rw [w.len]; exact lt), ← et, List.getElem?_take_of_lt lt]
        exact g1
      refine ⟨b, ho, g4, g2, ?_⟩
      cases m <;> cases ho <;> first
        | exact g3.elim
        | exact (show _ ∧ ∃ _, HO.ext _ = _ from g3)
        | exact RepL.clean sm2 g3 om
        | exact ⟨g3.1, RepL.clean sm2 g3.2 (by rw [← cleanK_map]; exact om)⟩
        | exact ⟨g3.1, g3.2.1, RepL.clean sm2 g3.2.2 (by rw [← cleanF_map]; exact om)⟩
    · have lS : (S1.take S.length).length = S.length := by rw [← w2.len, w.len]
      have ej : j = S.length := by
        have := (List.getElem?_eq_some_iff.mp em).1
        rw [List.length_append] at this
        simp at this
        omega
      subst ej
      rw [List.getElem?_append_right (by omega), lS, Nat.sub_self] at em
      cases em
      refine ⟨a, .lst us, ?_, h1, h2.clean sm2 cl⟩
      rw [← w.len]
      simp
  · rw [← w.len]
    simp
end
end Mi

set_option Elab.async false
set_option linter.all false
set_option maxRecDepth 100000
set_option maxHeartbeats 4000000
/-! Functions beside the readings: objects. -/
namespace Mi
open PySem PySem.Spec PyProof.Rows L2 Sw
section
variable {G : Gc} {H H' : Hp} {ρ ρ' : List Addr} {Z : Fm} {S : Sto}

/-! ### fields -/
def lookD (fs : List (Str × Dv)) (f : Str) : Option Dv := (fs.find? fun p => decide (p.1 = f)).map (·.2)
def putFD (f : Str) (v : Dv) : List (Str × Dv) → List (Str × Dv)
  | [] => [(f, v)]
  | (g, x) :: r => if g = f then (g, v) :: r else (g, x) :: putFD f v r
def FRep (G : Gc) (h : Hp) (ρ : List Addr) (fv : List (Str × V)) (fs : List (Str × Dv)) : Prop := fv.map (·.1) = fs.map (·.1) ∧ RepL G h ρ (fv.map (·.2)) (fs.map (·.2))
theorem frep_inv {h : Hp} {p : Str × V} {q : Str × Dv} {fv : List (Str × V)} {fs : List (Str × Dv)} (r : FRep G h ρ (p :: fv) (q :: fs)) : p.1 = q.1 ∧ Rep G h ρ p.2 q.2 ∧ FRep G h ρ fv fs := by
  obtain ⟨h1, h2⟩ := r
  simp only [List.map_cons, List.cons.injEq] at h1
  cases h2 with
  | cons a r => exact ⟨h1.1, a, h1.2, r⟩
theorem frep_look {h : Hp} {f : Str} : ∀ {fv : List (Str × V)} {fs : List (Str × Dv)}, FRep G h ρ fv fs → (∀ d, lookD fs f = some d → ∃ v, fv.lookup f = some v ∧ Rep G h ρ v d) ∧ (lookD fs f = none → fv.lookup f = none)
  | [], [], _ => ⟨fun d e => (by cases e), fun _ => rfl⟩
  | [], _ :: _, r => by have := r.1; simp at this
  | _ :: _, [], r => by have := r.1; simp at this
  | (g, v) :: fv, (g2, x) :: fs, r => by
    obtain ⟨h1, h2, h3⟩ := frep_inv r
    simp only at h1
    subst h1
    obtain ⟨i1, i2⟩ := frep_look (f := f) h3
    by_cases e : g = f
    · subst e
      have e1 : ((g, v) :: fv).lookup g = some v := by simp [List.lookup]
      have e2 : lookD ((g, x) :: fs) g = some x := by simp [lookD, List.find?_cons]
      rw [e1, e2]
      exact ⟨fun d ed => by cases ed; exact ⟨v, rfl, h2⟩, fun z => by cases z⟩
    · have e1 : ((g, v) :: fv).lookup f = fv.lookup f := by
        have : (f == g) = false := beq_eq_false_iff_ne.mpr fun z => e z.symm
        simp [List.lookup, this]
      have e2 : lookD ((g, x) :: fs) f = lookD fs f := by simp [lookD, List.find?_cons, e]
      rw [e1, e2]
      exact ⟨i1, i2⟩
theorem frep_put {h : Hp} {f : Str} {v : V} {d : Dv} (a : Rep G h ρ v d) : ∀ {fv : List (Str × V)} {fs : List (Str × Dv)}, FRep G h ρ fv fs → FRep G h ρ (putF f v fv) (putFD f d fs)
  | [], [], _ => ⟨rfl, .cons a .nil⟩
  | [], _ :: _, r => by have := r.1; simp at this
  | _ :: _, [], r => by have := r.1; simp at this
  | (g, x) :: fv, (g2, y) :: fs, r => by
    obtain ⟨h1, h2, h3⟩ := frep_inv r
    simp only at h1
    subst h1
    unfold putF putFD
    by_cases e : g = f
    · rw [if_pos e, if_pos e]
      exact ⟨by simp [h3.1], .cons a h3.2⟩
    · rw [if_neg e, if_neg e]
      obtain ⟨i1, i2⟩ := frep_put (f := f) a h3
      exact ⟨by simp [i1], .cons h2 i2⟩
/-- an object's class and its fields -/
def asO (S : Sto) : Dv → Option (Str × List (Str × Dv))
  | .obj c fs => some (c, fs)
  | .mut l => match S[l]? with
    | some (.ins c fs) => some (c, fs)
    | _ => none
  | _ => none
theorem asO_ok (w : Wo G H ρ Z S) {v : V} {d : Dv} {c : Str} {fs : List (Str × Dv)} (r : Rep G (hid H (ρ ++ Z.z)) ρ v d) (e : asO S d = some (c, fs)) : ∃ a C dx fv, v = .ref a ∧ G.mg c = some (.ref C) ∧ H a = some (.ins C dx fv) ∧ FRep G (hid H (ρ ++ Z.z)) ρ fv fs := by
  cases d with
  | obj c2 fs2 =>
    cases e
    cases r with
    | obj k1 k2 k3 k4 => exact ⟨_, _, _, _, rfl, k1, hid_le _ _ k2, k3, k4⟩
  | «mut» l =>
    cases r
    rename_i a ha
    simp only [asO] at e
    split at e
    · rename_i c2 fs2 e2
      cases e
      obtain ⟨C, dx, fv, h1, h2, h3, h4⟩ := cellI w ha e2
      exact ⟨a, C, dx, fv, rfl, h1, h2, h3, h4⟩
    · cases e
  | _ => cases e
/-- what a class of the program is -/
def classes : List Str := ["Board", "Ranking", "Notes", "Desk", "Console"]
def AllC (G : Gc) (p : Addr → Prop) : Prop := ∀ c ∈ classes, ∀ C, G.mg c = some (.ref C) → p C
def mFld (f : Str) (m : ME) : ME := fun ev S => bnd (m ev S) fun d S1 => match asO S1 d with
  | some (c, fs) => if classes.contains c then (match lookD fs f with
    | some x => some (x, S1)
    | none => none) else none
  | none => none
theorem snd_fld {f : Str} {t : TE} {m : ME} (hc : AllC G fun C => Cls G.K C ∧ NoAttr G.K C f) (h : Snd G t m) : Snd G (tFld G.K t f) (mFld f m) := by
  intro σ H ρ Z ev S d S' Q w r e q
  obtain ⟨o, S1, e1, e⟩ := bnd_eq e
  split at e
  case h_2 => cases e
  rename_i c fs e2
  split at e
  case isFalse => cases e
  rename_i hin
  split at e
  case h_2 => cases e
  rename_i x e3
  cases e
  refine h σ H ρ Z ev S o S' _ w r e1 fun v H1 ρ1 w1 s1 r1 => ?_
  obtain ⟨a, C, dx, fv, rfl, h1, h2, h3⟩ := asO_ok w1 r1 e2
  obtain ⟨k1, k2⟩ := hc c (by simpa using hin) C h1
  obtain ⟨u, h4, h5⟩ := (frep_look (f := f) h3).1 _ e3
  exact ⟨a, C, dx, fv, u, rfl, h2, k1, k2, h4, q u H1 ρ1 w1 s1 h5⟩
theorem ps_fldK {X : Cx} {o value : Expr} {f : Str} {pos pos' : Pos} {ta tv : TE} (K : PySem.W.Frag) (hK : X.K = K) (ha : PE X o ta) (hv : PE X value tv) (hs : swapsWith value (some (.Attribute o f pos')) pos.line X.env = pure false) : PS X (.Assign [.Attribute o f pos'] value pos) (sFld K ta tv f) := by
  subst hK
  exact ps_fld ha hv hs
def sFldM (f : Str) (mo mv : ME) : MS := fun ev S => bnd (mv ev S) fun d S1 => bnd (mo ev S1) fun o S2 => match o with
  | .mut l => match S2[l]? with
    | some (.ins c fs) => if classes.contains c = true ∧ fs.length < 1000 then some (.nx ev, S2.set l (.ins c (putFD f d fs))) else none
    | _ => none
  | _ => none
theorem frep_len {h : Hp} {fv : List (Str × V)} {fs : List (Str × Dv)} (r : FRep G h ρ fv fs) : fv.length = fs.length := by
  have := congrArg List.length r.1
  simpa using this
theorem snd_fldS {f : Str} {to tv : TE} {mo mv : ME} (hc : AllC G fun C => Cls G.K C ∧ NoAttr G.K C f) (ho : Snd G to mo) (hv : Snd G tv mv) : SndS G (sFld G.K to tv f) (sFldM f mo mv) := by
  intro σ H ρ Z ev S o S' D w r e q
  obtain ⟨d, S1, e1, e⟩ := bnd_eq e
  obtain ⟨od, S2, e2, e⟩ := bnd_eq e
  cases od with
  | «mut» l =>
    simp only at e
    split at e
    case h_2 => cases e
    rename_i c fs e3
    split at e
    case isFalse => cases e
    rename_i hin
    cases e
    refine hv σ H ρ Z ev S d S1 _ w r e1 fun v H1 ρ1 w1 s1 r1 => ?_
    refine ho σ H1 ρ1 Z ev S1 _ S2 _ w1 (r.stp s1) e2 fun x H2 ρ2 w2 s2 r2 => ?_
    cases r2
    rename_i a ha
    obtain ⟨C, dx, fv, h1, h2, h3⟩ := cellI w2 ha e3
    obtain ⟨k1, k2⟩ := hc c (by simpa using hin.1) C h1
    have fr : FRep G (hid H2 (ρ2 ++ Z.z)) ρ2 fv fs := h3
    obtain ⟨w4, s4⟩ := w2.set (o := .ins C dx (putF f v fv)) (m := .ins c (putFD f d fs)) ha ⟨h1, frep_put (s2.rep r1) fr⟩
    exact ⟨a, C, dx, fv, rfl, h2, k1, k2, by rw [frep_len fr]; exact hin.2, q σ _ ρ2 w4 ((s1.trans s2).trans s4) (r.stp ((s1.trans s2).trans s4))⟩
  | _ => cases e

/-! ### methods, properties, new objects -/
def mMeth (c m : Str) (F : MF) (dds : List Dv) (mo : ME) (ma : MA) : ME := fun ev S => bnd (mo ev S) fun o S1 => match asO S1 o with
  | some (c2, fs) => if c2 = c ∧ (lookD fs m).isNone = true then bnd (ma ev S1) fun ds S2 => F (o :: (ds ++ dds)) S2 else none
  | none => none
theorem snd_meth {c m : Str} {C : Addr} {n k : Nat} {F : MF} {dvs : List V} {dds : List Dv} {to : TE} {t : TA} {mo : ME} {ma : MA} (hC : G.mg c = some (.ref C)) (hn : ∀ ev S ds S1, ma ev S = some (ds, S1) → ds.length = k) (hk : k + dds.length + 1 = n)
    (hd : ∀ h ρ, RepL G h ρ dvs dds) (ho : Snd G to mo) (h : SndA G t ma) : Snd G (tMeth C m (spM G n F) dvs E0 to t) (mMeth c m F dds mo ma) := by
  intro σ H ρ Z ev S d S' Q w r e q
  obtain ⟨o, S1, e1, e⟩ := bnd_eq e
  split at e
  case h_2 => cases e
  rename_i c2 fs e2
  split at e
  case isFalse => cases e
  rename_i hcm
  obtain ⟨ds, S2, e3, e⟩ := bnd_eq e
  refine ho σ H ρ Z ev S o S1 _ w r e1 fun v H1 ρ1 w1 s1 r1 => ?_
  obtain ⟨a, C2, dx, fv, rfl, h1, h2, h3⟩ := asO_ok w1 r1 e2
  rw [hcm.1, hC] at h1
  cases h1
  refine ⟨a, dx, fv, rfl, h2, (frep_look h3).2 (by simpa using hcm.2), ?_⟩
  refine h σ H1 ρ1 Z ev S1 ds S2 _ w1 (r.stp s1) e3 fun vs H2 ρ2 w2 s2 r2 => ?_
  have rl : RepL G (hid H2 (ρ2 ++ Z.z)) ρ2 (.ref a :: (vs ++ dvs)) (o :: (ds ++ dds)) := .cons (s2.rep r1) (r2.app (hd _ _))
  refine ⟨?_, ρ2, Z, S2, _, d, S', w2, rl, e, fun u H3 ρ3 w3 s3 r3 => q u H3 ρ3 w3 ((s1.trans s2).trans s3) r3⟩
  rw [rl.length, List.length_cons, List.length_append, hn _ _ _ _ e3]
  exact hk
def mProp (c : Str) (F : MF) (mo : ME) : ME := fun ev S => bnd (mo ev S) fun o S1 => match asO S1 o with
  | some (c2, _) => if c2 = c then F [o] S1 else none
  | none => none
theorem snd_prop {c : Str} {C : Addr} {F : MF} {to : TE} {mo : ME} (hC : G.mg c = some (.ref C)) (ho : Snd G to mo) : Snd G (tProp C (spM G 1 F) [] E0 to) (mProp c F mo) := by
  intro σ H ρ Z ev S d S' Q w r e q
  obtain ⟨o, S1, e1, e⟩ := bnd_eq e
  split at e
  case h_2 => cases e
  rename_i c2 fs e2
  split at e
  case isFalse => cases e
  rename_i hcm
  refine ho σ H ρ Z ev S o S1 _ w r e1 fun v H1 ρ1 w1 s1 r1 => ?_
  obtain ⟨a, C2, dx, fv, rfl, h1, h2, h3⟩ := asO_ok w1 r1 e2
  rw [hcm, hC] at h1
  cases h1
  exact ⟨a, dx, fv, rfl, h2, rfl, ρ1, Z, S1, _, d, S', w1, .cons r1 .nil, e, fun u H3 ρ3 w3 s3 r3 => q u H3 ρ3 w3 (s1.trans s3) r3⟩
/-- a property of one of two classes -/
theorem PE.or {X : Cx} {e : Expr} {t u : TE} (h1 : PE X e t) (h2 : PE X e u) : PE X e (fun σ H Q => t σ H Q ∨ u σ H Q) := ⟨fun pins s σ H Q I q => by
  rcases q with q | q
  · exact h1.run pins s σ H Q I q
  · exact h2.run pins s σ H Q I q⟩
def mOr (a b : ME) : ME := fun ev S => match a ev S with
  | some x => some x
  | none => b ev S
theorem snd_or {t u : TE} {a b : ME} (ha : Snd G t a) (hb : Snd G u b) : Snd G (fun σ H Q => t σ H Q ∨ u σ H Q) (mOr a b) := by
  intro σ H ρ Z ev S d S' Q w r e q
  unfold mOr at e
  cases e1 : a ev S with
  | some x =>
    rw [e1] at e
    cases e
    exact .inl (ha σ H ρ Z ev S d S' Q w r e1 q)
  | none =>
    rw [e1] at e
    exact .inr (hb σ H ρ Z ev S d S' Q w r e q)
/-- a new object, which stays as its __init__ leaves it -/
def newO (c : Str) (F : MF) (ds : List Dv) (S : Sto) : Option (Dv × Sto) := match F (.mut S.length :: ds) (S ++ [.ins c []]) with
  | some (.non, S2) => fin S.length S2 (.mut S.length)
  | _ => none
def mMake (c : Str) (F : MF) (dds : List Dv) (ma : MA) : ME := fun ev S => bnd (ma ev S) fun ds S1 => newO c F (ds ++ dds) S1
theorem new_ok {c : Str} {C : Addr} {n : Nat} {F : MF} {vs : List V} {ds : List Dv} {d : Dv} {S1 S' : Sto} {H1 : Hp} {ρ1 : List Addr} {Q : VK} (hC : G.mg c = some (.ref C)) (hn : vs.length + 1 = n) (w1 : Wo G H1 ρ1 Z S1) (r1 : RepL G (hid H1 (ρ1 ++ Z.z)) ρ1 vs ds) (e : newO c F ds S1 = some (d, S'))
    (q : ∀ v H' ρ', Wo G H' ρ' Z S' → Stp H1 ρ1 Z H' ρ' → Rep G (hid H' (ρ' ++ Z.z)) ρ' v d → Q v H') (x dx : Addr) (nx : H1 x = none) (ndx : H1 dx = none) (ne : dx ≠ x) :
    spM G n F (.ref x :: vs) (upd (upd H1 dx (.own x)) x (.ins C dx [])) (fun v H2 => v = .non ∧ Q (.ref x) H2) E0 := by
  unfold newO at e
  split at e
  case h_2 => cases e
  rename_i S2 e2
  obtain ⟨w2, s2, _⟩ := w1.new (o := .own x) ndx
  have nx2 : (upd H1 dx (.own x)) x = none := by rw [upd_ne ne.symm]; exact nx
  obtain ⟨w3, s3⟩ := w2.newL (o := .ins C dx []) (m := .ins c []) nx2 ⟨hC, rfl, .nil⟩
  have rl : RepL G (hid (upd (upd H1 dx (.own x)) x (.ins C dx [])) ((ρ1 ++ [x]) ++ Z.z)) (ρ1 ++ [x]) (.ref x :: vs) (.mut S1.length :: ds) :=
    .cons (.mut (by rw [← w1.len]; simp)) ((s2.trans s3).repL r1)
  refine ⟨by rw [List.length_cons]; exact hn, _, Z, _, _, _, S2, w3, rl, e2, fun v H4 ρ4 w4 s4 r4 => ?_⟩
  cases r4
  refine ⟨rfl, ?_⟩
  have rx : Rep G (hid H4 (ρ4 ++ Z.z)) ρ4 (.ref x) (.mut S1.length) := .mut (s4.at _ _ (by rw [← w1.len]; simp))
  obtain ⟨w5, sm, r5⟩ := fin_ok w4 rx e
  have et : ρ4.take S1.length = ρ1 := by
    obtain ⟨y, ey⟩ := s4.pre
    rw [ey, ← w1.len, List.append_assoc, List.take_left']
    rfl
  rw [et] at w5 sm r5
  refine q _ H4 ρ1 w5 ⟨⟨[], by simp⟩, ((s2.trans s3).same.trans s4.same).trans sm, fun z m => (s4.zk z m).trans ((s2.trans s3).zk z m)⟩ r5
theorem snd_make {c : Str} {C : Addr} {n k : Nat} {F : MF} {dvs : List V} {dds : List Dv} {t : TA} {ma : MA} (hC : G.mg c = some (.ref C)) (hn : ∀ ev S ds S1, ma ev S = some (ds, S1) → ds.length = k) (hk : k + dds.length + 1 = n)
    (hd : ∀ h ρ, RepL G h ρ dvs dds) (h : SndA G t ma) : Snd G (tMake C (spM G n F) dvs E0 t) (mMake c F dds ma) := by
  intro σ H ρ Z ev S d S' Q w r e q
  obtain ⟨ds, S1, e1, e⟩ := bnd_eq e
  refine h σ H ρ Z ev S ds S1 _ w r e1 fun vs H1 ρ1 w1 s1 r1 x dx nx ndx ne => ?_
  refine new_ok hC ?_ w1 (r1.app (hd _ _)) e (fun v H' ρ' w' s' r' => q v H' ρ' w' (s1.trans s') r') x dx nx ndx ne
  rw [List.length_append, r1.length, hn _ _ _ _ e1, (hd (hid H1 (ρ1 ++ Z.z)) ρ1).length]
  exact hk
/-- through a local that holds the class -/
def mMakeL (i : Nat) (c : Str) (F : MF) (ma : MA) : ME := fun ev S => match ev[i]? with
  | some (some (.cls c2)) => if c2 = c then bnd (ma ev S) fun ds S1 => newO c F ds S1 else none
  | _ => none
theorem snd_makeL {i : Nat} {c : Str} {C : Addr} {n k : Nat} {F : MF} {t : TA} {ma : MA} (hC : G.mg c = some (.ref C)) (hn : ∀ ev S ds S1, ma ev S = some (ds, S1) → ds.length = k) (hk : k + 1 = n) (h : SndA G t ma) : Snd G (tMakeL i C (spM G n F) [] E0 t) (mMakeL i c F ma) := by
  intro σ H ρ Z ev S d S' Q w r e q
  unfold mMakeL at e
  split at e
  case h_2 => cases e
  rename_i c2 ea
  split at e
  case isFalse => cases e
  rename_i eC
  subst eC
  obtain ⟨v, h1, h2⟩ := r.at_ i _ ea
  cases h2 with
  | cls m =>
    rw [hC] at m
    cases m
    refine ⟨h1, ?_⟩
    have := snd_make (G := G) (c := c2) (C := C) (n := n) (k := k) (F := F) (dvs := []) (dds := []) hC hn (by simpa using hk) (fun _ _ => .nil) h
    refine this σ H ρ Z ev S d S' Q w r ?_ q
    unfold mMake
    simp only [List.append_nil]
    exact e

/-! ### types -/
inductive TyN where
  | ty (n : String) | own (c : Str)
  deriving DecidableEq
def tyD (S : Sto) : Dv → Option TyN
  | .non => some (.ty "NoneType")
  | .bl _ => some (.ty "bool")
  | .int _ => some (.ty "int")
  | .str _ => some (.ty "str")
  | .tup _ => some (.ty "tuple")
  | .lst _ => some (.ty "list")
  | .scr _ => some (.ty "list")
  | .dic _ => some (.ty "dict")
  | .obj c _ => some (.own c)
  | .mut l => match S[l]? with
    | some (.lst _) => some (.ty "list")
    | some (.dic _) => some (.ty "dict")
    | some (.ins c _) => some (.own c)
    | _ => none
  | _ => none
/-- what isinstance asks of an own class -/
structure TxQ (K : PySem.W.Frag) (C : Addr) : Prop where
  cl : Cls K C
  cls : PySem.W.findIn K (.ref C) "__class__" = some (some (.builtin "object.__class__"))
  get : PySem.W.specialIn K (.builtin "object.__class__") "__get__" = some (some (.builtin "getset_descriptor.__get__"))
  tak : PySem.W.takesIn K (.builtin "object.__class__") = some true
  obj : PySem.W.mroIn K C (.type "object") = some true
def ValN (G : Gc) : TyN → Value → Prop
  | .ty n, t => t = .type n
  | .own c, t => c ∈ classes ∧ ∃ C, G.mg c = some (.ref C) ∧ t = .ref C
def okN : TyN → Bool
  | .ty _ => true
  | .own c => classes.contains c
theorem tyx_tup {K : PySem.W.Frag} {H : Hp} {a : Addr} {xs : List V} (h : SqT K H a xs) : TyX K H (.ref a) (.type "tuple") := by
  rcases h with (h | ⟨o, h⟩) | ⟨o, its, n, h1, h2, _⟩
  · exact .base (.tup h)
  · exact .fTuple h
  · exact .kTuple h1 h2
theorem tyx_lst {K : PySem.W.Frag} {H : Hp} {a : Addr} {xs : List V} (h : SqL K H a xs) : TyX K H (.ref a) (.type "list") := by
  rcases h with (h | ⟨o, h⟩) | ⟨o, its, n, h1, h2, _⟩
  · exact .base (.lst h)
  · exact .base (.frz h)
  · exact .kList h1 h2
theorem tyx_of (w : Wo G H ρ Z S) (hq : AllC G (TxQ G.K)) {v : V} {d : Dv} {n : TyN} (r : Rep G (hid H (ρ ++ Z.z)) ρ v d) (e : tyD S d = some n) (ok : okN n = true) : ∃ t, TyX G.K H v t ∧ ValN G n t := by
  have ob : ∀ {c : Str} {fs : List (Str × Dv)}, asO S d = some (c, fs) → classes.contains c = true → ∃ t, TyX G.K H v t ∧ ValN G (.own c) t := fun {c fs} eo hc => by
    obtain ⟨a, C, dx, fv, rfl, h1, h2, h3⟩ := asO_ok w r eo
    have hm : c ∈ classes := by simpa using hc
    have Z := hq c hm C h1
    exact ⟨.ref C, .base (.ins h2 Z.cl Z.cls Z.get Z.tak Z.obj), hm, C, h1, rfl⟩
  cases d with
  | non => cases e; cases r; exact ⟨_, .base .non, rfl⟩
  | bl b => cases e; cases r; exact ⟨_, .base (.bl b), rfl⟩
  | int b => cases e; cases r; exact ⟨_, .base (.int b), rfl⟩
  | str b => cases e; cases r; exact ⟨_, .base (.str b), rfl⟩
  | tup ds =>
    cases e
    cases r
    rename_i a vs h1 h2
    exact ⟨_, tyx_tup (sqt_same hid_le h1), rfl⟩
  | lst ds =>
    cases e
    cases r
    rename_i a vs h1 h2
    exact ⟨_, .base (.lst (hid_le _ _ h1)), rfl⟩
  | scr ds =>
    cases e
    cases r
    rename_i a vs h1 h2
    exact ⟨_, tyx_lst (Same.seq hid_le h1), rfl⟩
  | dic ds =>
    cases e
    cases r
    rename_i a kvs h1 h2 h3
    rcases h1 with h1 | ⟨o, h1⟩
    · exact ⟨_, .base (.dK (hid_le _ _ h1)), rfl⟩
    · exact ⟨_, .fDict (hid_le _ _ h1), rfl⟩
  | obj c fs =>
    cases e
    exact ob (fs := fs) rfl ok
  | «mut» l =>
    simp only [tyD] at e
    split at e
    · rename_i ds e2
      cases e
      cases r
      rename_i a ha
      obtain ⟨vs, h1, _⟩ := cellL w ha e2
      exact ⟨_, .base (.lst h1), rfl⟩
    · rename_i ds e2
      cases e
      cases r
      rename_i a ha
      obtain ⟨vs, h1, _⟩ := cellD w ha e2
      exact ⟨_, .base (.dK h1), rfl⟩
    · rename_i c fs e2
      cases e
      exact ob (c := c) (fs := fs) (by simp only [asO, e2]) ok
    · cases e
  | _ => cases e
/-- the built-in classes of values -/
def bts : List String := ["NoneType", "bool", "int", "str", "tuple", "list", "dict"]
def isiB (T : String) (m : String) : Option Bool := if bts.contains T && bts.contains m then some (m == T || (m == "bool" && T == "int")) else none
theorem isiB_ok : ∀ T ∈ bts, ∀ m ∈ bts, kitB m T = isiB T m := by
  intro T hT m hm
  have key : (bts.all fun T => bts.all fun m => kitB m T == isiB T m) = true := by decide +kernel
  have h1 := List.all_eq_true.mp (List.all_eq_true.mp key T hT) m hm
  exact eq_of_beq h1
/-- isinstance(x, T), T a built-in class -/
def isiT (T : String) : TyN → Option Bool
  | .ty m => isiB T m
  | .own c => if classes.contains c && bts.contains T then some false else none
/-- isinstance(x, C) -/
def isiC (c0 : Str) : TyN → Option Bool
  | .ty m => if bts.contains m then some false else none
  | .own c => if classes.contains c then some (decide (c = c0)) else none
def mIsi (tab : TyN → Option Bool) (ma mt : ME) : ME := fun ev S => bnd (ma ev S) fun d S1 => bnd (mt ev S1) fun _ S2 => match tyD S2 d with
  | some n => match tab n with
    | some b => some (.bl b, S2)
    | none => none
  | none => none
theorem call_isiK2 {X : Cx} (K : PySem.W.Frag) (hK : X.K = K) : CallR X (.builtin "isinstance") (rIsi K) := by subst hK; exact call_isi
theorem snd_isiG {tab : TyN → Option Bool} {ta tt : TE} {ma mt : ME} {c : V} {u : Value} {dc : Dv} (hu : ClsV c u) (hq : AllC G (TxQ G.K)) (ht : ∀ n t b, ValN G n t → tab n = some b → PySem.W.kitOne G.K t u = some b) (hok : ∀ n b, tab n = some b → okN n = true)
    (ha : Snd G ta ma) (hT : Snd G tt mt) (hm : ∀ ev S d S1, mt ev S = some (d, S1) → d = dc) (hc : ∀ h ρ v, Rep G h ρ v dc → v = c) : Snd G (tCB (rIsi G.K) (tCons ta (tCons tt tNil))) (mIsi tab ma mt) := by
  intro σ H ρ Z ev S d S' Q w r e q
  obtain ⟨x, S1, e1, e⟩ := bnd_eq e
  obtain ⟨y, S2, e2, e⟩ := bnd_eq e
  split at e
  case h_2 => cases e
  rename_i n e3
  split at e
  case h_2 => cases e
  rename_i b e4
  cases e
  refine ha σ H ρ Z ev S x S1 _ w r e1 fun v H1 ρ1 w1 s1 r1 => ?_
  refine hT σ H1 ρ1 Z ev S1 y S' _ w1 (r.stp s1) e2 fun v2 H2 ρ2 w2 s2 r2 => ?_
  have ey := hm _ _ _ _ e2
  subst ey
  have ec := hc _ _ _ r2
  subst ec
  obtain ⟨t, h1, h2⟩ := tyx_of w2 hq (s2.rep r1) e3 (hok n b e4)
  exact ⟨v, v2, t, u, b, rfl, hu, h1, ht n t b h2 e4, q _ H2 ρ2 w2 (s1.trans s2) (.bl _)⟩
/-- what isinstance of an own object and a built-in class is -/
def NoBt (G : Gc) : Prop := AllC G fun C => ∀ T ∈ bts, PySem.W.kitOne G.K (.ref C) (.type T) = some false
theorem snd_isiT {T : String} {ta : TE} {ma : ME} (hq : AllC G (TxQ G.K)) (hb : NoBt G) (ha : Snd G ta ma) : Snd G (tCB (rIsi G.K) (tCons ta (tCons (tC (.ty T)) tNil))) (mIsi (isiT T) ma (mC (.ty T))) := by
  refine snd_isiG (c := .ty T) (u := .type T) (dc := .ty T) (.ty T) hq ?_ ?_ ha snd_ty (fun ev S d S1 e => by cases e; rfl) (fun h ρ v r => by cases r; rfl)
  · intro n t b hn e
    cases n with
    | ty m =>
      cases hn
      have e' := e
      simp only [isiT, isiB] at e
      split at e
      · rename_i hin
        rw [Bool.and_eq_true] at hin
        exact kit_ty (by rw [isiB_ok T (by simpa using hin.1) m (by simpa using hin.2)]; exact e')
      · cases e
    | own c =>
      obtain ⟨hm, C, h1, rfl⟩ := hn
      simp only [isiT] at e
      split at e
      · rename_i hin
        rw [Bool.and_eq_true] at hin
        cases e
        exact hb c hm C h1 T (by simpa using hin.2)
      · cases e
  · intro n b e
    cases n with
    | ty m => rfl
    | own c =>
      simp only [isiT] at e
      split at e
      · rename_i hin
        rw [Bool.and_eq_true] at hin
        exact hin.1
      · cases e
/-- .. and of any value and an own class -/
structure IsC (G : Gc) (c0 : Str) (C0 : Addr) : Prop where
  at_ : G.mg c0 = some (.ref C0)
  bt : ∀ T ∈ bts, PySem.W.kitOne G.K (.type T) (.ref C0) = some false
  own : ∀ c ∈ classes, ∀ C, G.mg c = some (.ref C) → PySem.W.kitOne G.K (.ref C) (.ref C0) = some (decide (c = c0))
theorem snd_isiC {c0 : Str} {C0 : Addr} {ta : TE} {ma : ME} (hq : AllC G (TxQ G.K)) (hc : IsC G c0 C0) (ha : Snd G ta ma) : Snd G (tCB (rIsi G.K) (tCons ta (tCons (tC (.ref C0)) tNil))) (mIsi (isiC c0) ma (mC .non)) := by
  intro σ H ρ Z ev S d S' Q w r e q
  have := snd_isiG (G := G) (tab := isiC c0) (ta := ta) (tt := tC (.ref C0)) (ma := ma) (mt := mC (.adr C0)) (c := .ref C0) (u := .ref C0) (dc := .adr C0) (.own C0) hq ?_ ?_ ha snd_adr (fun ev S d S1 e => by cases e; rfl) (fun h ρ v r => by cases r; rfl)
  · exact this σ H ρ Z ev S d S' Q w r e q
  · intro n t b hn e
    cases n with
    | ty m =>
      cases hn
      simp only [isiC] at e
      split at e
      · rename_i hin
        cases e
        exact hc.bt m (by simpa using hin)
      · cases e
    | own c =>
      obtain ⟨hm, C, h1, rfl⟩ := hn
      simp only [isiC] at e
      split at e
      · rename_i hin
        cases e
        exact hc.own c hm C h1
      · cases e
  · intro n b e
    cases n with
    | ty m => rfl
    | own c =>
      simp only [isiC] at e
      split at e
      · rename_i hin
        exact hin
      · cases e

/-! ### own methods that the language calls -/
/-- x in o, by the def of o's class -/
def mOwnIn (c : Str) (neg : Bool) (F : MF) (ma mo : ME) : ME := fun ev S => bnd (ma ev S) fun x S1 => bnd (mo ev S1) fun o S2 => match asO S2 o with
  | some (c2, _) => if c2 = c then (match F [o, x] S2 with
    | some (.bl b, S3) => some (.bl (if neg then !b else b), S3)
    | _ => none) else none
  | none => none
theorem snd_ownIn {c : Str} {C : Addr} {neg : Bool} {F : MF} {g : Bool → Bool} {ta to : TE} {ma mo : ME} (hC : G.mg c = some (.ref C)) (hg : g = fun b => if neg then !b else b) (ha : Snd G ta ma) (ho : Snd G to mo) : Snd G (tOp (rInOwn C (spM G 2 F) g) ta to) (mOwnIn c neg F ma mo) := by
  intro σ H ρ Z ev S d S' Q w r e q
  subst hg
  obtain ⟨x, S1, e1, e⟩ := bnd_eq e
  obtain ⟨o, S2, e2, e⟩ := bnd_eq e
  split at e
  case h_2 => cases e
  rename_i c2 fs e3
  split at e
  case isFalse => cases e
  rename_i hcm
  split at e
  case h_2 => cases e
  rename_i b S3 e4
  cases e
  refine ha σ H ρ Z ev S x S1 _ w r e1 fun v H1 ρ1 w1 s1 r1 => ?_
  refine ho σ H1 ρ1 Z ev S1 o S2 _ w1 (r.stp s1) e2 fun u H2 ρ2 w2 s2 r2 => ?_
  obtain ⟨a, C2, dx, fv, rfl, h1, h2, h3⟩ := asO_ok w2 r2 e3
  rw [hcm, hC] at h1
  cases h1
  refine ⟨a, dx, fv, rfl, h2, rfl, ρ2, Z, S2, _, _, S', w2, .cons r2 (.cons (s2.rep r1) .nil), e4, fun y H3 ρ3 w3 s3 r3 => ?_⟩
  cases r3
  exact ⟨b, rfl, q _ H3 ρ3 w3 ((s1.trans s2).trans s3) (.bl _)⟩
/-- o == x, o != x -/
def mOwnEq (c : Str) (neg : Bool) (F : MF) (mo mx : ME) : ME := fun ev S => bnd (mo ev S) fun o S1 => bnd (mx ev S1) fun x S2 => match asO S2 o, tyD S2 x with
  | some (c2, _), some n => if c2 = c ∧ okN n = true then (match F [o, x] S2 with
    | some (.bl b, S3) => some (.bl (if neg then !b else b), S3)
    | _ => none) else none
  | _, _ => none
def FirstC (G : Gc) (C : Addr) : Prop := ∀ n t, okN n = true → ValN G n t → (match n with | .ty m => m ∈ bts | _ => True) → PySem.W.notFirst G.K C t = true
theorem tyD_bts {d : Dv} {m : String} (e : tyD S d = some (.ty m)) : m ∈ bts := by
  cases d <;> simp only [tyD] at e <;> try (cases e <;> decide)
  split at e <;> cases e <;> decide
theorem op_eqOwnK {X : Cx} {k : Nat} {f C : Addr} {fd : FuncData} {ps : List Str} {sp : Sp} (K : PySem.W.Frag) (hK : X.K = K) (hu : X.A.units + 64 < cLine) (hs : SpM X.K C "__eq__" f) (F : FnOk X.prog X.w X.K X.mg X.base CX0 k f fd ps sp) (hr : Room k X.A) (hb : Binds X.K fd ps []) : OpR X (compareOp .Eq) (rEqOwn K C sp fun b => b) := by
  subst hK
  exact op_eqOwn hu hs F hr hb
theorem op_neOwnK {X : Cx} {k : Nat} {f C : Addr} {fd : FuncData} {ps : List Str} {sp : Sp} (K : PySem.W.Frag) (hK : X.K = K) (hu : X.A.units + 64 < cLine) (hs : SpM X.K C "__eq__" f) (hn : NeM X.K C) (F : FnOk X.prog X.w X.K X.mg X.base CX0 k f fd ps sp) (hr : Room (k + 1) X.A) (hb : Binds X.K fd ps []) : OpR X (compareOp .NotEq) (rEqOwn K C sp fun b => !b) := by
  subst hK
  exact op_neOwn hu hs hn F hr hb
theorem snd_ownEq {c : Str} {C : Addr} {neg : Bool} {F : MF} {g : Bool → Bool} {to tx : TE} {mo mx : ME} (hC : G.mg c = some (.ref C)) (hg : g = fun b => if neg then !b else b) (hq : AllC G (TxQ G.K)) (hf : FirstC G C) (ho : Snd G to mo) (hx : Snd G tx mx) :
    Snd G (tOp (rEqOwn G.K C (spM G 2 F) g) to tx) (mOwnEq c neg F mo mx) := by
  intro σ H ρ Z ev S d S' Q w r e q
  subst hg
  obtain ⟨o, S1, e1, e⟩ := bnd_eq e
  obtain ⟨x, S2, e2, e⟩ := bnd_eq e
  split at e
  case h_2 => cases e
  rename_i c2 fs n e3 e5
  split at e
  case isFalse => cases e
  rename_i hcm
  split at e
  case h_2 => cases e
  rename_i b S3 e4
  cases e
  refine ho σ H ρ Z ev S o S1 _ w r e1 fun v H1 ρ1 w1 s1 r1 => ?_
  refine hx σ H1 ρ1 Z ev S1 x S2 _ w1 (r.stp s1) e2 fun u H2 ρ2 w2 s2 r2 => ?_
  have rv := s2.rep r1
  obtain ⟨a, C2, dx, fv, rfl, h1, h2, h3⟩ := asO_ok w2 rv e3
  rw [hcm.1, hC] at h1
  cases h1
  obtain ⟨t, t1, t2⟩ := tyx_of w2 hq r2 e5 hcm.2
  refine ⟨a, dx, fv, t, rfl, h2, t1, hf n t hcm.2 t2 (by cases n with | ty m => exact tyD_bts e5 | own c => exact True.intro), rfl, ρ2, Z, S2, _, _, S', w2, .cons rv (.cons r2 .nil), e4, fun y H3 ρ3 w3 s3 r3 => ?_⟩
  cases r3
  exact ⟨b, rfl, q _ H3 ρ3 w3 ((s1.trans s2).trans s3) (.bl _)⟩
/-- x == o, x of a class of the language -/
def reflK (S : Sto) : Dv → Bool
  | .non => true
  | .int _ => true
  | .str _ => true
  | .tup _ => true
  | .dic _ => true
  | d => (asS S d).isSome
def mEqRef (c : Str) (F : MF) (mx mo : ME) : ME := fun ev S => bnd (mx ev S) fun x S1 => bnd (mo ev S1) fun o S2 => match asO S2 o with
  | some (c2, _) => if c2 = c ∧ reflK S2 x = true then (match F [o, x] S2 with
    | some (.bl b, S3) => some (.bl b, S3)
    | _ => none) else none
  | none => none
theorem op_eqReflK {X : Cx} {k : Nat} {f C : Addr} {fd : FuncData} {ps : List Str} {sp : Sp} (K : PySem.W.Frag) (hK : X.K = K) (hu : X.A.units + 64 < cLine) (nsub : NoSub X.K C) (hs : SpM X.K C "__eq__" f) (F : FnOk X.prog X.w X.K X.mg X.base CX0 k f fd ps sp) (hr : Room k X.A) (hb : Binds X.K fd ps []) : OpR X (compareOp .Eq) (rEqRefl K C sp) := by
  subst hK
  exact op_eqRefl hu nsub hs F hr hb
theorem snd_eqRef {c : Str} {C : Addr} {F : MF} {to tx : TE} {mo mx : ME} (hC : G.mg c = some (.ref C)) (hx : Snd G tx mx) (ho : Snd G to mo) : Snd G (tOp (rEqRefl G.K C (spM G 2 F)) tx to) (mEqRef c F mx mo) := by
  intro σ H ρ Z ev S d S' Q w r e q
  obtain ⟨x, S1, e1, e⟩ := bnd_eq e
  obtain ⟨o, S2, e2, e⟩ := bnd_eq e
  split at e
  case h_2 => cases e
  rename_i c2 fs e3
  split at e
  case isFalse => cases e
  rename_i hcm
  split at e
  case h_2 => cases e
  rename_i b S3 e4
  cases e
  refine hx σ H ρ Z ev S x S1 _ w r e1 fun v H1 ρ1 w1 s1 r1 => ?_
  refine ho σ H1 ρ1 Z ev S1 o S2 _ w1 (r.stp s1) e2 fun u H2 ρ2 w2 s2 r2 => ?_
  have rv := s2.rep r1
  obtain ⟨a, C2, dx, fv, rfl, h1, h2, h3⟩ := asO_ok w2 r2 e3
  rw [hcm.1, hC] at h1
  cases h1
  refine ⟨a, dx, fv, rfl, h2, ?_, rfl, ρ2, Z, S2, _, _, S', w2, .cons r2 (.cons rv .nil), e4, fun y H3 ρ3 w3 s3 r3 => ?_⟩
  · have gen : (asS S2 x).isSome = true → v = .non ∨ (∃ i, v = .int i) ∨ (∃ z, v = .str z) ∨ (∃ l xs, v = .ref l ∧ SqL G.K H2 l xs) ∨ (∃ l xs, v = .ref l ∧ SqT G.K H2 l xs) ∨ (∃ l kvs, v = .ref l ∧ Rd H2 l (.dK kvs)) := fun h => by
      obtain ⟨ds, eds⟩ := Option.isSome_iff_exists.mp h
      obtain ⟨l, vs, rfl, h4, h5⟩ := asS_ok w2 rv eds
      exact .inr (.inr (.inr (.inl ⟨l, vs, rfl, h4⟩)))
    cases x with
    | non => cases rv; exact .inl rfl
    | int i => cases rv; exact .inr (.inl ⟨_, rfl⟩)
    | str i => cases rv; exact .inr (.inr (.inl ⟨_, rfl⟩))
    | tup ds => cases rv; rename_i l vs h4 h5; exact .inr (.inr (.inr (.inr (.inl ⟨l, vs, rfl, sqt_same hid_le h4⟩))))
    | dic ds => cases rv; rename_i l kvs h4 h5 h6; exact .inr (.inr (.inr (.inr (.inr ⟨l, kvs, rfl, (Sm.of hid_le).rd h4⟩))))
    | _ => exact gen hcm.2
  · cases r3
    exact ⟨b, rfl, q _ H3 ρ3 w3 ((s1.trans s2).trans s3) (.bl _)⟩
/-- len(o), bool(o), str(o) -/
def mLenO (c : Str) (F : MF) (g : Nat → Dv) (mo : ME) : ME := fun ev S => bnd (mo ev S) fun o S1 => match asO S1 o with
  | some (c2, _) => if c2 = c then (match F [o] S1 with
    | some (.int n, S2) => if 0 ≤ n ∧ n.toNat < 2 ^ 63 then some (g n.toNat, S2) else none
    | _ => none) else none
  | none => none
def mStrO (c : Str) (F : MF) (mo : ME) : ME := fun ev S => bnd (mo ev S) fun o S1 => match asO S1 o with
  | some (c2, _) => if c2 = c then (match F [o] S1 with
    | some (.str z, S2) => some (.str z, S2)
    | _ => none) else none
  | none => none
theorem own1 {c : Str} {C : Addr} {F : MF} {to : TE} {mo : ME} {σ : L2.St} {H : Hp} {ρ : List Addr} {Z : Fm} {ev : Ev} {S S1 S2 : Sto} {o d : Dv} {fs : List (Str × Dv)} {R : V → Hp → Prop} {Q : V → Hp → Prop} (hC : G.mg c = some (.ref C)) (ho : Snd G to mo) (w : Wo G H ρ Z S) (r : EvR G (hid H (ρ ++ Z.z)) ρ σ ev)
    (e1 : mo ev S = some (o, S1)) (e3 : asO S1 o = some (c, fs)) (e4 : F [o] S1 = some (d, S2)) (q : ∀ y H3 ρ3, Wo G H3 ρ3 Z S2 → Stp H ρ Z H3 ρ3 → Rep G (hid H3 (ρ3 ++ Z.z)) ρ3 y d → Q y H3)
    (k : ∀ a dx fv H1, H1 a = some (.ins C dx fv) → spM G 1 F [.ref a] H1 Q E0 → R (.ref a) H1) : to σ H R := by
  refine ho σ H ρ Z ev S o S1 _ w r e1 fun v H1 ρ1 w1 s1 r1 => ?_
  obtain ⟨a, C2, dx, fv, rfl, h1, h2, h3⟩ := asO_ok w1 r1 e3
  rw [hC] at h1
  cases h1
  exact k a dx fv H1 h2 ⟨rfl, ρ1, Z, S1, _, _, S2, w1, .cons r1 .nil, e4, fun y H3 ρ3 w3 s3 r3 => q y H3 ρ3 w3 (s1.trans s3) r3⟩
theorem snd_lenO {c : Str} {C : Addr} {F : MF} {to : TE} {mo : ME} (hC : G.mg c = some (.ref C)) (ho : Snd G to mo) : Snd G (tCB (rLenOwn C (spM G 1 F)) (tCons to tNil)) (mLenO c F (fun n => .int (n : Nat)) mo) := by
  intro σ H ρ Z ev S d S' Q w r e q
  obtain ⟨o, S1, e1, e⟩ := bnd_eq e
  split at e
  case h_2 => cases e
  rename_i c2 fs e3
  split at e
  case isFalse => cases e
  rename_i hcm
  have e3' : asO S1 o = some (c, fs) := by rw [e3, hcm]
  split at e
  case h_2 => cases e
  rename_i n S2 e4
  split at e
  case isFalse => cases e
  rename_i hn
  cases e
  show to σ H (fun x H1 => rLenOwn C (spM G 1 F) [x] H1 Q)
  refine own1 hC ho w r e1 e3' e4 (Q := fun v H' => ∃ n : Nat, v = .int (n : Nat) ∧ n < 2 ^ 63 ∧ Q (.int (n : Nat)) H') (fun y H3 ρ3 w3 s3 r3 => ?_) (fun a dx fv H1 h2 sp => ⟨a, dx, fv, rfl, h2, sp⟩)
  cases r3
  exact ⟨n.toNat, by rw [Int.toNat_of_nonneg hn.1], by omega, q _ H3 ρ3 w3 s3 (.int _)⟩
theorem snd_boolO {c : Str} {C : Addr} {F : MF} {to : TE} {mo : ME} (hC : G.mg c = some (.ref C)) (ho : Snd G to mo) : Snd G (tCB (rBoolOwn C (spM G 1 F)) (tCons to tNil)) (mLenO c F (fun n => .bl (decide (n ≠ 0))) mo) := by
  intro σ H ρ Z ev S d S' Q w r e q
  obtain ⟨o, S1, e1, e⟩ := bnd_eq e
  split at e
  case h_2 => cases e
  rename_i c2 fs e3
  split at e
  case isFalse => cases e
  rename_i hcm
  have e3' : asO S1 o = some (c, fs) := by rw [e3, hcm]
  split at e
  case h_2 => cases e
  rename_i n S2 e4
  split at e
  case isFalse => cases e
  rename_i hn
  cases e
  show to σ H (fun x H1 => rBoolOwn C (spM G 1 F) [x] H1 Q)
  refine own1 hC ho w r e1 e3' e4 (Q := fun v H' => ∃ n : Nat, v = .int (n : Nat) ∧ n < 2 ^ 63 ∧ Q (.bl (decide (n ≠ 0))) H') (fun y H3 ρ3 w3 s3 r3 => ?_) (fun a dx fv H1 h2 sp => ⟨a, dx, fv, rfl, h2, sp⟩)
  cases r3
  exact ⟨n.toNat, by rw [Int.toNat_of_nonneg hn.1], by omega, q _ H3 ρ3 w3 s3 (.bl _)⟩
theorem snd_strO {c : Str} {C : Addr} {F : MF} {to : TE} {mo : ME} (hC : G.mg c = some (.ref C)) (ho : Snd G to mo) : Snd G (tCB (rStrOwn C (spM G 1 F)) (tCons to tNil)) (mStrO c F mo) := by
  intro σ H ρ Z ev S d S' Q w r e q
  obtain ⟨o, S1, e1, e⟩ := bnd_eq e
  split at e
  case h_2 => cases e
  rename_i c2 fs e3
  split at e
  case isFalse => cases e
  rename_i hcm
  have e3' : asO S1 o = some (c, fs) := by rw [e3, hcm]
  split at e
  case h_2 => cases e
  rename_i z S2 e4
  cases e
  show to σ H (fun x H1 => rStrOwn C (spM G 1 F) [x] H1 Q)
  refine own1 hC ho w r e1 e3' e4 (Q := fun v H' => ∃ z, v = .str z ∧ Q (.str z) H') (fun y H3 ρ3 w3 s3 r3 => ?_) (fun a dx fv H1 h2 sp => ⟨a, dx, fv, rfl, h2, sp⟩)
  cases r3
  exact ⟨z, rfl, q _ H3 ρ3 w3 s3 (.str _)⟩

/-! ### by keywords -/
/-- the arguments, in the order of the parameters -/
abbrev MP := List Dv → List Dv → List Dv
structure PermG (G : Gc) (gV : List V → List V → List V) (p : MP) : Prop where
  rep : ∀ {h : Hp} {ρ : List Addr} {vs zs : List V} {ds es : List Dv}, RepL G h ρ vs ds → RepL G h ρ zs es → RepL G h ρ (gV vs zs) (p ds es)
def mMethK (c m : Str) (F : MF) (p : MP) (mo : ME) (mk : MA) : ME := fun ev S => bnd (mo ev S) fun o S1 => match asO S1 o with
  | some (c2, fs) => if c2 = c ∧ (lookD fs m).isNone = true then bnd (mk ev S1) fun ds S2 => F (p [o] ds) S2 else none
  | none => none
theorem snd_methK {c m : Str} {C : Addr} {n k : Nat} {F : MF} {gV : List V → List V → List V} {p : MP} {to : TE} {tk : TA} {mo : ME} {mk : MA} (hC : G.mg c = some (.ref C)) (hn : ∀ ev S ds S1, mk ev S = some (ds, S1) → ds.length = k) (hp : PermG G gV p) (hl : ∀ a zs, zs.length = k → (gV [a] zs).length = n)
    (ho : Snd G to mo) (h : SndA G tk mk) : Snd G (tMethK C m k (spM G n F) gV E0 to tk) (mMethK c m F p mo mk) := by
  intro σ H ρ Z ev S d S' Q w r e q
  obtain ⟨o, S1, e1, e⟩ := bnd_eq e
  split at e
  case h_2 => cases e
  rename_i c2 fs e2
  split at e
  case isFalse => cases e
  rename_i hcm
  obtain ⟨ds, S2, e3, e⟩ := bnd_eq e
  refine ho σ H ρ Z ev S o S1 _ w r e1 fun v H1 ρ1 w1 s1 r1 => ?_
  obtain ⟨a, C2, dx, fv, rfl, h1, h2, h3⟩ := asO_ok w1 r1 e2
  rw [hcm.1, hC] at h1
  cases h1
  refine ⟨a, dx, fv, rfl, h2, (frep_look h3).2 (by simpa using hcm.2), ?_⟩
  refine h σ H1 ρ1 Z ev S1 ds S2 _ w1 (r.stp s1) e3 fun vs H2 ρ2 w2 s2 r2 => ?_
  have lv : vs.length = k := by rw [r2.length, hn _ _ _ _ e3]
  exact ⟨lv, hl _ _ lv, ρ2, Z, S2, _, d, S', w2, hp.rep (.cons (s2.rep r1) .nil) r2, e, fun u H3 ρ3 w3 s3 r3 => q u H3 ρ3 w3 ((s1.trans s2).trans s3) r3⟩
def mMakeK (c : Str) (F : MF) (p : MP) (mk : MA) : ME := fun ev S => bnd (mk ev S) fun es S1 => match F (p [.mut S1.length] es) (S1 ++ [.ins c []]) with
  | some (.non, S2) => fin S1.length S2 (.mut S1.length)
  | _ => none
theorem snd_makeK {c : Str} {C : Addr} {n k : Nat} {F : MF} {gV : List V → List V → List V} {p : MP} {tk : TA} {mk : MA} (hC : G.mg c = some (.ref C)) (hn : ∀ ev S ds S1, mk ev S = some (ds, S1) → ds.length = k) (hp : PermG G gV p) (hl : ∀ a zs, zs.length = k → (gV [a] zs).length = n)
    (h : SndA G tk mk) : Snd G (tMakeK C 0 k (spM G n F) gV E0 tNil tk) (mMakeK c F p mk) := by
  intro σ H ρ Z ev S d S' Q w r e q
  obtain ⟨es, S1, e1, e⟩ := bnd_eq e
  show tk σ H _
  refine h σ H ρ Z ev S es S1 _ w r e1 fun vs H1 ρ1 w1 s1 r1 => ?_
  have lv : vs.length = k := by rw [r1.length, hn _ _ _ _ e1]
  refine ⟨rfl, lv, fun x dx nx ndx ne => ?_⟩
  split at e
  case h_2 => cases e
  rename_i S2 e2
  obtain ⟨w2, s2, _⟩ := w1.new (o := .own x) ndx
  have nx2 : (upd H1 dx (.own x)) x = none := by rw [upd_ne ne.symm]; exact nx
  obtain ⟨w3, s3⟩ := w2.newL (o := .ins C dx []) (m := .ins c []) nx2 ⟨hC, rfl, .nil⟩
  have rl := hp.rep (vs := [.ref x]) (ds := [.mut S1.length]) (.cons (.mut (by rw [← w1.len]; simp)) .nil) ((s2.trans s3).repL r1)
  refine ⟨hl _ _ lv, _, Z, _, _, _, S2, w3, rl, e2, fun v H4 ρ4 w4 s4 r4 => ?_⟩
  cases r4
  refine ⟨rfl, ?_⟩
  have rx : Rep G (hid H4 (ρ4 ++ Z.z)) ρ4 (.ref x) (.mut S1.length) := .mut (s4.at _ _ (by rw [← w1.len]; simp))
  obtain ⟨w5, sm, r5⟩ := fin_ok w4 rx e
  have et : ρ4.take S1.length = ρ1 := by
    obtain ⟨y, ey⟩ := s4.pre
    rw [ey, ← w1.len, List.append_assoc, List.take_left']
    rfl
  rw [et] at w5 sm r5
  exact q _ H4 ρ1 w5 ⟨s1.pre, s1.same.trans (((s2.trans s3).same.trans s4.same).trans sm), fun z m => ((s4.zk z m).trans ((s2.trans s3).zk z m)).trans (s1.zk z m)⟩ r5
/-- a class's own method, by position, by keyword -/
def mCMeth (c : Str) (F : MF) (ma : MA) : ME := fun ev S => bnd (ma ev S) fun ds S1 => F (.cls c :: ds) S1
theorem snd_cmeth {c : Str} {C : Addr} {n k : Nat} {F : MF} {t : TA} {ma : MA} (hC : G.mg c = some (.ref C)) (hn : ∀ ev S ds S1, ma ev S = some (ds, S1) → ds.length = k) (hk : k + 1 = n) (h : SndA G t ma) : Snd G (ClX.tCMeth C (spM G n F) E0 (tC (.ref C)) t) (mCMeth c F ma) := by
  intro σ H ρ Z ev S d S' Q w r e q
  obtain ⟨ds, S1, e1, e⟩ := bnd_eq e
  refine ⟨rfl, h σ H ρ Z ev S ds S1 _ w r e1 fun vs H1 ρ1 w1 s1 r1 => ?_⟩
  exact ⟨by rw [List.length_cons, r1.length, hn _ _ _ _ e1]; exact hk, ρ1, Z, S1, _, d, S', w1, .cons (.cls hC) r1, e, fun u H3 ρ3 w3 s3 r3 => q u H3 ρ3 w3 (s1.trans s3) r3⟩
def mCMethK (c : Str) (F : MF) (p : MP) (mk : MA) : ME := fun ev S => bnd (mk ev S) fun ds S1 => F (p [.cls c] ds) S1
theorem snd_cmethK {c : Str} {C : Addr} {n k : Nat} {F : MF} {gV : List V → List V → List V} {p : MP} {tk : TA} {mk : MA} (hC : G.mg c = some (.ref C)) (hn : ∀ ev S ds S1, mk ev S = some (ds, S1) → ds.length = k) (hp : PermG G gV p) (hl : ∀ a zs, zs.length = k → (gV [a] zs).length = n) (h : SndA G tk mk) :
    Snd G (tCMethK C k (spM G n F) gV E0 (tC (.ref C)) tk) (mCMethK c F p mk) := by
  intro σ H ρ Z ev S d S' Q w r e q
  obtain ⟨ds, S1, e1, e⟩ := bnd_eq e
  refine ⟨rfl, h σ H ρ Z ev S ds S1 _ w r e1 fun vs H1 ρ1 w1 s1 r1 => ?_⟩
  have lv : vs.length = k := by rw [r1.length, hn _ _ _ _ e1]
  exact ⟨lv, hl _ _ lv, ρ1, Z, S1, _, d, S', w1, hp.rep (.cons (.cls hC) .nil) r1, e, fun u H3 ρ3 w3 s3 r3 => q u H3 ρ3 w3 (s1.trans s3) r3⟩
end
end Mi

set_option Elab.async false
set_option linter.all false
set_option maxRecDepth 100000
set_option maxHeartbeats 4000000
/-! Functions beside the readings: dicts made and changed; binding; the end. -/
namespace Mi
open PySem PySem.Spec PyProof.Rows L2 Sw
section
variable {G : Gc} {H H' : Hp} {ρ ρ' : List Addr} {Z : Fm} {S : Sto}
/-! ### a dict, written -/
def mergeD (ds more : List (Key × Dv)) : List (Key × Dv) := more.foldl (fun acc kv => putD acc kv.1 kv.2) ds
theorem krep_merge {h : Hp} : ∀ {lvs : List (Key × V)} {es : List (Key × Dv)} {kvs : List (Key × V)} {ds : List (Key × Dv)}, KRep G h ρ kvs ds → KRep G h ρ lvs es → KRep G h ρ (mergeK kvs lvs) (mergeD ds es)
  | [], [], kvs, ds, r, _ => r
  | [], _ :: _, _, _, _, r => by have := r.1; simp at this
  | _ :: _, [], _, _, _, r => by have := r.1; simp at this
  | (k1, v1) :: lvs, (k2, d2) :: es, kvs, ds, r, q => by
    obtain ⟨h1, h2, h3⟩ := krep_inv q
    simp only at h1
    subst h1
    show KRep G h ρ (mergeK (putK kvs k1 v1) lvs) (mergeD (putD ds k1 d2) es)
    exact krep_merge (krep_put h2 r) h3
def mPairs : List (ME × ME) → Ev → Sto → Option (List (Key × Dv) × Sto)
  | [], _, S => some ([], S)
  | (mk, mv) :: r, ev, S => bnd (mk ev S) fun k S1 => bnd (mv ev S1) fun v S2 => match keyOf k with
    | some y => bnd (mPairs r ev S2) fun ps S3 => some ((y, v) :: ps, S3)
    | none => none
def SndPs (G : Gc) : List (TE × TE) → List (ME × ME) → Prop
  | [], [] => True
  | (tk, tv) :: r, (mk, mv) :: s => Snd G tk mk ∧ Snd G tv mv ∧ SndPs G r s
  | _, _ => False
theorem pairs_ok : ∀ {trs : List (TE × TE)} {ms : List (ME × ME)}, SndPs G trs ms → ∀ (σ : L2.St) (H : Hp) (ρ : List Addr) (Z : Fm) (ev : Ev) (S : Sto) (kds : List (Key × Dv)) (S' : Sto) (Q : List (V × V) → Hp → Prop), Wo G H ρ Z S → EvR G (hid H (ρ ++ Z.z)) ρ σ ev → mPairs ms ev S = some (kds, S') →
    (∀ kvs H' ρ', Wo G H' ρ' Z S' → Stp H ρ Z H' ρ' → KRep G (hid H' (ρ' ++ Z.z)) ρ' kvs kds → Q (kvs.map fun kv => (kV kv.1, kv.2)) H') → tPairs trs σ H Q
  | [], [], _, σ, H, ρ, Z, ev, S, kds, S', Q, w, r, e, q => by cases e; exact q [] H ρ w .refl krep_nil
  | [], _ :: _, h, _, _, _, _, _, _, _, _, _, _, _, _, _ => h.elim
  | _ :: _, [], h, _, _, _, _, _, _, _, _, _, _, _, _, _ => h.elim
  | (tk, tv) :: trs, (mk, mv) :: ms, h, σ, H, ρ, Z, ev, S, kds, S', Q, w, r, e, q => by
    obtain ⟨k, S1, e1, e⟩ := bnd_eq e
    obtain ⟨v, S2, e2, e⟩ := bnd_eq e
    split at e
    case h_2 => cases e
    rename_i y ey
    obtain ⟨ps, S3, e3, e⟩ := bnd_eq e
    cases e
    refine h.1 σ H ρ Z ev S k S1 _ w r e1 fun vk H1 ρ1 w1 s1 r1 => ?_
    refine h.2.1 σ H1 ρ1 Z ev S1 v S2 _ w1 (r.stp s1) e2 fun vv H2 ρ2 w2 s2 r2 => ?_
    refine pairs_ok h.2.2 σ H2 ρ2 Z ev S2 ps S' _ w2 (r.stp (s1.trans s2)) e3 fun kvs H3 ρ3 w3 s3 r3 => ?_
    have ek := keyOf_ok r1 ey
    subst ek
    exact q ((y, vv) :: kvs) H3 ρ3 w3 ((s1.trans s2).trans s3) (krep_cons (s3.rep r2) r3)
def mDisp (ms : List (ME × ME)) : ME := fun ev S => bnd (mPairs ms ev S) fun kds S1 => if kds.length ≤ 15 then some (.dic (mergeD [] kds), S1) else none
theorem snd_disp {trs : List (TE × TE)} {ms : List (ME × ME)} (h : SndPs G trs ms) : Snd G (tDisp trs) (mDisp ms) := by
  intro σ H ρ Z ev S d S' Q w r e q p np
  obtain ⟨kds, S1, e1, e⟩ := bnd_eq e
  split at e
  case isFalse => cases e
  rename_i hz
  cases e
  obtain ⟨w1, s1⟩ := w.hide (o := .dK []) np
  refine pairs_ok h σ _ ρ (Z.with p) ev S kds S' _ w1 (r.mono s1 fun _ _ q => q) e1 fun kvs H2 ρ2 w2 s2 r2 => ?_
  have zp : p ∈ (Z.with p).z := List.mem_append.mpr (.inr (.head _))
  refine ⟨(s2.zk p zp).trans upd_same, kvs, rfl, by rw [krep_len r2]; exact hz, ?_⟩
  obtain ⟨w3, e3, z3⟩ := w2.rewrite (o := .dK (mergeK [] kvs))
  obtain ⟨w4, s4, n4⟩ := w3.show_
  have k4 := krep_mono s4 (fun _ _ q => q) (by rw [e3]; exact krep_merge krep_nil r2 : KRep G (hid (upd H2 p (.dK (mergeK [] kvs))) (ρ2 ++ (Z.with p).z)) ρ2 _ _)
  refine q _ _ ρ2 w4 ⟨s2.pre, ?_, fun z m => ?_⟩ (.dic (.inl (hid_of n4 upd_same)) k4.1 k4.2)
  · have := s1.trans s2.same
    rw [← e3] at this
    exact this.trans s4
  · have ne : z ≠ p := fun e => by
      subst e
      exact w.zin z m np
    rw [z3 z m, s2.zk z (List.mem_append.mpr (.inl m)), upd_ne ne]
/-- a new dict that will change -/
def mDicL (m : ME) : ME := fun ev S => bnd (m ev S) fun d S1 => match d with
  | .dic ds => if ds.isEmpty then some (.mut S1.length, S1 ++ [.dic []]) else none
  | _ => none
theorem snd_dnewL : Snd G tDNewK (fun _ S => some (.mut S.length, S ++ [.dic []])) := by
  intro σ H ρ Z ev S d S' Q w r e q p np
  cases e
  obtain ⟨w2, s2⟩ := w.newL (o := .dK []) (m := .dic []) np ⟨rfl, .nil⟩
  exact q _ _ _ w2 s2 (.mut (by rw [← w.len]; simp))
theorem snd_dnew : Snd G tDNewK (mC (.dic [])) := by
  intro σ H ρ Z ev S d S' Q w r e q p np
  cases e
  obtain ⟨w2, s2, e2⟩ := w.new (o := .dK []) np
  exact q _ _ _ w2 s2 (.dic (.inl e2) rfl .nil)
def sDPut (mo mk mv : ME) : MS := fun ev S => bnd (mv ev S) fun v S1 => bnd (mo ev S1) fun o S2 => bnd (mk ev S2) fun k S3 => match o with
  | .mut l => match S3[l]?, keyOf k with
    | some (.dic ds), some y => if ds.length < sizeLine then some (.nx ev, S3.set l (.dic (putD ds y v))) else none
    | _, _ => none
  | _ => none
theorem snd_dput {td ty tv : TE} {mo mk mv : ME} (ho : Snd G td mo) (hk : Snd G ty mk) (hv : Snd G tv mv) : SndS G (L2.sDPut td ty tv) (Mi.sDPut mo mk mv) := by
  intro σ H ρ Z ev S o S' D w r e q
  obtain ⟨v, S1, e1, e⟩ := bnd_eq e
  obtain ⟨od, S2, e2, e⟩ := bnd_eq e
  obtain ⟨k, S3, e3, e⟩ := bnd_eq e
  cases od with
  | «mut» l =>
    simp only at e
    split at e
    case h_2 => cases e
    rename_i ds y e4 ey
    split at e
    case isFalse => cases e
    rename_i hz
    cases e
    refine hv σ H ρ Z ev S v S1 _ w r e1 fun vv H1 ρ1 w1 s1 r1 => ?_
    refine ho σ H1 ρ1 Z ev S1 _ S2 _ w1 (r.stp s1) e2 fun vo H2 ρ2 w2 s2 r2 => ?_
    refine hk σ H2 ρ2 Z ev S2 k S3 _ w2 (r.stp (s1.trans s2)) e3 fun vk H3 ρ3 w3 s3 r3 => ?_
    have r2' := s3.rep r2
    cases r2'
    rename_i a ha
    obtain ⟨kvs, h1, h2, h3⟩ := cellD w3 ha e4
    have kr : KRep G (hid H3 (ρ3 ++ Z.z)) ρ3 kvs ds := ⟨h2, h3⟩
    obtain ⟨w4, s4⟩ := w3.set (o := .dK (putK kvs y vv)) (m := .dic (putD ds y v)) ha (krep_put ((s2.trans s3).rep r1) kr)
    have st := ((s1.trans s2).trans s3).trans s4
    exact ⟨a, _, rfl, .inl ⟨kvs, y, h1, keyOf_ok r3 ey, by rw [krep_len kr]; exact hz, rfl⟩, q σ _ ρ3 w4 st (r.stp st)⟩
  | _ => cases e
/-- d.get(k), d.get(k, x) -/
def mGet1 (mo mk : ME) : ME := fun ev S => bnd (mo ev S) fun o S1 => bnd (mk ev S1) fun k S2 => match asD S2 o, keyOf k with
  | some ds, some y => some ((valD ds y).getD .non, S2)
  | _, _ => none
def mGet2 (mo mk mx : ME) : ME := fun ev S => bnd (mo ev S) fun o S1 => bnd (mk ev S1) fun k S2 => bnd (mx ev S2) fun x S3 => match asD S3 o, keyOf k with
  | some ds, some y => some ((valD ds y).getD x, S3)
  | _, _ => none
theorem asD_up {H1 H2 : Hp} {ρ1 ρ2 : List Addr} {Z : Fm} {S1 S2 : Sto} (w1 : Wo G H1 ρ1 Z S1) (w2 : Wo G H2 ρ2 Z S2) (s : Stp H1 ρ1 Z H2 ρ2) {v : V} {d : Dv} {ds : List (Key × Dv)} (r : Rep G (hid H1 (ρ1 ++ Z.z)) ρ1 v d) (e : asD S2 d = some ds) : ∃ a kvs, v = .ref a ∧ IsD H2 a ∧ Rd H2 a (.dK kvs) ∧ KRep G (hid H2 (ρ2 ++ Z.z)) ρ2 kvs ds := by
  obtain ⟨a, kvs, h1, h2, h3, h4⟩ := asD_ok w2 (s.rep r) e
  exact ⟨a, kvs, h1, .inl ⟨kvs, h2⟩, h2, h3, h4⟩
/-- the dict's cell is one, also ahead -/
def isDAt (S : Sto) (o : Dv) : Bool := (asD S o).isSome
def mGet1' (mo mk : ME) : ME := fun ev S => bnd (mo ev S) fun o S1 => if isDAt S1 o then bnd (mk ev S1) fun k S2 => match asD S2 o, keyOf k with
  | some ds, some y => some ((valD ds y).getD .non, S2)
  | _, _ => none else none
theorem snd_get1 {td ty : TE} {mo mk : ME} (ho : Snd G td mo) (hk : Snd G ty mk) : Snd G (tDGet1 td ty) (mGet1' mo mk) := by
  intro σ H ρ Z ev S d S' Q w r e q
  obtain ⟨o, S1, e1, e⟩ := bnd_eq e
  split at e
  case isFalse => cases e
  rename_i hD
  obtain ⟨k, S2, e2, e⟩ := bnd_eq e
  split at e
  case h_2 => cases e
  rename_i ds y e3 e4
  cases e
  refine ho σ H ρ Z ev S o S1 _ w r e1 fun x H1 ρ1 w1 s1 r1 => ?_
  obtain ⟨ds0, e0⟩ := Option.isSome_iff_exists.mp hD
  obtain ⟨a, kvs0, rfl, h0, _⟩ := asD_ok w1 r1 e0
  refine ⟨a, rfl, .inl ⟨kvs0, h0⟩, hk σ H1 ρ1 Z ev S1 k S' _ w1 (r.stp s1) e2 fun u H2 ρ2 w2 s2 r2 => ?_⟩
  obtain ⟨a2, kvs, ea, h1, h2, h3⟩ := asD_ok w2 (s2.rep r1) e3
  cases ea
  have kr : KRep G (hid H2 (ρ2 ++ Z.z)) ρ2 kvs ds := ⟨h2, h3⟩
  refine ⟨valV kvs y, .inl ⟨kvs, y, h1, keyOf_ok r2 e4, rfl⟩, q _ H2 ρ2 w2 (s1.trans s2) ?_⟩
  obtain ⟨k1, k2⟩ := krep_val (k := y) kr
  cases e5 : valD ds y with
  | some dd =>
    obtain ⟨v, h5, h6⟩ := k1 dd e5
    rw [h5]
    exact h6
  | none =>
    have : valV kvs y = none := by
      cases e6 : valV kvs y with
      | none => rfl
      | some z => rw [e5, e6] at k2; cases k2
    rw [this]
    exact .non
def mGet2' (mo mk mx : ME) : ME := fun ev S => bnd (mo ev S) fun o S1 => if isDAt S1 o then bnd (mk ev S1) fun k S2 => bnd (mx ev S2) fun x S3 => match asD S3 o, keyOf k with
  | some ds, some y => some ((valD ds y).getD x, S3)
  | _, _ => none else none
theorem snd_get2 {td ty tx : TE} {mo mk mx : ME} (ho : Snd G td mo) (hk : Snd G ty mk) (hx : Snd G tx mx) : Snd G (tDGet2 td ty tx) (mGet2' mo mk mx) := by
  intro σ H ρ Z ev S d S' Q w r e q
  obtain ⟨o, S1, e1, e⟩ := bnd_eq e
  split at e
  case isFalse => cases e
  rename_i hD
  obtain ⟨k, S2, e2, e⟩ := bnd_eq e
  obtain ⟨x, S3, e9, e⟩ := bnd_eq e
  split at e
  case h_2 => cases e
  rename_i ds y e3 e4
  cases e
  refine ho σ H ρ Z ev S o S1 _ w r e1 fun xv H1 ρ1 w1 s1 r1 => ?_
  obtain ⟨ds0, e0⟩ := Option.isSome_iff_exists.mp hD
  obtain ⟨a, kvs0, rfl, h0, _⟩ := asD_ok w1 r1 e0
  refine ⟨a, rfl, .inl ⟨kvs0, h0⟩, hk σ H1 ρ1 Z ev S1 k S2 _ w1 (r.stp s1) e2 fun u H2 ρ2 w2 s2 r2 => ?_⟩
  refine hx σ H2 ρ2 Z ev S2 x S' _ w2 (r.stp (s1.trans s2)) e9 fun vx H3 ρ3 w3 s3 r3 => ?_
  obtain ⟨a2, kvs, ea, h1, h2, h3⟩ := asD_ok w3 ((s2.trans s3).rep r1) e3
  cases ea
  have kr : KRep G (hid H3 (ρ3 ++ Z.z)) ρ3 kvs ds := ⟨h2, h3⟩
  refine ⟨valV kvs y, .inl ⟨kvs, y, h1, keyOf_ok r2 e4, rfl⟩, q _ H3 ρ3 w3 ((s1.trans s2).trans s3) ?_⟩
  obtain ⟨k1, k2⟩ := krep_val (k := y) kr
  cases e5 : valD ds y with
  | some dd =>
    obtain ⟨v, h5, h6⟩ := k1 dd e5
    rw [h5]
    exact h6
  | none =>
    have : valV kvs y = none := by
      cases e6 : valV kvs y with
      | none => rfl
      | some z => rw [e5, e6] at k2; cases k2
    rw [this]
    exact r3
/-- D.get(text) of a dict that the module writes: the texts tab -/
def mKGet (tab : List (Str × Dv)) (mk : ME) : ME := fun ev S => bnd (mk ev S) fun k S1 => match k with
  | .str z => match lookD tab z with
    | some d => some (d, S1)
    | none => none
  | _ => none
theorem snd_kget {d : Addr} {tab : List (Str × Dv)} {tk : TE} {mk : ME} (ht : ∀ z x, lookD tab z = some x → ∃ (r : Option Value) (v : V), PySem.W.nsIn G.K d z = some r ∧ RelV v (r.getD .none) ∧ ∀ h ρ, Rep G h ρ v x) (hk : Snd G tk mk) : Snd G (tKGet1 G.K d (tC (.ref d)) tk) (mKGet tab mk) := by
  intro σ H ρ Z ev S o S' Q w r e q
  obtain ⟨k, S1, e1, e⟩ := bnd_eq e
  cases k with
  | str z =>
    simp only at e
    split at e
    case h_2 => cases e
    rename_i x ex
    cases e
    refine ⟨rfl, hk σ H ρ Z ev S _ S' _ w r e1 fun vk H1 ρ1 w1 s1 r1 => ?_⟩
    cases r1
    obtain ⟨rr, v, h1, h2, h3⟩ := ht z _ ex
    exact ⟨z, rr, v, rfl, h1, h2, q v H1 ρ1 w1 s1 (h3 _ _)⟩
  | _ => cases e
theorem lookD_mem {tab : List (Str × Dv)} {z : Str} {x : Dv} (h : lookD tab z = some x) : (z, x) ∈ tab := by
  unfold lookD at h
  obtain ⟨p, h1, h2⟩ := Option.map_eq_some_iff.mp h
  have h3 := List.mem_of_find?_eq_some h1
  have h4 : decide (p.1 = z) = true := List.find?_some (p := fun q : Str × Dv => decide (q.1 = z)) h1
  have h4 := of_decide_eq_true h4
  subst h4 h2
  exact h3
/-! ### dict comprehensions -/
def dcGo (g : MG) (tt : MT) (mk mv : ME) (ev : Ev) : List Dv → List (Key × Dv) → Sto → Option (List (Key × Dv) × Sto)
  | [], acc, S => some (acc, S)
  | x :: xs, acc, S => match g x ev with
    | some ev1 => bnd (tt ev1 S) fun b S1 => if b then bnd (mk ev1 S1) fun k S2 => bnd (mv ev1 S2) fun v S3 => match keyOf k with
        | some y => if acc.length < sizeLine then dcGo g tt mk mv ev xs (putD acc y v) S3 else none
        | none => none
      else dcGo g tt mk mv ev xs acc S1
    | none => none
def mDc (vs : List Nat) (mi : MA) (g : MG) (tt : MT) (mk mv : ME) : ME := fun ev S => bnd (mi ev S) fun items S1 => bnd (dcGo g tt mk mv (wipeE ev vs) items [] S1) fun ds S2 => some (.dic ds, S2)
theorem dc_it' {J : It} {n : Nat} {Gd : Hp → Prop} {Y : Nat → Hp → V → Hp → Prop} (w : Walk J n Gd Y) {g : TG} {tt : TT} {tk tv : TE} {vs : List Nat} {σ : L2.St} {H1 : Hp} {D : Addr} {Qd : Hp → Prop} (Pv : Nat → Hp → Prop) (h0 : Pv 0 (upd H1 D (.dK []))) (hG : ∀ i H, i ≤ n → Pv i H → Gd H)
    (hs : ∀ i x H H', i < n → Pv i H → Y i H x H' → g x (L2.wipe σ vs) H' fun σ2 H2 => L2.wipe σ2 vs = L2.wipe σ vs ∧ tt σ2 H2 fun b H3 =>
      if b = true then tk σ2 H3 fun y H4 => tv σ2 H4 fun z H5 => ∃ kvs k, y = kV k ∧ H5 D = some (.dK kvs) ∧ kvs.length < sizeLine ∧ Pv (i + 1) (upd H5 D (.dK (putK kvs k z))) else Pv (i + 1) H3) (hd : ∀ H, Pv n H → Qd H) :
    ∃ W : Nat → Nat → Hp → Prop, (∃ m, W 0 m (upd H1 D (.dK []))) ∧ ∀ i m H, W i m H →
      (J.stop i H ∧ Qd H) ∨ (J.go i H ∧ ∃ Nx : Hp → Prop, (∀ H', Nx H' → ∃ m', m' < m ∧ W (i + 1) m' H') ∧ ∀ x H', J.yld i H x H' → g x (L2.wipe σ vs) H' fun σ2 H2 => L2.wipe σ2 vs = L2.wipe σ vs ∧ tt σ2 H2 fun b H3 =>
        if b = true then tk σ2 H3 fun y H4 => tv σ2 H4 fun z H5 => ∃ kvs k, y = kV k ∧ H5 D = some (.dK kvs) ∧ kvs.length < sizeLine ∧ Nx (upd H5 D (.dK (putK kvs k z))) else Nx H3) := by
  refine ⟨fun i m H => m = n - i ∧ i ≤ n ∧ Pv i H, ⟨n, by simp, Nat.zero_le _, h0⟩, ?_⟩
  rintro i m H ⟨rfl, hi, p⟩
  have q := hG i H hi p
  by_cases hlt : i < n
  · refine .inr ⟨w.goes i H hlt q, Pv (i + 1), fun H' p' => ⟨n - (i + 1), by omega, rfl, hlt, p'⟩, fun x H' y => hs i x H H' hlt p (w.yields i H x H' hlt q y)⟩
  · have e : i = n := by omega
    subst e
    exact .inl ⟨w.stops H q, hd H p⟩
theorem snd_dc {wi : TI} {g : TG} {tt : TT} {tk tv : TE} {vs : List Nat} {mi : MA} {mg : MG} {mt : MT} {mk mv : ME} (hi : SndI G wi mi) (hg : SndG G g mg vs) (ht : SndT G tt mt) (hk : Snd G tk mk) (hv : Snd G tv mv) : Snd G (tDc wi g tt tk tv vs) (mDc vs mi mg mt mk mv) := by
  intro σ H ρ Z ev S d S' Q w r e q
  obtain ⟨items, S1, e1, e⟩ := bnd_eq e
  obtain ⟨all, S2, e2, e⟩ := bnd_eq e
  cases e
  refine hi σ H ρ Z ev S items S1 _ w r e1 fun J Gd Y H1 ρ1 w1 s1 wk gd gv D nD => ?_
  have r1 := (r.stp s1).wipe vs
  refine dc_it' wk (fun i H => ∃ (ρ2 : List Addr) (S3 : Sto) (kvs : List (Key × V)) (acc : List (Key × Dv)), Wo G H ρ2 (Z.with D) S3 ∧ (∃ r, ρ2 = ρ1 ++ r) ∧ Sm (hid H1 (ρ1 ++ Z.z)) (hid H (ρ2 ++ (Z.with D).z)) ∧ (∀ z ∈ Z.z, H z = H1 z) ∧
    H D = some (.dK kvs) ∧ KRep G (hid H (ρ2 ++ (Z.with D).z)) ρ2 kvs acc ∧ dcGo mg mt mk mv (wipeE ev vs) (items.drop i) acc S3 = some (all, S')) ?_ ?_ ?_ ?_
  · obtain ⟨w2, s2⟩ := w1.hide (o := .dK []) nD
    refine ⟨ρ1, S1, [], [], w2, ⟨[], by simp⟩, s2, fun z m => upd_ne fun e => ?_, upd_same, krep_nil, e2⟩
    subst e
    exact w1.zin z m nD
  · rintro i H2 hi2 ⟨ρ2, S3, kvs, acc, w2, p2, s2, k2, hD, rr, go⟩
    exact gd H2 s2.hid fun p m => (w2.nofz.1 p m).1
  · rintro i x H2 H3 hi2 ⟨ρ2, S3, kvs, acc, w2, p2, s2, k2, hD, rr, go⟩ y
    obtain ⟨it, hit⟩ : ∃ it, items[i]? = some it := ⟨items[i], List.getElem?_eq_getElem hi2⟩
    obtain ⟨gr, rx⟩ := gv i H2 ρ2 (Z.with D) S3 x H3 it w2 s2 (pre_at p2) hit y
    obtain ⟨w3, s3⟩ := w2.grow gr
    rw [drop_cons hit] at go
    simp only [dcGo] at go
    split at go
    case h_2 => cases go
    rename_i ev1 eg
    obtain ⟨b, S4, e4, go⟩ := bnd_eq go
    have r3 : EvR G (hid H3 (ρ2 ++ (Z.with D).z)) ρ2 (L2.wipe σ vs) (wipeE ev vs) := (r1.mono s2 (pre_at p2)).stp s3
    refine hg _ H3 ρ2 (Z.with D) _ ev1 x it _ r3 rx eg fun σ2 r4 hw => ⟨hw.trans (wipe_wipe vs), ?_⟩
    refine ht σ2 H3 ρ2 (Z.with D) ev1 S3 b S4 _ w3 r4 e4 fun H4 ρ4 w4 s4 => ?_
    have zD : D ∈ (Z.with D).z := List.mem_append.mpr (.inr (.head _))
    have zZ : ∀ z ∈ Z.z, z ∈ (Z.with D).z := fun z m => List.mem_append.mpr (.inl m)
    have hD4 : H4 D = some (.dK kvs) := (s4.zk D zD).trans (gr.same _ _ hD)
    have pre : ∀ {ρa ρb : List Addr}, (∃ r, ρa = ρ1 ++ r) → (∃ r, ρb = ρa ++ r) → ∃ r, ρb = ρ1 ++ r := fun ⟨a, ea⟩ ⟨b, eb⟩ => ⟨a ++ b, by rw [eb, ea, List.append_assoc]⟩
    cases b with
    | false =>
      rw [if_neg Bool.false_ne_true] at go ⊢
      exact ⟨ρ4, S4, kvs, acc, w4, pre p2 (s3.trans s4).pre, s2.trans (s3.trans s4).same, fun z m => ((s3.trans s4).zk z (zZ z m)).trans (k2 z m), hD4, krep_mono (s3.trans s4).same (s3.trans s4).at rr, go⟩
    | true =>
      rw [if_pos rfl] at go ⊢
      obtain ⟨k, S5, e5, go⟩ := bnd_eq go
      obtain ⟨v, S6, e6, go⟩ := bnd_eq go
      split at go
      case h_2 => cases go
      rename_i ky eky
      split at go
      case isFalse => cases go
      rename_i hz
      refine hk σ2 H4 ρ4 (Z.with D) ev1 S4 k S5 _ w4 (r4.stp s4) e5 fun vk H5 ρ5 w5 s5 r5 => ?_
      refine hv σ2 H5 ρ5 (Z.with D) ev1 S5 v S6 _ w5 (r4.stp (s4.trans s5)) e6 fun vv H6 ρ6 w6 s6 r6 => ?_
      have st := ((s3.trans s4).trans s5).trans s6
      have hD6 : H6 D = some (.dK kvs) := ((s5.trans s6).zk D zD).trans hD4
      obtain ⟨w7, e7, z7⟩ := w6.rewrite (o := .dK (putK kvs ky vv))
      refine ⟨kvs, ky, keyOf_ok r5 eky, hD6, by rw [krep_len rr]; exact hz, ρ6, S6, putK kvs ky vv, putD acc ky v, w7, pre p2 st.pre, ?_, fun z m => (z7 z m).trans ((st.zk z (zZ z m)).trans (k2 z m)), upd_same, ?_, go⟩
      · rw [e7]
        exact s2.trans st.same
      · rw [e7]
        exact krep_put r6 (krep_mono st.same st.at rr)
  · rintro H2 ⟨ρ2, S3, kvs, acc, w2, p2, s2, k2, hD, rr, go⟩
    rw [List.drop_length] at go
    simp only [dcGo] at go
    cases go
    obtain ⟨w3, s3, nD3⟩ := w2.show_
    have rr3 := krep_mono s3 (fun _ _ q => q) rr
    exact q _ H2 ρ2 w3 (s1.trans (.to p2 (s2.trans s3) k2)) (.dic (.inl (hid_of nD3 hD)) rr3.1 rr3.2)
/-! ### defs with defaults; binding -/
theorem fnR_of {P : Program} {w : World} {K : PySem.W.Frag} {mg : Str → Option Value} {base : Heap} {CX : CXT} {k : Nat} {f : Addr} {fd : FuncData} {ps : List Str} {sp : Sp} (F : FnOk P w K mg base CX k f fd ps sp) (hb : Binds K fd ps []) : FnR P w K mg base CX k f sp :=
  fun A outer s H us vs Q E hr e0 rel hs => F.run A outer s H ⟨us, []⟩ us vs Q E hr e0 (by
    have l : (us ++ []).length = ps.length := by rw [List.append_nil, ← rel.length]; exact F.len _ _ _ _ hs
    have := hb s us (e0.mod.kin.keeps fun b o z => (e0.bs b o z).1) l
    rw [List.append_nil] at this
    exact this) rel hs
theorem funD_ok {P : Program} {w : World} {K : PySem.W.Frag} {mg : Str → Option Value} {base : Heap} {x qual : Str} {st : Stmt} {dvs : List V} {f : Addr} {fd : FuncData} {N ps : List Str} {k : Nat} {sp : Sp} (F : FunD K x qual (defArgs st) (defBody st) (defScope st) dvs [] f fd) (S : FnScope N ps (defScope st)) (len : ∀ vs H Q E, sp vs H Q E → vs.length = ps.length)
    (hbody : ∀ (cdv : Value) (A : Around) (outer : List Env) (s : Shared) (H : Hp) (vs : List V) (Q : VK) (E : XK), Room k (A.deeper (envOfC qual (defScope st) s.heap.objs.size f cdv)) → sp vs H Q E →
      ∃ t, PSs (cxOf CX0 P w K mg base N qual (defScope st) f cdv A outer s H E).nox (defBody st) t ∧ t { nx := fun _ H' => Q .non H', rt := Q } (L2.start N vs) H) : FnOk P w K mg base CX0 (k + 1) f fd ps sp :=
  F.ok S len fun cdv A outer s H vs Q E hr hs => by
    obtain ⟨t, h, q⟩ := hbody cdv A outer s H vs Q E hr hs
    exact ⟨t, h.nox, q⟩
theorem funD_mk {K : PySem.W.Frag} {x qual : Str} {st : Stmt} {dvs : List V} {f T : Addr} {oc : Value} {od an : Option Addr} {osl : Array (Option Value)} {kV doc pm cdv ct : Value} {o : Obj} {its : List Value} {n : Nat} (l : K.lookup f = some ⟨oc, od, .func (PySem.W.fnOf x qual (defArgs st) (defBody st) (defScope st) (.ref T) kV doc pm an cdv ct), osl⟩)
    (c : PySem.W.codeIn K cdv qual = true) (k : PySem.W.keepIn K (.ref f) = true) (lT : K.lookup T = some o) (oT : o.data = .seq its.toArray n) (hd : dvs ≠ []) (rT : Vals dvs its) : FunD K x qual (defArgs st) (defBody st) (defScope st) dvs [] f (PySem.W.fnOf x qual (defArgs st) (defBody st) (defScope st) (.ref T) kV doc pm an cdv ct) :=
  ⟨⟨oc, od, _, kV, doc, pm, an, cdv, ct, osl, rfl, l, c, .inr ⟨hd, T, o, its, n, rfl, lT, oT, rT⟩, .inl rfl⟩, k⟩
theorem kbn_of {K : PySem.W.Frag} {x qual : Str} {st : Stmt} {f : Addr} {fd : FuncData} {ps : List Str} (F : Fun K x qual st f fd) (n : Nat) (ks : List Str) (g : {α : Type} → List α → List α → List α) (hrel : ∀ {vs zs : List V} {us ws : List Value}, Vals vs us → Vals zs ws → Vals (g vs zs) (g us ws))
    (h : ∀ (kV doc pm : Value) (an : Option Addr) (cdv ct : Value) (us ws : List Value), us.length = n → ws.length = ks.length → bindArgs (PySem.W.fnOf x qual (defArgs st) (defBody st) (defScope st) .none kV doc pm an cdv ct) ⟨us, ks.zip ws⟩ = pure (ps.zip (g us ws))) : KBn K fd ps n ks (fun us ws => g us ws) (fun vs zs => g vs zs) := by
  obtain ⟨oc, od, kV, doc, pm, an, cdv, ct, osl, rfl, lk, hcd⟩ := F.ex
  exact ⟨fun s us ws X l1 l2 => .of_eq (h kV doc pm an cdv ct us ws l1 l2), hrel⟩
/-- the values in another order: xs at the places is -/
def permA {α : Type} (is : List Nat) (xs zs : List α) : List α := is.filterMap fun i => (xs ++ zs)[i]?
theorem permA_vals {is : List Nat} {vs zs : List V} {us ws : List Value} (a : Vals vs us) (b : Vals zs ws) : Vals (permA is vs zs) (permA is us ws) := by
  have ab := a.append b
  unfold permA
  induction is with
  | nil => exact .nil
  | cons i is ih =>
    rw [List.filterMap_cons, List.filterMap_cons]
    cases e : (vs ++ zs)[i]? with
    | none => rw [ab.none_of e]; exact ih
    | some v =>
      obtain ⟨u, h1, h2⟩ := ab.get e
      rw [h1]
      exact .cons h2 ih
theorem permA_rep {is : List Nat} : PermG G (permA is) (permA is) := ⟨fun {h ρ vs zs ds es} a b => by
  have ab := a.app b
  unfold permA
  induction is with
  | nil => exact .nil
  | cons i is ih =>
    rw [List.filterMap_cons, List.filterMap_cons]
    cases e : (vs ++ zs)[i]? with
    | none =>
      have : (ds ++ es)[i]? = none := by
        rw [List.getElem?_eq_none_iff] at e ⊢
        rw [← ab.length]
        exact e
      rw [this]
      exact ih
    | some v =>
      obtain ⟨d, h1, h2⟩ := ab.atV e
      rw [h1]
      exact .cons h2 ih⟩
/-! ### the end -/
theorem kit_bc {K : PySem.W.Frag} {C : Addr} {t : String} (h1 : PySem.W.isClsIn K C = true) (h2 : PySem.W.typeIn K (.ref C) = some (.type "type")) (h3 : PySem.W.subIn K (.type t) (.ref C) = some false) : PySem.W.kitOne K (.type t) (.ref C) = some false := by
  unfold PySem.W.kitOne
  rw [if_neg (by intro h; exact nomatch (eq_of_beq h : Value.type t = Value.ref C))]
  show (if ((PySem.W.clsIn K C).isSome && PySem.W.typeIn K (.ref C) == some (.type "type")) = true then PySem.W.subIn K (.type t) (.ref C) else none) = _
  rw [if_pos (by rw [h2, show (PySem.W.clsIn K C).isSome = true from h1]; rfl), h3]
theorem kit_cb {K : PySem.W.Frag} {C : Addr} {t : String} (h1 : PySem.W.kitMeta t = true) (h3 : PySem.W.subIn K (.ref C) (.type t) = some false) : PySem.W.kitOne K (.ref C) (.type t) = some false := by
  unfold PySem.W.kitOne
  rw [if_neg (by intro h; exact nomatch (eq_of_beq h : Value.ref C = Value.type t))]
  show (if PySem.W.kitMeta t = true then PySem.W.subIn K (.ref C) (.type t) else none) = _
  rw [if_pos h1, h3]
theorem kit_cc {K : PySem.W.Frag} {C : Addr} : PySem.W.kitOne K (.ref C) (.ref C) = some true := by
  unfold PySem.W.kitOne
  rw [if_pos (beq_self_eq_true _)]
theorem kit_cd {K : PySem.W.Frag} {C D : Addr} (h1 : PySem.W.isClsIn K D = true) (h2 : PySem.W.typeIn K (.ref D) = some (.type "type")) (h3 : PySem.W.subIn K (.ref C) (.ref D) = some false) (h4 : PySem.W.subIn K (.ref D) (.ref D) = some true) : PySem.W.kitOne K (.ref C) (.ref D) = some false := by
  unfold PySem.W.kitOne
  rw [if_neg (by
    intro h
    have e := eq_of_beq h
    cases e
    rw [h3] at h4
    cases h4)]
  show (if ((PySem.W.clsIn K D).isSome && PySem.W.typeIn K (.ref D) == some (.type "type")) = true then PySem.W.subIn K (.ref C) (.ref D) else none) = _
  rw [if_pos (by rw [h2, show (PySem.W.clsIn K D).isSome = true from h1]; rfl), h3]
theorem first_b {K : PySem.W.Frag} {C : Addr} {t : Value} (h3 : PySem.W.subIn K t (.ref C) = some false) : PySem.W.notFirst K C t = true := by
  unfold PySem.W.notFirst
  rw [h3]
  simp
theorem first_c {K : PySem.W.Frag} {C : Addr} : PySem.W.notFirst K C (.ref C) = true := by
  unfold PySem.W.notFirst
  rw [show ((Value.ref C == Value.ref C) = true) from beq_self_eq_true _]
  rfl
theorem meta_bts : ∀ t ∈ bts, PySem.W.kitMeta t = true := by
  intro t h
  have key : (bts.all fun t => PySem.W.kitMeta t) = true := by decide +kernel
  exact List.all_eq_true.mp key t h
/-- what the law's def promises of the script -/
def lawSp (K : PySem.W.Frag) : Sp := fun vs H Q _ => ∃ (a : Addr) (ns : List Int), vs = [.ref a] ∧ Only H ∧ SqL K H a (ns.map V.int) ∧ ns.length ≤ 63 ∧ ∀ H', Q (.bl true) H'
theorem want_of {w : World} {K : PySem.W.Frag} {mg : Str → Option Value} {F : MF} {H : Hp} {a : Addr} {ns : List Int} {Q : VK} {E : XK} (only : Only H) (hS : SqL K H a (ns.map V.int)) (law : F [.scr (ns.map .int)] [] = some (.bl true, [])) (hQ : ∀ H', Q (.bl true) H') : spM ⟨K, mg, w⟩ 1 F [.ref a] H Q E := by
  have eh : hid H (([] : List Addr) ++ ([] : List Addr)) = H := by
    funext b
    unfold hid
    simp
  refine ⟨rfl, [], ⟨[], []⟩, [], [.scr (ns.map .int)], _, [], ⟨rfl, List.nodup_nil, fun l o e => (by simp at e), fun z m => (by cases m), ⟨fun p m => (by cases m), fun b o kvs e => ?_⟩⟩, .cons (.scr ?_ (.ints ns)) .nil, law, fun v H' ρ' _ s r => (by cases r; exact hQ H')⟩
  · rcases only b with h | ⟨ob, xs, h⟩
    · rw [h] at e
      cases e
    · rw [h] at e
      cases e
  · show SqL K (hid H ([] ++ [])) a _
    rw [eh]
    exact hS
theorem law_imp {P : Program} {w : World} {K : PySem.W.Frag} {mg : Str → Option Value} {base : Heap} {k : Nat} {f : Addr} {fd : FuncData} {ps : List Str} {F : MF} (law : ∀ ns : List Int, ns.length ≤ 63 → F [.scr (ns.map .int)] [] = some (.bl true, [])) (h : FnG P w K mg base k f fd ps (spM ⟨K, mg, w⟩ 1 F)) : FnG P w K mg base k f fd ps (lawSp K) := by
  have im : ∀ vs H Q E, lawSp K vs H Q E → spM ⟨K, mg, w⟩ 1 F vs H Q E := fun vs H Q E q => by
    obtain ⟨a, ns, rfl, ho, hS, hl, hQ⟩ := q
    exact want_of ho hS (law ns hl) hQ
  exact ⟨fun vs H Q E q => h.ln vs H Q E (im _ _ _ _ q), fun A outer s H args us vs Q E hr fr he hb hv hs => h.go A outer s H args us vs Q E hr fr he hb hv (im _ _ _ _ hs)⟩
end
end Mi

set_option Elab.async false
set_option linter.all false
set_option maxRecDepth 100000
set_option maxHeartbeats 4000000
/-! The functions run by rewriting: each combinator at slots and store. -/
namespace Mi
open PySem PySem.Spec PyProof.Rows L2 Sw
section
variable {G : Gc} {H H' : Hp} {ρ ρ' : List Addr} {Z : Fm} {S S1 : Sto} {ev : Ev}
theorem bnd_congr {α β : Type} {x y : Option (α × Sto)} {f : α → Sto → Option β} (h : x = y) : bnd x f = bnd y f := by rw [h]
theorem bnd_of {α β : Type} {x : Option (α × Sto)} {a : α} {f : α → Sto → Option β} (h : x = some (a, S)) : bnd x f = f a S := by rw [h]; rfl
theorem ap_V {i : Nat} : mV i ev S = match ev[i]? with | some (some d) => some (d, S) | _ => none := rfl
theorem ap_C {d : Dv} : mC d ev S = some (d, S) := rfl
theorem ap_2 {f : FOp} {ma mb : ME} : m2 f ma mb ev S = bnd (ma ev S) fun a S1 => bnd (mb ev S1) fun b S2 => match f S2 a b with | some c => some (c, S2) | none => none := rfl
theorem ap_tst {m : ME} : mTst m ev S = match m ev S with | some (.bl b, S1) => some (b, S1) | _ => none := rfl
theorem ap_tru {m : ME} : mTru m ev S = bnd (m ev S) fun d S1 => match tru S1 d with | some b => some (b, S1) | none => none := rfl
theorem ap_andT {a b : MT} : mAndT a b ev S = bnd (a ev S) fun c S1 => if c then b ev S1 else some (false, S1) := rfl
theorem ap_orT {a b : MT} : mOrT a b ev S = bnd (a ev S) fun c S1 => if c then some (true, S1) else b ev S1 := rfl
theorem ap_notT {a : MT} : mNotT a ev S = bnd (a ev S) fun c S1 => some (!c, S1) := rfl
theorem ap_if {c : MT} {a b : ME} : mIf c a b ev S = bnd (c ev S) fun k S1 => if k then a ev S1 else b ev S1 := rfl
theorem ap_andV {a b : ME} : mAndV a b ev S = bnd (a ev S) fun c S1 => match c with | .bl true => b ev S1 | .bl false => some (.bl false, S1) | _ => none := by
  unfold mAndV
  congr 1
theorem ap_nil : maNil ev S = some ([], S) := rfl
theorem ap_cons {m : ME} {r : MA} : maCons m r ev S = bnd (m ev S) fun d S1 => bnd (r ev S1) fun ds S2 => some (d :: ds, S2) := rfl
theorem ap_tup {m : MA} : mTup m ev S = bnd (m ev S) fun ds S1 => if ds.length ≤ sizeLine then some (.tup ds, S1) else none := rfl
theorem ap_lst {m : MA} : mLst m ev S = bnd (m ev S) fun ds S1 => if ds.length ≤ sizeLine then some (.lst ds, S1) else none := rfl
theorem ap_cb {f : FC} {m : MA} : mCB f m ev S = bnd (m ev S) fun ds S1 => match f S1 ds with | some c => some (c, S1) | none => none := rfl
theorem ap_tupOf {m : ME} : mTupOf m ev S = bnd (m ev S) fun d S1 => match fTupOf S1 d with | some c => some (c, S1) | none => none := rfl
theorem ap_it {m : ME} : mIt m ev S = bnd (m ev S) fun d S1 => match itemsOf d with | some ds => some (ds, S1) | none => none := rfl
theorem rng1_at {m : MA} {n : Nat} (h : n ≤ 1000000) (e : m ev S = some ([.int (n : Nat)], S)) : mRng1 m ev S = some ((List.range n).map fun (k : Nat) => Dv.int (k : Int), S) := by
  have e2 : rangeD 0 ((n : Int).toNat) = (List.range n).map fun (k : Nat) => Dv.int (k : Int) := by
    rw [Int.toNat_natCast]
    unfold rangeD
    congr 1
    funext k
    rw [Int.zero_add]
  unfold mRng1
  rw [e, bnd_some]
  dsimp only
  rw [if_pos (by omega), e2]
theorem ap_lc {vs : List Nat} {mi : MA} {g : MG} {tt : MT} {me : ME} : mLc vs mi g tt me ev S = bnd (mi ev S) fun items S1 => bnd (lcGo g tt me (wipeE ev vs) items S1) fun ds S2 => if ds.length ≤ sizeLine then some (.lst ds, S2) else none := rfl
theorem ap_lc2 {vs vs1 : List Nat} {mi mi1 : MA} {g g1 : MG} {t t1 : MT} {me : ME} : mLc2 vs vs1 mi g t mi1 g1 t1 me ev S = bnd (mi ev S) fun items S1 => bnd (lc2Go g t mi1 vs1 g1 t1 me (wipeE ev vs) items S1) fun ds S2 => if ds.length ≤ sizeLine then some (.lst ds, S2) else none := rfl
theorem ap_sl {me : ME} {ml mh : MO} : mSl me ml mh ev S = bnd (me ev S) fun a S1 => bnd (ml ev S1) fun lo S2 => bnd (mh ev S2) fun hi S3 => match fSl S3 a lo hi with | some c => some (c, S3) | none => none := rfl
theorem ap_moNo : moNo ev S = some (none, S) := rfl
theorem ap_moInt {m : ME} : moInt m ev S = bnd (m ev S) fun d S1 => match d with | .int i => some (some i, S1) | _ => none := by
  unfold moInt
  congr 1
theorem ap_enum {m : MA} : mEnum m ev S = bnd (m ev S) fun ds S1 => match ds with | [.lst es] => some (enumD 0 es, S1) | [.tup es] => some (enumD 0 es, S1) | _ => none := by
  unfold mEnum
  congr 1
theorem ap_zip {m : MA} : mZip m ev S = bnd (m ev S) fun ds S1 => match ds with
  | [.lst as, .lst bs] => some (zipD as bs, S1)
  | [.tup as, .tup bs] => if as.length = bs.length then some (zipD as bs, S1) else none
  | [.str x, .str y] => if x.length = y.length then some (zipD (signsD x) (signsD y), S1) else none
  | _ => none := by
  unfold mZip
  congr 1
theorem ap_isi {tab : TyN → Option Bool} {ma mt : ME} : mIsi tab ma mt ev S = bnd (ma ev S) fun d S1 => bnd (mt ev S1) fun _ S2 => match tyD S2 d with
  | some n => match tab n with
    | some b => some (.bl b, S2)
    | none => none
  | none => none := rfl
theorem ap_dIn {neg : Bool} {mk mo : ME} : mDIn neg mk mo ev S = bnd (mk ev S) fun k S1 => bnd (mo ev S1) fun o S2 => match asD S2 o, keyOf k with
  | some ds, some y => some (.bl (if neg then !(valD ds y).isSome else (valD ds y).isSome), S2)
  | _, _ => none := rfl
theorem ap_dGet {mo mk : ME} : mDGet mo mk ev S = bnd (mo ev S) fun o S1 => bnd (mk ev S1) fun k S2 => match asD S2 o, keyOf k with
  | some ds, some y => match valD ds y with
    | some d => some (d, S2)
    | none => none
  | _, _ => none := rfl
theorem ap_join {mo : ME} {m : MA} : mJoin mo m ev S = bnd (mo ev S) fun o S1 => match o with
  | .str a => bnd (m ev S1) fun ds S2 => match ds with
    | [d] => match asQ S2 d with
      | some es => match asStrs es with
        | some ys => if (ys.map (·.length)).sum + ys.length * a.length ≤ 16777216 then some (.str (Txt.join a ys), S2) else none
        | none => none
      | none => none
    | _ => none
  | _ => none := rfl
theorem ap_extend {mo : ME} {m : MA} : mExtend mo m ev S = bnd (mo ev S) fun o S1 => match o with
  | .mut l => if isLstAt S1 l then bnd (m ev S1) fun ds S2 => match ds with
    | [d] => match S2[l]?, asL S2 d with
      | some (.lst es), some fs => if es.length + fs.length ≤ sizeLine then some (.non, S2.set l (.lst (es ++ fs))) else none
      | _, _ => none
    | _ => none
    else none
  | _ => none := rfl
theorem ap_lstL {m : MA} : mLstL m ev S = bnd (m ev S) fun ds S1 => if ds.length ≤ sizeLine then some (.mut S1.length, S1 ++ [.lst ds]) else none := rfl
theorem ap_fldM {f : Str} {mo mv : ME} : sFldM f mo mv ev S = bnd (mv ev S) fun d S1 => bnd (mo ev S1) fun o S2 => match o with
  | .mut l => match S2[l]? with
    | some (.ins c fs) => if classes.contains c = true ∧ fs.length < 1000 then some (.nx ev, S2.set l (.ins c (putFD f d fs))) else none
    | _ => none
  | _ => none := rfl
theorem ap_dc {vs : List Nat} {mi : MA} {g : MG} {tt : MT} {mk mv : ME} : mDc vs mi g tt mk mv ev S = bnd (mi ev S) fun items S1 => bnd (dcGo g tt mk mv (wipeE ev vs) items [] S1) fun ds S2 => some (.dic ds, S2) := rfl
theorem ap_kget {tab : List (Str × Dv)} {mk : ME} : mKGet tab mk ev S = bnd (mk ev S) fun k S1 => match k with
  | .str z => match lookD tab z with
    | some d => some (d, S1)
    | none => none
  | _ => none := rfl
theorem ap_put {m mo mi : ME} : sPut m mo mi ev S = bnd (m ev S) fun d S1 => bnd (mo ev S1) fun o S2 => bnd (mi ev S2) fun i S3 => match o, i with
  | .mut l, .int k => match S3[l]? with
    | some (.lst ds) => match ixN ds.length k with
      | some j => some (.nx ev, S3.set l (.lst (ds.set j d)))
      | none => none
    | _ => none
  | _, _ => none := rfl
theorem ap_par {i j : Nat} {m : MA} : sPar i j m ev S = bnd (m ev S) fun ds S1 => match ds with
  | [a, b] => some (.nx ((ev.set i (some a)).set j (some b)), S1)
  | _ => none := rfl
theorem ap_notV {a : ME} : mNotV a ev S = bnd (a ev S) fun c S1 => match c with | .bl k => some (.bl (!k), S1) | _ => none := by
  unfold mNotV
  congr 1
theorem ap_ownEq {c : Str} {neg : Bool} {F : MF} {mo mx : ME} : mOwnEq c neg F mo mx ev S = bnd (mo ev S) fun o S1 => bnd (mx ev S1) fun x S2 => match asO S2 o, tyD S2 x with
  | some (c2, _), some n => if c2 = c ∧ okN n = true then (match F [o, x] S2 with
    | some (.bl b, S3) => some (.bl (if neg then !b else b), S3)
    | _ => none) else none
  | _, _ => none := rfl
theorem ap_eqRef {c : Str} {F : MF} {mx mo : ME} : mEqRef c F mx mo ev S = bnd (mx ev S) fun x S1 => bnd (mo ev S1) fun o S2 => match asO S2 o with
  | some (c2, _) => if c2 = c ∧ reflK S2 x = true then (match F [o, x] S2 with
    | some (.bl b, S3) => some (.bl b, S3)
    | _ => none) else none
  | none => none := rfl
theorem ap_lenO {c : Str} {F : MF} {g : Nat → Dv} {mo : ME} : mLenO c F g mo ev S = bnd (mo ev S) fun o S1 => match asO S1 o with
  | some (c2, _) => if c2 = c then (match F [o] S1 with
    | some (.int n, S2) => if 0 ≤ n ∧ n.toNat < 2 ^ 63 then some (g n.toNat, S2) else none
    | _ => none) else none
  | none => none := rfl
theorem ap_makeK {c : Str} {F : MF} {p : MP} {mk : MA} : mMakeK c F p mk ev S = bnd (mk ev S) fun es S1 => match F (p [.mut S1.length] es) (S1 ++ [.ins c []]) with
  | some (.non, S2) => fin S1.length S2 (.mut S1.length)
  | _ => none := rfl
theorem ap_makeL {i : Nat} {c : Str} {F : MF} {ma : MA} : mMakeL i c F ma ev S = match ev[i]? with
  | some (some (.cls c2)) => if c2 = c then bnd (ma ev S) fun ds S1 => newO c F ds S1 else none
  | _ => none := rfl
theorem ap_yes : mYes ev S = some (true, S) := rfl
theorem ap_next : sNext ev S = some (.nx ev, S) := rfl
theorem ap_seq {a b : MS} : sSeq a b ev S = bnd (a ev S) fun o S1 => match o with | .nx ev1 => b ev1 S1 | o => some (o, S1) := by
  unfold sSeq
  congr 1
theorem ap_set {i : Nat} {m : ME} : sSet i m ev S = bnd (m ev S) fun d S1 => some (.nx (ev.set i (some d)), S1) := rfl
theorem ap_asg {g : MG} {m : ME} : sAsg g m ev S = bnd (m ev S) fun d S1 => match g d ev with | some ev1 => some (.nx ev1, S1) | none => none := rfl
theorem ap_ret {m : ME} : sRet m ev S = bnd (m ev S) fun d S1 => some (.rt d, S1) := rfl
theorem ap_drop {m : ME} : sDrop m ev S = bnd (m ev S) fun _ S1 => some (.nx ev, S1) := rfl
theorem ap_ifS {c : MT} {a b : MS} : sIf c a b ev S = bnd (c ev S) fun k S1 => if k then a ev S1 else b ev S1 := rfl
theorem ap_for {mi : MA} {g : MG} {b : MS} : sFor mi g b ev S = bnd (mi ev S) fun items S1 => forGo g b items ev S1 := rfl
theorem ap_call {F : MF} {m : MA} : mCall F m ev S = bnd (m ev S) fun ds S1 => F ds S1 := rfl
theorem ap_gV {i : Nat} {d : Dv} : gV i d ev = some (ev.set i (some d)) := rfl
theorem ap_fld {f : Str} {m : ME} : mFld f m ev S = bnd (m ev S) fun d S1 => match asO S1 d with
  | some (c, fs) => if classes.contains c then (match lookD fs f with | some x => some (x, S1) | none => none) else none
  | none => none := rfl
theorem ap_prop {c : Str} {F : MF} {mo : ME} : mProp c F mo ev S = bnd (mo ev S) fun o S1 => match asO S1 o with | some (c2, _) => if c2 = c then F [o] S1 else none | none => none := rfl
theorem ap_meth {c m : Str} {F : MF} {dds : List Dv} {mo : ME} {ma : MA} : mMeth c m F dds mo ma ev S = bnd (mo ev S) fun o S1 => match asO S1 o with
  | some (c2, fs) => if c2 = c ∧ (lookD fs m).isNone = true then bnd (ma ev S1) fun ds S2 => F (o :: (ds ++ dds)) S2 else none
  | none => none := rfl
theorem ap_methK {c m : Str} {F : MF} {p : MP} {mo : ME} {mk : MA} : mMethK c m F p mo mk ev S = bnd (mo ev S) fun o S1 => match asO S1 o with
  | some (c2, fs) => if c2 = c ∧ (lookD fs m).isNone = true then bnd (mk ev S1) fun ds S2 => F (p [o] ds) S2 else none
  | none => none := rfl
theorem ap_make {c : Str} {F : MF} {dds : List Dv} {ma : MA} : mMake c F dds ma ev S = bnd (ma ev S) fun ds S1 => newO c F (ds ++ dds) S1 := rfl
theorem ap_cmeth {c : Str} {F : MF} {ma : MA} : mCMeth c F ma ev S = bnd (ma ev S) fun ds S1 => F (.cls c :: ds) S1 := rfl
theorem ap_cmethK {c : Str} {F : MF} {p : MP} {mk : MA} : mCMethK c F p mk ev S = bnd (mk ev S) fun ds S1 => F (p [.cls c] ds) S1 := rfl
theorem ap_ownIn {c : Str} {neg : Bool} {F : MF} {ma mo : ME} : mOwnIn c neg F ma mo ev S = bnd (ma ev S) fun x S1 => bnd (mo ev S1) fun o S2 => match asO S2 o with
  | some (c2, _) => if c2 = c then (match F [o, x] S2 with | some (.bl b, S3) => some (.bl (if neg then !b else b), S3) | _ => none) else none
  | none => none := rfl
theorem ap_strO {c : Str} {F : MF} {mo : ME} : mStrO c F mo ev S = bnd (mo ev S) fun o S1 => match asO S1 o with
  | some (c2, _) => if c2 = c then (match F [o] S1 with | some (.str z, S2) => some (.str z, S2) | _ => none) else none
  | none => none := rfl
/-! ### loops and comprehensions over a known row -/
theorem lcGo_map {α : Type} {g : MG} {tt : MT} {me : ME} (f : α → Dv) (e1 : α → Ev) (p : α → Bool) (h : α → Dv) : ∀ xs : List α,
    (∀ x ∈ xs, g (f x) ev = some (e1 x) ∧ tt (e1 x) S = some (p x, S) ∧ (p x = true → me (e1 x) S = some (h x, S))) →
    lcGo g tt me ev (xs.map f) S = some ((xs.filter p).map h, S)
  | [], _ => rfl
  | x :: xs, k => by
    obtain ⟨a, b, c⟩ := k x (.head _)
    have ih := lcGo_map f e1 p h xs fun y m => k y (.tail _ m)
    rw [List.map_cons, lcGo, a]
    simp only [b, bnd_some]
    cases hp : p x with
    | false =>
      rw [if_neg Bool.false_ne_true, ih, List.filter_cons, hp, if_neg Bool.false_ne_true]
    | true =>
      rw [if_pos rfl, c hp, bnd_some, ih, bnd_some, List.filter_cons, hp, if_pos rfl, List.map_cons]
inductive All2 {α β : Type} (R : α → β → Prop) : List α → List β → Prop
  | nil : All2 R [] []
  | cons {x : α} {y : β} {xs : List α} {ys : List β} : R x y → All2 R xs ys → All2 R (x :: xs) (y :: ys)
/-- a comprehension whose element changes the store -/
theorem lcGo_ind {α : Type} {g : MG} {tt : MT} {me : ME} (f : α → Dv) (I : Sto → Prop) (R : α → Dv → Prop) : ∀ (xs : List α) (S : Sto), I S →
    (∀ x ∈ xs, ∀ S, I S → ∃ ev1 d S', g (f x) ev = some ev1 ∧ tt ev1 S = some (true, S) ∧ me ev1 S = some (d, S') ∧ R x d ∧ I S') →
    ∃ ds S', lcGo g tt me ev (xs.map f) S = some (ds, S') ∧ All2 R xs ds ∧ I S'
  | [], S, i, _ => ⟨[], S, rfl, .nil, i⟩
  | x :: xs, S, i, k => by
    obtain ⟨ev1, d, S1, a, b, c, r, i1⟩ := k x (.head _) S i
    obtain ⟨ds, S2, e, rr, i2⟩ := lcGo_ind f I R xs S1 i1 fun y m => k y (.tail _ m)
    refine ⟨d :: ds, S2, ?_, .cons r rr, i2⟩
    rw [List.map_cons, lcGo, a]
    simp only [b, bnd_some, if_true, c, e]
theorem forGo_ind {α : Type} {g : MG} {b : MS} (f : α → Dv) (I : List α → Ev → Sto → Prop) (all : List α)
    (k : ∀ pre x post ev S, all = pre ++ x :: post → I pre ev S → ∃ ev1 ev2 S', g (f x) ev = some ev1 ∧ b ev1 S = some (.nx ev2, S') ∧ I (pre ++ [x]) ev2 S') : ∀ (xs pre : List α) (ev : Ev) (S : Sto), all = pre ++ xs → I pre ev S →
    ∃ ev' S', forGo g b (xs.map f) ev S = some (.nx ev', S') ∧ I all ev' S'
  | [], pre, ev, S, e, i => ⟨ev, S, rfl, by rw [e, List.append_nil]; exact i⟩
  | x :: xs, pre, ev, S, e, i => by
    obtain ⟨ev1, ev2, S1, a, c, i1⟩ := k pre x xs ev S e i
    obtain ⟨ev3, S3, e3, i3⟩ := forGo_ind f I all k xs (pre ++ [x]) ev2 S1 (by rw [e, List.append_assoc]; rfl) i1
    refine ⟨ev3, S3, ?_, i3⟩
    rw [List.map_cons, forGo, a]
    simp only [c, bnd_some, e3]
/-- a loop that keeps something -/
theorem forGo_keep {α : Type} {g : MG} {b : MS} (f : α → Dv) (I : Ev → Sto → Prop) (xs : List α) (ev : Ev) (S : Sto) (i : I ev S)
    (k : ∀ x ∈ xs, ∀ ev S, I ev S → ∃ ev1 ev2 S', g (f x) ev = some ev1 ∧ b ev1 S = some (.nx ev2, S') ∧ I ev2 S') :
    ∃ ev' S', forGo g b (xs.map f) ev S = some (.nx ev', S') ∧ I ev' S' := by
  obtain ⟨ev', S', e, i'⟩ := forGo_ind f (fun _ => I) xs (fun pre x post ev S e i => k x (by rw [e]; exact List.mem_append_right _ (.head _)) ev S i) xs [] ev S rfl i
  exact ⟨ev', S', e, i'⟩
/-! ### what is told in words -/
/-- a datum that can be told in words, by numbers alone -/
def okShown (p : PyData) : Bool := p.showable && (p.leavesShort 100 && decide (102 * p.bulk + 100 ≤ sizeLine)) && decide (p.depth ≤ 60)
theorem shown_of {p : PyData} (h : okShown p = true) : shown p = some p.shown := by
  unfold okShown at h
  rw [Bool.and_eq_true, Bool.and_eq_true, Bool.and_eq_true, decide_eq_true_eq, decide_eq_true_eq] at h
  exact if_pos ⟨h.1.1, Nat.le_trans (PyData.shown_le_bulk 100 (by decide) p h.1.2.1) h.1.2.2, h.2⟩
end
theorem lz0 : ((0 : Nat) ≤ 16777216) = True := eq_true (Nat.le_of_ble_eq_true rfl)
theorem lz1 : ((1 : Nat) ≤ 16777216) = True := eq_true (Nat.le_of_ble_eq_true rfl)
theorem lz2 : ((2 : Nat) ≤ 16777216) = True := eq_true (Nat.le_of_ble_eq_true rfl)
theorem lz3 : ((3 : Nat) ≤ 16777216) = True := eq_true (Nat.le_of_ble_eq_true rfl)
theorem lz4 : ((4 : Nat) ≤ 16777216) = True := eq_true (Nat.le_of_ble_eq_true rfl)
theorem lz5 : ((5 : Nat) ≤ 16777216) = True := eq_true (Nat.le_of_ble_eq_true rfl)
theorem lz6 : ((6 : Nat) ≤ 16777216) = True := eq_true (Nat.le_of_ble_eq_true rfl)
theorem lz7 : ((7 : Nat) ≤ 16777216) = True := eq_true (Nat.le_of_ble_eq_true rfl)
theorem lz8 : ((8 : Nat) ≤ 16777216) = True := eq_true (Nat.le_of_ble_eq_true rfl)
theorem lz9 : ((9 : Nat) ≤ 16777216) = True := eq_true (Nat.le_of_ble_eq_true rfl)
theorem lz10 : ((10 : Nat) ≤ 16777216) = True := eq_true (Nat.le_of_ble_eq_true rfl)
theorem lz11 : ((11 : Nat) ≤ 16777216) = True := eq_true (Nat.le_of_ble_eq_true rfl)
theorem lz12 : ((12 : Nat) ≤ 16777216) = True := eq_true (Nat.le_of_ble_eq_true rfl)
theorem lz13 : ((13 : Nat) ≤ 16777216) = True := eq_true (Nat.le_of_ble_eq_true rfl)
theorem lz14 : ((14 : Nat) ≤ 16777216) = True := eq_true (Nat.le_of_ble_eq_true rfl)
theorem lz15 : ((15 : Nat) ≤ 16777216) = True := eq_true (Nat.le_of_ble_eq_true rfl)
theorem sz_is : sizeLine = 16777216 := by decide +kernel
/- run the functions as far as they go -/
end Mi

set_option Elab.async false
set_option linter.all false
set_option maxRecDepth 100000
set_option maxHeartbeats 0
/-! Settings, neighbours: pure. -/
namespace Mi
open PySem PySem.Spec PyProof.Rows L2 Sw
def isz (n : Int) : Bool := decide (n = 2 ∨ n = 3)
def sets1 (S : List Str) (z : Str) : List Str := S.flatMap fun s => (chars z).map fun c => s ++ c
def setsOf (zs : List Str) : List Str := zs.foldl sets1 [""]
/-- short texts, few of them -/
structure Fits (zs : List Str) : Prop where
  many : zs.length ≤ 5
  each : ∀ z ∈ zs, (chars z).length ≤ 3
theorem sets1_len (S : List Str) (z : Str) : (sets1 S z).length = S.length * (chars z).length := by
  unfold sets1
  induction S with
  | nil => simp
  | cons s S ih => rw [List.flatMap_cons, List.length_append, ih, List.length_map, List.length_cons, Nat.succ_mul]; omega
theorem setsOf_snoc (zs : List Str) (z : Str) : setsOf (zs ++ [z]) = sets1 (setsOf zs) z := by
  unfold setsOf
  rw [List.foldl_append]
  rfl
theorem fold_len : ∀ (zs : List Str) (S : List Str), (∀ z ∈ zs, (chars z).length ≤ 3) → (zs.foldl sets1 S).length ≤ S.length * 3 ^ zs.length
  | [], S, _ => by simp
  | z :: zs, S, h => by
    have h1 := fold_len zs (sets1 S z) fun y m => h y (.tail _ m)
    have h2 := h z (.head _)
    rw [sets1_len] at h1
    rw [List.foldl_cons]
    refine Nat.le_trans h1 ?_
    rw [List.length_cons, Nat.pow_succ, Nat.mul_comm (3 ^ zs.length) 3, ← Nat.mul_assoc]
    exact Nat.mul_le_mul_right _ (Nat.mul_le_mul_left _ h2)
theorem setsOf_len {zs : List Str} (h : Fits zs) : (setsOf zs).length ≤ 243 := by
  have h1 := fold_len zs [""] h.each
  refine Nat.le_trans h1 ?_
  rw [List.length_singleton, Nat.one_mul]
  calc 3 ^ zs.length ≤ 3 ^ 5 := Nat.pow_le_pow_right (by decide) h.many
    _ = 243 := by decide
theorem str_len_app (a b : Str) : (a ++ b).length = a.length + b.length := by
  show (a.cps ++ b.cps).size = _
  rw [Array.size_append]
  rfl
theorem at_map {α : Type} {f : α → V} {xs : List α} {i : Nat} {v : V} (h : (xs.map f)[i]? = some v) : ∃ x, xs[i]? = some x ∧ v = f x := by
  rw [List.getElem?_map] at h
  cases e : xs[i]? with
  | none =>
    rw [e] at h
    cases h
  | some x =>
    rw [e] at h
    cases h
    exact ⟨x, rfl, rfl⟩
theorem take_next {α : Type} {xs : List α} {i : Nat} {x : α} (h : xs[i]? = some x) : xs.take (i + 1) = xs.take i ++ [x] := by
  rw [List.take_add_one, h]
  rfl
theorem comp_same {H : Hp} {D : Addr} {o : HO} {H0 : Hp} (s : Same H0 H) (n : H0 D = none) : Same H0 (upd H D o) := fun b u e => by
  rw [upd_ne (ne_of_none e n)]
  exact s b u e
theorem sets1_each {S : List Str} {z : Str} {n : Nat} (h : ∀ s ∈ S, s.length = n) : ∀ s ∈ sets1 S z, s.length = n + 1 := by
  intro s hs
  unfold sets1 at hs
  obtain ⟨u, hu, hs⟩ := List.mem_flatMap.mp hs
  obtain ⟨c, hc, rfl⟩ := List.mem_map.mp hs
  unfold chars at hc
  obtain ⟨k, _, rfl⟩ := List.mem_map.mp hc
  rw [str_len_app, h u hu]
  rfl
theorem fold_each : ∀ (zs : List Str) (S : List Str) (n : Nat), (∀ s ∈ S, s.length = n) → ∀ s ∈ zs.foldl sets1 S, s.length = n + zs.length
  | [], S, n, h => h
  | z :: zs, S, n, h => by
    have h1 := fold_each zs (sets1 S z) (n + 1) (sets1_each h)
    intro s hs
    rw [h1 s hs, List.length_cons]
    omega
theorem setsOf_each {zs : List Str} : ∀ s ∈ setsOf zs, s.length = zs.length := fun s hs => by
  have := fold_each zs [""] 0 (fun s hs => by rw [List.mem_singleton.mp hs]; rfl) s hs
  omega
theorem Fits.take {zs : List Str} (h : Fits zs) (i : Nat) : Fits (zs.take i) := ⟨by rw [List.length_take]; have := h.many; omega, fun z m => h.each z (List.mem_of_mem_take m)⟩
def neS (a b : Str) : Bool := !(b == a)
def nbr1 (s z c : Str) (k : Nat) : List Str := ((chars z).filter (neS c)).map fun b => (cutS s none (some (k : Int)) ++ b) ++ cutS s (some ((k : Int) + 1)) none
def nbrN (s : Str) (zs : List Str) : Nat → List Str
  | 0 => []
  | k + 1 => nbrN s zs k ++ (match zs[k]?, (chars s)[k]? with
    | some z, some c => nbr1 s z c k
    | _, _ => [])
def ch (s : Str) (k : Nat) : Str := (chars s).getD k ""
theorem ch_at {s : Str} {k : Nat} (h : k < s.length) : ∃ u, s.cps[k]? = some u ∧ ch s k = ⟨#[u]⟩ := by
  have h' : k < s.cps.size := h
  have e : s.cps[k]? = some s.cps[k] := by simp [h']
  refine ⟨s.cps[k], e, ?_⟩
  unfold ch
  rw [List.getD_eq_getElem?_getD, chars_at e]
  rfl
def apartOf (a b : Str) (n : Nat) : List Nat := (List.range n).filter fun k => !decide (ch a k = ch b k)
def nearOf (S : List Str) (spot : Str) (n : Nat) : List Str := S.filter fun each => decide ((apartOf each spot n).length = 1)
end Mi

set_option Elab.async false
set_option linter.all false
set_option maxRecDepth 100000
set_option maxHeartbeats 4000000
/-! More of running functions by rewriting. -/
namespace Mi
open PySem PySem.Spec PyProof.Rows L2 Sw
section
variable {S S1 : Sto} {ev : Ev}
/-- all of a store can stay -/
def OkS (S : Sto) : Prop := S.all okMo = true
theorem fin_clean {d : Dv} (o : OkS S) (c : clean d = true) : fin S.length S d = some (d, S) := by
  unfold fin
  rw [List.take_length, if_pos (show S.all okMo = true from o)]
  have : frz S.length S d = some d := by
    cases d
    case «mut» l => rw [clean] at c; exact absurd c (by decide)
    all_goals
      unfold frz
      simp only [c, if_true]
  rw [this]
theorem fin_mut {l : Nat} (o : OkS S) (c : l < S.length) : fin S.length S (.mut l) = some (.mut l, S) := by
  unfold fin
  rw [List.take_length, if_pos (show S.all okMo = true from o)]
  show (match (if l < S.length then some (Dv.mut l) else _) with | some d' => some (d', S) | none => none) = _
  rw [if_pos c]
theorem cl_strs : ∀ xs : List Str, cleanL (xs.map .str) = true
  | [] => by simp [cleanL]
  | x :: xs => by simp [cleanL, clean, cl_strs xs]
theorem cl_ints : ∀ xs : List Int, cleanL (xs.map .int) = true
  | [] => by simp [cleanL]
  | x :: xs => by simp [cleanL, clean, cl_ints xs]
theorem cl_of {α : Type} {f : α → Dv} : ∀ xs : List α, (∀ x ∈ xs, clean (f x) = true) → cleanL (xs.map f) = true
  | [], _ => by simp [cleanL]
  | x :: xs, h => by
    rw [List.map_cons, cleanL, h x (.head _), cl_of xs fun y m => h y (.tail _ m)]
    rfl
theorem add_str {a b : Str} (h : a.length + b.length ≤ sizeLine) : fAdd S (.str a) (.str b) = some (.str (a ++ b)) := if_pos h
theorem add_lst {a b : List Dv} (h : a.length + b.length ≤ sizeLine) : fAdd S (.lst a) (.lst b) = some (.lst (a ++ b)) := if_pos h
theorem add_tup {a b : List Dv} (h : a.length + b.length ≤ sizeLine) : fAdd S (.tup a) (.tup b) = some (.tup (a ++ b)) := if_pos h
theorem lc2Go_map {α β : Type} {g g1 : MG} {t t1 : MT} {mi1 : MA} {vs1 : List Nat} {me : ME} (f : α → Dv) (e1 : α → Ev) (f1 : β → Dv) (ys : α → List β) (zs : α → List Dv) : ∀ xs : List α,
    (∀ x ∈ xs, g (f x) ev = some (e1 x) ∧ t (e1 x) S = some (true, S) ∧ mi1 (e1 x) S = some ((ys x).map f1, S) ∧ lcGo g1 t1 me (wipeE (e1 x) vs1) ((ys x).map f1) S = some (zs x, S)) →
    lc2Go g t mi1 vs1 g1 t1 me ev (xs.map f) S = some (xs.flatMap zs, S)
  | [], _ => rfl
  | x :: xs, k => by
    obtain ⟨a, b, c, d⟩ := k x (.head _)
    have ih := lc2Go_map f e1 f1 ys zs xs fun y m => k y (.tail _ m)
    rw [List.map_cons, lc2Go, a]
    simp only [b, bnd_some, if_true, c, d, ih]
    rw [List.flatMap_cons]
theorem lcGo_all {α : Type} {g : MG} {tt : MT} {me : ME} (f : α → Dv) (e1 : α → Ev) (h : α → Dv) (xs : List α)
    (k : ∀ x ∈ xs, g (f x) ev = some (e1 x) ∧ tt (e1 x) S = some (true, S) ∧ me (e1 x) S = some (h x, S)) :
    lcGo g tt me ev (xs.map f) S = some (xs.map h, S) := by
  have := lcGo_map (ev := ev) (S := S) (g := g) (tt := tt) (me := me) f e1 (fun _ => true) h xs fun x m => ⟨(k x m).1, (k x m).2.1, fun _ => (k x m).2.2⟩
  rw [this, List.filter_eq_self.mpr (fun _ _ => rfl)]
theorem le_line {n : Nat} (h : n ≤ 1000000) : n ≤ 16777216 := by omega
theorem bnd_if {α β : Type} {p : Prop} [Decidable p] {a : α} {f : α → Sto → Option β} (h : p) : bnd (if p then some (a, S) else none) f = f a S := by rw [if_pos h]; rfl
theorem sh_int {a : Int} : SeqAt.shaped (.int a) = true := by kernel_rfl
/-- signs that are signs -/
def okT (a : Str) : Bool := PyData.strOk a
theorem okT_app {a b : Str} (ha : okT a = true) (hb : okT b = true) : okT (a ++ b) = true := by
  unfold okT PyData.strOk at *
  show (a.cps ++ b.cps).all _ = true
  rw [Array.all_append, ha, hb]
  rfl
theorem okT_one {z : Str} (h : okT z = true) : ∀ c ∈ chars z, okT c = true := fun c hc => by
  unfold chars at hc
  obtain ⟨k, hk, rfl⟩ := List.mem_map.mp hc
  unfold okT PyData.strOk at *
  rw [← Array.all_toList, List.all_eq_true] at h
  have := h k hk
  simp only [List.all_toArray, List.all_cons, List.all_nil, Bool.and_true]
  exact this
theorem okT_ch {z : Str} (h : okT z = true) {k : Nat} (hk : k < z.length) : okT (ch z k) = true := by
  obtain ⟨u, h1, h2⟩ := ch_at hk
  refine okT_one h _ ?_
  rw [h2]
  unfold chars
  exact List.mem_map.mpr ⟨u, by rw [Array.getElem?_eq_some_iff] at h1; obtain ⟨h3, h4⟩ := h1; rw [← h4, Array.mem_toList_iff]; exact Array.getElem_mem h3, rfl⟩
theorem okT_sets {zs : List Str} : ∀ (zs : List Str) (S : List Str), (∀ z ∈ zs, okT z = true) → (∀ s ∈ S, okT s = true) → ∀ s ∈ zs.foldl sets1 S, okT s = true
  | [], S, _, h => h
  | z :: zs, S, hz, h => okT_sets (zs := zs) zs (sets1 S z) (fun y m => hz y (.tail _ m)) fun s hs => by
    unfold sets1 at hs
    obtain ⟨u, hu, hs⟩ := List.mem_flatMap.mp hs
    obtain ⟨c, hc, rfl⟩ := List.mem_map.mp hs
    exact okT_app (h u hu) (okT_one (hz z (.head _)) c hc)
theorem sh_str {a : Str} (h : okT a = true) : SeqAt.shaped (.str a) = true := by
  simp [SeqAt.shaped, PyData.canLay0, PyData.depth]
  exact h
theorem eqv_int {a b : Int} : PyData.eqv (.int a) (.int b) = decide (a = b) := by
  simp only [PyData.eqv]
  cases h : (a == b) <;> simp_all
theorem eqv_str {a b : Str} : PyData.eqv (.str a) (.str b) = decide (a = b) := by
  simp only [PyData.eqv]
  cases h : (a == b) <;> simp_all
theorem eq_int {a b : Int} : fEq S (.int a) (.int b) = some (.bl (decide (a = b))) := by
  show (if SeqAt.shaped (.int a) && SeqAt.shaped (.int b) then some (Dv.bl (PyData.eqv (.int a) (.int b))) else none) = _
  rw [sh_int, sh_int, eqv_int, Bool.and_true, if_pos rfl]
theorem ne_int {a b : Int} : fNe S (.int a) (.int b) = some (.bl (!decide (a = b))) := by
  show (if SeqAt.shaped (.int a) && SeqAt.shaped (.int b) then some (Dv.bl (!PyData.eqv (.int a) (.int b))) else none) = _
  rw [sh_int, sh_int, eqv_int, Bool.and_true, if_pos rfl]
theorem eq_str {a b : Str} : fEq S (.str a) (.str b) = some (.bl (decide (a = b))) := rfl
theorem ne_str {a b : Str} : fNe S (.str a) (.str b) = some (.bl (!decide (a = b))) := rfl
theorem len_str {a : Str} (h : a.length ≤ 1000000) : fLen S [.str a] = some (.int (a.length : Nat)) := if_pos (by rw [sz_is]; omega)
theorem len_tup {a : List Dv} : fLen S [.tup a] = some (.int (a.length : Nat)) := rfl
theorem len_lst {a : List Dv} : fLen S [.lst a] = some (.int (a.length : Nat)) := rfl
theorem ix_str {a : Str} {k : Nat} (h : a.length ≤ 1000000) (hk : k < a.length) : fIx S (.str a) (.int (k : Nat)) = some (.str (ch a k)) := by
  obtain ⟨u, h1, h2⟩ := ch_at hk
  show (if a.length ≤ sizeLine then (match atI a.cps.toList (k : Int) with | some c => some (Dv.str ⟨#[c]⟩) | none => none) else none) = _
  rw [if_pos (by rw [sz_is]; omega)]
  have e : atI a.cps.toList (k : Int) = some u := by
    have hk2 : k < a.cps.toList.length := hk
    unfold atI ixN
    rw [if_pos (by omega), if_pos (by omega)]
    show a.cps.toList[(k : Int).toNat]? = some u
    rw [Int.toNat_natCast, Array.getElem?_toList]
    exact h1
  rw [e, h2]
theorem c_int {i : Int} : clean (.int i) = true := by simp [clean]
theorem c_bl {i : Bool} : clean (.bl i) = true := by simp [clean]
theorem c_str {i : Str} : clean (.str i) = true := by simp [clean]
theorem c_non : clean .non = true := by simp [clean]
theorem c_tups {xs : List Str} : clean (.tup (xs.map .str)) = true := by rw [clean]; exact cl_strs _
theorem c_lsts {xs : List Str} : clean (.lst (xs.map .str)) = true := by rw [clean]; exact cl_strs _
theorem c_tupi {xs : List Int} : clean (.tup (xs.map .int)) = true := by rw [clean]; exact cl_ints _
theorem t_str {z : Str} : tyD S (.str z) = some (.ty "str") := rfl
theorem t_int {z : Int} : tyD S (.int z) = some (.ty "int") := rfl
theorem t_tup {z : List Dv} : tyD S (.tup z) = some (.ty "tuple") := rfl
theorem i_ss : isiT "str" (.ty "str") = some true := by decide +kernel
theorem i_ii : isiT "int" (.ty "int") = some true := by decide +kernel
theorem i_tt : isiT "tuple" (.ty "tuple") = some true := by decide +kernel
theorem d_dic {ds : List (Key × Dv)} : asD S (.dic ds) = some ds := rfl
theorem k_str {z : Str} : keyOf (.str z) = some (.inr z) := rfl
theorem k_int {z : Int} : keyOf (.int z) = some (.inl z) := rfl
theorem signs_at {y : Str} {n : Nat} (h : y.length = n) : signsD y = (List.range n).map fun k => Dv.str (ch y k) := by
  unfold signsD
  have l : (chars y).length = n := by rw [chars_len]; exact h
  have : chars y = (List.range n).map fun k => ch y k := by
    apply List.ext_getElem?
    intro k
    rw [List.getElem?_map]
    by_cases hk : k < n
    · rw [List.getElem?_range hk]
      unfold ch
      rw [Option.map_some, List.getD_eq_getElem?_getD, List.getElem?_eq_getElem (by omega)]
      rfl
    · rw [List.getElem?_eq_none (by omega), List.getElem?_eq_none (by rw [List.length_range]; omega)]
      rfl
  rw [this, List.map_map]
  rfl
theorem zip_map {α : Type} {f g : α → Dv} : ∀ xs : List α, zipD (xs.map f) (xs.map g) = xs.map fun x => .tup [f x, g x]
  | [] => rfl
  | x :: xs => by
    rw [List.map_cons, List.map_cons, zipD, zip_map xs, List.map_cons]
theorem all_true {α : Type} (xs : List α) : fAll S [.lst (xs.map fun _ => Dv.bl true)] = some (.bl true) := by
  have h : ∀ xs : List α, asBls (xs.map fun _ => Dv.bl true) = some (xs.map fun _ => true) := fun xs => by
    induction xs with
    | nil => rfl
    | cons x xs ih => rw [List.map_cons, asBls, ih]; rfl
  have h2 : ∀ xs : List α, (xs.map fun _ => true).all id = true := fun xs => by
    induction xs with
    | nil => rfl
    | cons x xs ih => rw [List.map_cons, List.all_cons, ih]; rfl
  show (match asBls (xs.map fun _ => Dv.bl true) with | some zs => some (Dv.bl (zs.all id)) | none => none) = _
  rw [h]
  dsimp only
  rw [h2]
theorem repr_of {d : Dv} {p : PyData} (h : toPS S d = some p) (k : okShown p = true) : fRepr S [d] = some (.str p.shown) := by
  show (match toPS S d with | some p => (match shown p with | some z => some (Dv.str z) | none => none) | none => none) = _
  rw [h]
  dsimp only
  rw [shown_of k]
theorem isn_non : fIsN S .non .non = some (.bl true) := rfl
theorem isn_tup {xs : List Dv} : fIsN S (.tup xs) .non = some (.bl false) := rfl
theorem toPL_ints : ∀ ns : List Int, toPL (ns.map .int) = some (ns.map .int)
  | [] => by simp [toPL]
  | n :: ns => by simp [toPL, toP, toPL_ints ns]
theorem toPL_strs : ∀ ns : List Str, toPL (ns.map .str) = some (ns.map .str)
  | [] => by simp [toPL]
  | n :: ns => by simp [toPL, toP, toPL_strs ns]
theorem eqvAll_ints : ∀ ns ms : List Int, PyData.eqvAll (ns.map .int) (ms.map .int) = decide (ns = ms)
  | [], [] => by simp [PyData.eqvAll]
  | [], m :: ms => by simp [PyData.eqvAll]
  | n :: ns, [] => by simp [PyData.eqvAll]
  | n :: ns, m :: ms => by
    rw [List.map_cons, List.map_cons]
    unfold PyData.eqvAll
    rw [eqvAll_ints ns ms, eqv_int]
    by_cases h : n = m <;> by_cases h2 : ns = ms <;> simp [h, h2]
theorem lay_ints : ∀ ns : List Int, PyData.canLayAll0 (ns.map .int) = true ∧ PyData.depthAll (ns.map .int) ≤ 63
  | [] => by simp [PyData.canLayAll0, PyData.depthAll]
  | n :: ns => by simp [PyData.canLayAll0, PyData.depthAll, PyData.canLay0, PyData.depth, lay_ints ns]
theorem lay_strs : ∀ ns : List Str, (∀ z ∈ ns, okT z = true) → PyData.canLayAll0 (ns.map .str) = true ∧ PyData.depthAll (ns.map .str) ≤ 63
  | [], _ => by simp [PyData.canLayAll0, PyData.depthAll]
  | n :: ns, h => by
    have h1 := h n (.head _)
    unfold okT at h1
    simp [PyData.canLayAll0, PyData.depthAll, PyData.canLay0, PyData.depth, lay_strs ns fun z m => h z (.tail _ m), h1]
theorem sh_tupi {ns : List Int} (h : ns.length ≤ 1000000) : SeqAt.shaped (.tuple (ns.map .int)) = true := by
  simp [SeqAt.shaped, PyData.canLay0, PyData.depth]
  exact lay_ints ns
theorem eq_tupi {ns ms : List Int} (h1 : ns.length ≤ 1000000) (h2 : ms.length ≤ 1000000) : fEq S (.tup (ns.map .int)) (.tup (ms.map .int)) = some (.bl (decide (ns = ms))) := by
  have e1 : ∀ ns : List Int, toPS S (.tup (ns.map .int)) = some (.tuple (ns.map .int)) := fun ns => by
    show toP (.tup (ns.map .int)) = _
    rw [toP, toPL_ints]
    rfl
  show fEqD S _ _ = _
  unfold fEqD
  rw [e1, e1]
  dsimp only
  rw [sh_tupi h1, sh_tupi h2, Bool.and_true, if_pos rfl, PyData.eqv, eqvAll_ints]
theorem ib_b : isiC "Board" (.own "Board") = some true := by decide +kernel
theorem tru_bl {b : Bool} : tru S (.bl b) = some b := rfl
end
end Mi

set_option Elab.async false
set_option linter.all false
set_option maxRecDepth 100000
set_option maxHeartbeats 4000000
/-! What can be told in words, by sizes. -/
namespace Mi
open PySem PySem.Spec PyProof.Rows L2 Sw
theorem bulkAll_le {m : Nat} : ∀ xs : List PyData, (∀ x ∈ xs, x.bulk ≤ m) → PyData.bulkAll xs ≤ xs.length * (m + 1)
  | [], _ => by simp [PyData.bulkAll]
  | x :: xs, h => by
    have h1 := bulkAll_le xs fun y hy => h y (.tail _ hy)
    have h2 := h x (.head _)
    rw [PyData.bulkAll, List.length_cons, Nat.succ_mul]
    omega
theorem shortAll {B : Nat} : ∀ xs : List PyData, (∀ x ∈ xs, x.leavesShort B = true) → PyData.leavesShortAll B xs = true
  | [], _ => by simp [PyData.leavesShortAll]
  | x :: xs, h => by
    rw [PyData.leavesShortAll, h x (.head _), shortAll xs fun y hy => h y (.tail _ hy)]
    rfl
theorem showAll : ∀ xs : List PyData, (∀ x ∈ xs, x.showable = true) → PyData.showableAll xs = true
  | [], _ => by simp [PyData.showableAll]
  | x :: xs, h => by
    rw [PyData.showableAll, h x (.head _), showAll xs fun y hy => h y (.tail _ hy)]
    rfl
theorem depthAll_le {m : Nat} : ∀ xs : List PyData, (∀ x ∈ xs, x.depth ≤ m) → PyData.depthAll xs ≤ m
  | [], _ => by simp [PyData.depthAll]
  | x :: xs, h => by
    have h1 := depthAll_le xs fun y hy => h y (.tail _ hy)
    have h2 := h x (.head _)
    rw [PyData.depthAll]
    omega
/-- a datum of a size and a depth -/
structure Sz (b d : Nat) (p : PyData) : Prop where
  show_ : p.showable = true
  short : p.leavesShort 100 = true
  bulk : p.bulk ≤ b
  deep : p.depth ≤ d
theorem Sz.ok {b d : Nat} {p : PyData} (h : Sz b d p) (hb : b ≤ 100000) (hd : d ≤ 60) : okShown p = true := by
  unfold okShown
  rw [h.show_, h.short, decide_eq_true (by have := h.bulk; rw [sz_is]; omega), decide_eq_true (by have := h.deep; omega)]
  rfl
theorem Sz.up {b d b' d' : Nat} {p : PyData} (h : Sz b d p) (hb : b ≤ b') (hd : d ≤ d') : Sz b' d' p := ⟨h.show_, h.short, Nat.le_trans h.bulk hb, Nat.le_trans h.deep hd⟩
theorem Sz.list {b d k : Nat} {xs : List PyData} (h : ∀ x ∈ xs, Sz b d x) (l : xs.length ≤ k) : Sz (k * (b + 1)) (d + 1) (.list xs) := by
  refine ⟨?_, ?_, ?_, ?_⟩
  · rw [PyData.showable]; exact showAll _ fun x m => (h x m).show_
  · rw [PyData.leavesShort]; exact shortAll _ fun x m => (h x m).short
  · rw [PyData.bulk]; exact Nat.le_trans (bulkAll_le _ fun x m => (h x m).bulk) (Nat.mul_le_mul_right _ l)
  · rw [PyData.depth]; have := depthAll_le _ fun x m => (h x m).deep; omega
theorem Sz.tuple {b d k : Nat} {xs : List PyData} (h : ∀ x ∈ xs, Sz b d x) (l : xs.length ≤ k) : Sz (k * (b + 1)) (d + 1) (.tuple xs) := by
  refine ⟨?_, ?_, ?_, ?_⟩
  · rw [PyData.showable]; exact showAll _ fun x m => (h x m).show_
  · rw [PyData.leavesShort]; exact shortAll _ fun x m => (h x m).short
  · rw [PyData.bulk]; exact Nat.le_trans (bulkAll_le _ fun x m => (h x m).bulk) (Nat.mul_le_mul_right _ l)
  · rw [PyData.depth]; have := depthAll_le _ fun x m => (h x m).deep; omega
theorem Sz.str {s : Str} (h : okT s = true) {b d : Nat} (l : s.length ≤ b) : Sz b d (.str s) := by
  refine ⟨?_, ?_, ?_, ?_⟩
  · rw [PyData.showable]
  · rw [PyData.leavesShort, List.all_eq_true]
    intro c hc
    unfold okT PyData.strOk at h
    rw [← Array.all_toList, List.all_eq_true] at h
    have := of_decide_eq_true (h c hc)
    exact decide_eq_true (by omega)
  · rw [PyData.bulk]; exact l
  · rw [PyData.depth]; omega
theorem Sz.bool {k : Bool} {b d : Nat} : Sz b d (.bool k) := by
  refine ⟨?_, ?_, ?_, ?_⟩
  · rw [PyData.showable]
  · rw [PyData.leavesShort] <;> simp
  · rw [PyData.bulk]; omega
  · rw [PyData.depth]; omega
theorem Sz.int {n : Int} (h : n.natAbs < 10 ^ 12) {b d : Nat} : Sz b d (.int n) := by
  refine ⟨?_, ?_, ?_, ?_⟩
  · rw [PyData.showable]
    refine decide_eq_true ?_
    by_cases h0 : n.natAbs = 0
    · rw [h0]; decide
    · exact Nat.lt_trans ((Nat.log2_lt h0).mpr (show n.natAbs < 2 ^ 40 by omega)) (by omega)
  · rw [PyData.leavesShort]
    exact decide_eq_true (Nat.le_trans (PyData.shown_int_le h) (by omega))
  · rw [PyData.bulk] <;> simp
  · rw [PyData.depth] <;> simp
/-- two that are the same tell the same words -/
theorem eq_reprs {S S1 S2 : Sto} {ev : Ev} {X Y : MA} {a b : Dv} {p : PyData} {n d : Nat} (h1 : X ev S = some ([a], S1)) (h2 : Y ev S1 = some ([b], S2)) (ha : toPS S1 a = some p) (hb : toPS S2 b = some p) (s : Sz n d p) (hn : n ≤ 100000) (hd : d ≤ 60) :
    m2 fEq (mCB fRepr X) (mCB fRepr Y) ev S = some (.bl true, S2) := by
  rw [ap_2, ap_cb, h1, bnd_some, repr_of ha (s.ok hn hd)]
  dsimp only
  rw [bnd_some, ap_cb, h2, bnd_some, repr_of hb (s.ok hn hd)]
  dsimp only
  rw [bnd_some]
  show (match some (Dv.bl (decide (p.shown = p.shown))) with | some c => some (c, S2) | none => none) = _
  rw [decide_eq_true rfl]
theorem ne_reprs {S S1 S2 : Sto} {ev : Ev} {X Y : MA} {a b : Dv} {p : PyData} {n d : Nat} (h1 : X ev S = some ([a], S1)) (h2 : Y ev S1 = some ([b], S2)) (ha : toPS S1 a = some p) (hb : toPS S2 b = some p) (s : Sz n d p) (hn : n ≤ 100000) (hd : d ≤ 60) :
    m2 fNe (mCB fRepr X) (mCB fRepr Y) ev S = some (.bl false, S2) := by
  rw [ap_2, ap_cb, h1, bnd_some, repr_of ha (s.ok hn hd)]
  dsimp only
  rw [bnd_some, ap_cb, h2, bnd_some, repr_of hb (s.ok hn hd)]
  dsimp only
  rw [bnd_some]
  show (match some (Dv.bl (!decide (p.shown = p.shown))) with | some c => some (c, S2) | none => none) = _
  rw [decide_eq_true rfl]
  rfl
theorem mDef_of {k : Nat} {m : MS} {ds : List Dv} {S : Sto} {d : Dv} (h : m (ds.map some ++ List.replicate k none) S = some (.rt d, S)) (o : OkS S) (c : clean d = true) : mDef k m ds S = some (d, S) := by
  unfold mDef
  rw [h]
  exact fin_clean o c
end Mi

set_option Elab.async false
set_option linter.all false
set_option maxRecDepth 100000
set_option maxHeartbeats 4000000
/-! Sets, pop, index, t[::-1], str(t), bool(o), tuples that are known. -/
namespace Mi
open PySem PySem.Spec PyProof.Rows L2 Sw
section
variable {G : Gc} {H H' : Hp} {ρ ρ' : List Addr} {Z : Fm} {S : Sto}
/-- set() -/
def mSetNew : ME := fun _ S => some (.mut S.length, S ++ [.set []])
theorem snd_setNew {P : Program} : Snd G (tCB (rSet0K P G.w) tNil) mSetNew := by
  intro σ H ρ Z ev S d S' Q w r e q
  cases e
  refine ⟨rfl, fun p n => ?_⟩
  obtain ⟨w2, s2⟩ := w.newL (o := SetK P G.w p (fun _ => false) 0) (m := .set []) n ⟨List.nodup_nil, P, rfl⟩
  exact q _ _ _ w2 s2 (.mut (by rw [← w.len]; simp))
theorem setK_P {P P' : Program} {w : World} {a : Addr} {S : Key → Bool} {n : Nat} : SetK P w a S n = SetK P' w a S n := rfl
theorem cellS (w : Wo G H ρ Z S) (P : Program) {l : Nat} {a : Addr} {ks : List Key} (ea : ρ[l]? = some a) (e : S[l]? = some (.set ks)) : ks.Nodup ∧ H a = some (SetK P G.w a (fun k => ks.any fun j => decide (j = k)) ks.length) := by
  obtain ⟨b, ho, h1, h2, h3⟩ := w.cell l _ e
  rw [ea] at h1
  cases h1
  cases ho <;> first | exact h3.elim | skip
  obtain ⟨n, P', e2⟩ := h3
  exact ⟨n, by rw [h2, e2]; rfl⟩
/-- s.add(x) -/
def hasK (ks : List Key) (k : Key) : Bool := ks.any fun j => decide (j = k)
theorem hasK_iff {ks : List Key} {k : Key} : hasK ks k = true ↔ k ∈ ks := by simp [hasK]
def addK (ks : List Key) (k : Key) : List Key := if hasK ks k = true then ks else k :: ks
theorem addK_nodup {ks : List Key} {k : Key} (h : ks.Nodup) : (addK ks k).Nodup := by
  unfold addK
  split
  · exact h
  · rename_i n
    exact List.nodup_cons.mpr ⟨fun m => n (hasK_iff.mpr m), h⟩
def mSAdd (mo : ME) (m : MA) : ME := fun ev S => bnd (mo ev S) fun o S1 => match o with
  | .mut l => match S1[l]? with
    | some (.set _) => bnd (m ev S1) fun ds S2 => match ds with
      | [d] => match S2[l]?, keyOf d with
        | some (.set ks), some k => if ks.length + 1 < scanBound then some (.non, S2.set l (.set (addK ks k))) else none
        | _, _ => none
      | _ => none
    | _ => none
  | _ => none
theorem snd_sadd {P : Program} {to : TE} {t : TA} {mo : ME} {m : MA} (ho : Snd G to mo) (h : SndA G t m) : Snd G (tSAddK P G.w to t) (mSAdd mo m) := by
  intro σ H ρ Z ev S d S' Q w r e q
  obtain ⟨o, S1, e1, e⟩ := bnd_eq e
  cases o with
  | «mut» l =>
    simp only at e
    split at e
    case h_2 => cases e
    rename_i ks0 e0
    obtain ⟨ds, S2, e2, e⟩ := bnd_eq e
    refine ho σ H ρ Z ev S _ S1 _ w r e1 fun x H1 ρ1 w1 s1 r1 => ?_
    cases r1
    rename_i a ha
    obtain ⟨_, h50⟩ := cellS w1 P ha e0
    refine ⟨⟨a, _, _, rfl, h50⟩, h σ H1 ρ1 Z ev S1 ds S2 _ w1 (r.stp s1) e2 fun vs H2 ρ2 w2 s2 r2 => ?_⟩
    match ds, e, r2 with
    | [y], e, r2 =>
      simp only at e
      split at e
      case h_2 => cases e
      rename_i ks k e3 e4
      split at e
      case isFalse => cases e
      rename_i hz
      cases e
      obtain ⟨nd, h5⟩ := cellS w2 P (s2.at _ _ ha) e3
      obtain ⟨v, rfl, rv⟩ := repL1 r2
      have ev := keyOf_ok rv e4
      subst ev
      have eS : (SetK P G.w a (fun j => (ks.any fun i => decide (i = j)) || decide (j = k)) (if (ks.any fun j => decide (j = k)) = true then ks.length else ks.length + 1)) = SetK P G.w a (fun j => (addK ks k).any fun i => decide (i = j)) (addK ks k).length := by
        unfold addK
        by_cases hk : hasK ks k = true
        · have hk2 : (ks.any fun j => decide (j = k)) = true := hk
          rw [if_pos hk2, if_pos hk]
          congr 1
          funext j
          by_cases ej : j = k
          · subst ej
            rw [hk2]
            rfl
          · simp [ej]
        · have hk2 : ¬ (ks.any fun j => decide (j = k)) = true := hk
          rw [if_neg hk2, if_neg hk]
          congr 1
          funext j
          rw [List.any_cons, Bool.or_comm]
          congr 1
          exact decide_eq_decide.mpr ⟨fun z => z.symm, fun z => z.symm⟩
      obtain ⟨w4, s4⟩ := w2.set (o := SetK P G.w a (fun j => (addK ks k).any fun i => decide (i = j)) (addK ks k).length) (m := .set (addK ks k)) (s2.at _ _ ha) ⟨addK_nodup nd, P, rfl⟩
      refine ⟨a, k, _, _, rfl, rfl, h5, hz, ?_⟩
      rw [eS]
      exact q _ _ ρ2 w4 ((s1.trans s2).trans s4) .non
    | [], e, _ => cases e
    | _ :: _ :: _, e, _ => cases e
  | _ => cases e
/-- x in s, x not in s -/
def fSIn (neg : Bool) : FOp := fun S a b => match b with
  | .mut l => match S[l]?, keyOf a with
    | some (.set ks), some k => some (.bl (if neg then !(hasK ks k) else hasK ks k))
    | _, _ => none
  | _ => none
theorem snd_sin {P : Program} {neg : Bool} : SndOp G (rSInK P G.w neg) (fSIn neg) := by
  intro x y a b c H ρ Z S Q w rx ry e q
  cases b with
  | «mut» l =>
    simp only [fSIn] at e
    split at e
    case h_2 => cases e
    rename_i ks k e1 e2
    cases e
    cases ry
    rename_i p hp
    obtain ⟨_, h⟩ := cellS w P hp e1
    exact ⟨k, p, _, _, keyOf_ok rx e2, rfl, h, q _ H (.refl _) (.bl _)⟩
  | _ => cases e
/-- xs.pop(i) -/
def mPopAt (mo : ME) (m : MA) : ME := fun ev S => bnd (mo ev S) fun o S1 => match o with
  | .mut l => if isLstAt S1 l then bnd (m ev S1) fun ds S2 => match ds with
    | [.int i] => match S2[l]? with
      | some (.lst es) => if 0 ≤ i ∧ i.toNat < es.length ∧ i.natAbs < 2 ^ 63 then (match es[i.toNat]? with
        | some d => some (d, S2.set l (.lst (es.eraseIdx i.toNat)))
        | none => none) else none
      | _ => none
    | _ => none
    else none
  | _ => none
theorem repL_erase {h : Hp} : ∀ {vs : List V} {ds : List Dv} (i : Nat), RepL G h ρ vs ds → RepL G h ρ (vs.eraseIdx i) (ds.eraseIdx i)
  | _, _, _, .nil => .nil
  | _, _, 0, .cons _ r => r
  | _, _, i + 1, .cons a r => .cons a (repL_erase i r)
theorem seqIx_nat {i : Int} {n : Nat} (h0 : 0 ≤ i) (h1 : i.toNat < n) : seqIndex? i n = some i.toNat := by
  have e1 : ¬ i < 0 := by omega
  have e2 : i < (n : Int) := by omega
  simp [seqIndex?, e1, h0, e2]
theorem snd_popAt {to : TE} {t : TA} {mo : ME} {m : MA} (ho : Snd G to mo) (h : SndA G t m) : Snd G (tBM G.K "list" rPopAt to t) (mPopAt mo m) := by
  intro σ H ρ Z ev S d S' Q w r e q
  obtain ⟨o, S1, e1, e⟩ := bnd_eq e
  cases o with
  | «mut» l =>
    simp only at e
    split at e
    case isFalse => cases e
    rename_i il
    obtain ⟨ds, S2, e2, e⟩ := bnd_eq e
    obtain ⟨es0, e0⟩ := isLstAt_ok il
    refine ho σ H ρ Z ev S _ S1 _ w r e1 fun x H1 ρ1 w1 s1 r1 => ?_
    cases r1
    rename_i a ha
    obtain ⟨us0, h50, h60⟩ := cellL w1 ha e0
    refine ⟨.inl ⟨rfl, us0, .inl (.inl h50)⟩, h σ H1 ρ1 Z ev S1 ds S2 _ w1 (r.stp s1) e2 fun vs H2 ρ2 w2 s2 r2 => ?_⟩
    split at e
    case h_2 => cases e
    rename_i i
    split at e
    case h_2 => cases e
    rename_i es e3
    split at e
    case isFalse => cases e
    rename_i hz
    split at e
    case h_2 => cases e
    rename_i d1 e4
    cases e
    obtain ⟨us, h5, h6⟩ := cellL w2 (s2.at _ _ ha) e3
    obtain ⟨v, rfl, rv⟩ := repL1 r2
    cases rv
    obtain ⟨y, hy, ry⟩ := h6.at e4
    obtain ⟨w4, s4⟩ := w2.set (o := .lst (us.eraseIdx i.toNat)) (m := .lst (es.eraseIdx i.toNat)) (s2.at _ _ ha) (repL_erase _ h6)
    exact ⟨a, us, i, i.toNat, y, rfl, rfl, h5, by omega, by omega, seqIx_nat hz.1 (by rw [h6.length]; exact hz.2.1), hy, q _ _ ρ2 w4 ((s1.trans s2).trans s4) (s4.rep ry)⟩
  | _ => cases e
/-- tuple(xs), known to have no dict -/
def mTupN (m : ME) : ME := fun ev S => bnd (m ev S) fun d S1 => match d with
  | .lst ds => some (.tupN ds, S1)
  | .mut l => match S1[l]? with
    | some (.lst ds) => some (.tupN ds, S1)
    | _ => none
  | _ => none
theorem Wo.newF (w : Wo G H ρ Z S) {p : Addr} {ob : Obj} {vs : List V} (n : H p = none) : Wo G (upd H p (.frz ob (.tup vs))) ρ Z S ∧ Stp H ρ Z (upd H p (.frz ob (.tup vs))) ρ ∧ hid (upd H p (.frz ob (.tup vs))) (ρ ++ Z.z) p = some (.frz ob (.tup vs)) := w.new n
theorem snd_tupN {t : TE} {m : ME} (h : Snd G t m) : Snd G (tThen t (kTupN G.K)) (mTupN m) := by
  intro σ H ρ Z ev S d S' Q w r e q
  obtain ⟨c, S1, e1, e⟩ := bnd_eq e
  refine h σ H ρ Z ev S c S1 _ w r e1 fun v H1 ρ1 w1 s1 r1 => ?_
  have fin : ∀ {ds : List Dv} {vs : List V} {a : Addr}, v = .ref a → SqL G.K H1 a vs → RepL G (hid H1 (ρ1 ++ Z.z)) ρ1 vs ds → some (Dv.tupN ds, S1) = some (d, S') → kTupN G.K v H1 Q := fun {ds vs a} ev hs rl e => by
    cases e
    refine ⟨a, vs, ev, hs, fun p ob n nd => ?_⟩
    obtain ⟨w2, s2, e4⟩ := w1.newF (ob := ob) (vs := vs) n
    exact q _ _ ρ1 w2 (s1.trans s2) (.tupN e4 nd (s2.repL rl))
  split at e
  · cases r1
    rename_i a vs h1 h2
    exact fin rfl (.inl (.inl (hid_le _ _ h1))) h2 e
  · split at e
    · rename_i ds e3
      cases r1
      rename_i a ha
      obtain ⟨vs, h3, h4⟩ := cellL w1 ha e3
      exact fin rfl (.inl (.inl h3)) h4 e
    · cases e
  · cases e
/-- a known tuple as any tuple -/
def weak : Dv → Dv
  | .tupN ds => .tup ds
  | d => d
def mWeak (m : ME) : ME := fun ev S => bnd (m ev S) fun d S1 => some (weak d, S1)
theorem rep_weak {h : Hp} {v : V} {d : Dv} (r : Rep G h ρ v d) : Rep G h ρ v (weak d) := by
  cases d <;> first
    | exact r
    | (cases r
       rename_i e n r
       exact .tup (.inl (.inr ⟨_, e⟩)) r)
theorem snd_weak {t : TE} {m : ME} (h : Snd G t m) : Snd G t (mWeak m) := by
  intro σ H ρ Z ev S d S' Q w r e q
  obtain ⟨c, S1, e1, e⟩ := bnd_eq e
  cases e
  exact h σ H ρ Z ev S c S' _ w r e1 fun v H1 ρ1 w1 s1 r1 => q v H1 ρ1 w1 s1 (rep_weak r1)
theorem idx_lt {α} [BEq α] [LawfulBEq α] {z : α} : ∀ {ys : List α} {m : Nat}, m < ys.idxOf z → ys[m]? ≠ some z
  | [], m, h => by simp
  | y :: ys, 0, h => by
    intro e
    simp at e
    subst e
    simp at h
  | y :: ys, m + 1, h => by
    rw [List.idxOf_cons] at h
    cases e : (y == z)
    · rw [e] at h
      simp at h
      simpa using idx_lt (ys := ys) (m := m) h
    · rw [e] at h
      simp at h
/-- t.index(x) -/
def rTIx (K : PySem.W.Frag) : V → List V → Hp → VK → Prop := fun x xs H Q => ∃ p, ∃ ys : List Str, ∃ z j, x = .ref p ∧ xs = [.str z] ∧ SqT K H p (ys.map V.str) ∧ ys[j]? = some z ∧ (∀ m, m < j → ys[m]? ≠ some z) ∧ Q (.int (j : Nat)) H
def mTIx (mo : ME) (m : MA) : ME := fun ev S => bnd (mo ev S) fun o S1 => match o with
  | .tupN ts => bnd (m ev S1) fun ds S2 => match ds, asStrs ts with
    | [.str z], some ys => if z ∈ ys then some (.int (ys.idxOf z : Nat), S2) else none
    | _, _ => none
  | _ => none
theorem snd_tix {to : TE} {t : TA} {mo : ME} {m : MA} (ho : Snd G to mo) (h : SndA G t m) : Snd G (tTIx to t (rTIx G.K)) (mTIx mo m) := by
  intro σ H ρ Z ev S d S' Q w r e q
  obtain ⟨o, S1, e1, e⟩ := bnd_eq e
  split at e
  case h_2 => cases e
  rename_i ts
  obtain ⟨ds, S2, e2, e⟩ := bnd_eq e
  split at e
  case h_2 => cases e
  rename_i z ys e3
  split at e
  case isFalse => cases e
  rename_i hm
  cases e
  refine ho σ H ρ Z ev S _ S1 _ w r e1 fun x H1 ρ1 w1 s1 r1 => ?_
  cases r1
  rename_i a ob vs he nd rl
  refine ⟨⟨a, ob, vs, rfl, hid_le _ _ he, nd⟩, h σ H1 ρ1 Z ev S1 _ S' _ w1 (r.stp s1) e2 fun us H2 ρ2 w2 s2 r2 => ?_⟩
  obtain ⟨v, rfl, rv⟩ := repL1 r2
  cases rv
  have he2 := s2.same.frzT he
  obtain ⟨ev2, _⟩ := asStrs_ok e3 rl
  subst ev2
  refine ⟨a, ys, z, ys.idxOf z, rfl, rfl, .inl (.inr ⟨ob, hid_le _ _ he2⟩), ?_, fun m hm1 hm2 => ?_, q _ H2 ρ2 w2 (s1.trans s2) (.int _)⟩
  · have := List.idxOf_lt_length_of_mem hm
    rw [List.getElem?_eq_getElem this, List.getElem_idxOf this]
  · exact idx_lt hm1 hm2
/-- t[::-1] -/
def mRev (mo mi : ME) : ME := fun ev S => bnd (mo ev S) fun o S1 => bnd (mi ev S1) fun i S2 => match o, i with
  | .tup ds, .int (-1) => some (.tup ds.reverse, S2)
  | _, _ => none
theorem RepL.rev {h : Hp} : ∀ {vs : List V} {ds : List Dv}, RepL G h ρ vs ds → RepL G h ρ vs.reverse ds.reverse
  | _, _, .nil => .nil
  | _, _, .cons a r => by
    rw [List.reverse_cons, List.reverse_cons]
    exact (RepL.rev r).app (.cons a .nil)
theorem snd_rev {te tf : TE} {mo mi : ME} (ho : Snd G te mo) (hi : Snd G tf mi) : Snd G (tRev G.K te tf) (mRev mo mi) := by
  intro σ H ρ Z ev S d S' Q w r e q
  obtain ⟨o, S1, e1, e⟩ := bnd_eq e
  obtain ⟨i, S2, e2, e⟩ := bnd_eq e
  split at e
  case h_2 => cases e
  rename_i ds
  cases e
  refine ho σ H ρ Z ev S _ S1 _ w r e1 fun x H1 ρ1 w1 s1 r1 => ?_
  refine hi σ H1 ρ1 Z ev S1 _ S' _ w1 (r.stp s1) e2 fun y H2 ρ2 w2 s2 r2 => ?_
  have r3 := s2.rep r1
  cases r2
  cases r3
  rename_i a vs h1 h2
  refine ⟨a, vs, rfl, rfl, sqt_same hid_le h1, fun p n => ?_⟩
  obtain ⟨w4, s4, e4⟩ := w2.new (o := .tup vs.reverse) n
  exact q _ _ ρ2 w4 ((s1.trans s2).trans s4) (.tup (.inl (.inl e4)) (s4.repL (RepL.rev h2)))
/-- str(t) of data -/
def fStrT : FC := fun S xs => match xs with
  | [.tup ds] => match toPS S (.tup ds) with
    | some p => match shown p with
      | some z => some (.str z)
      | none => none
    | none => none
  | _ => none
theorem snd_strT : SndC G (rStrT G.K) fStrT := by
  intro xs ds c H ρ Z S Q w rx e q
  unfold fStrT at e
  split at e
  case h_2 => cases e
  rename_i ts
  split at e
  case h_2 => cases e
  rename_i p e1
  split at e
  case h_2 => cases e
  rename_i z e2
  cases e
  unfold shown at e2
  split at e2
  case isFalse => cases e2
  rename_i hs
  cases e2
  obtain ⟨v, rfl, r⟩ := repL1 rx
  have hd := toPS_ok w r e1
  cases r
  exact ⟨_, p, rfl, .flat hd, hs.1, hs.2.1, hs.2.2, q _ H (.refl _) (.str _)⟩
/-- bool(o), always True -/
def fBoolNo (c : Str) : FC := fun S xs => match xs with
  | [d] => match asO S d with
    | some (c', _) => if c' = c then some (.bl true) else none
    | none => none
  | _ => none
theorem snd_boolNo {c : Str} {C : Addr} (hc : G.mg c = some (.ref C)) : SndC G (rBoolNo C) (fBoolNo c) := by
  intro xs ds r H ρ Z S Q w rx e q
  unfold fBoolNo at e
  split at e
  case h_2 => cases e
  split at e
  case h_2 => cases e
  rename_i c' fs e1
  split at e
  case isFalse => cases e
  rename_i ec
  cases e
  subst ec
  obtain ⟨v, rfl, rv⟩ := repL1 rx
  obtain ⟨a, C', dx, fv, rfl, h1, h2, _⟩ := asO_ok w rv e1
  rw [hc] at h1
  cases h1
  exact ⟨a, dx, fv, rfl, h2, q _ H (.refl _) (.bl _)⟩
end
end Mi

set_option Elab.async false
set_option linter.all false
set_option maxRecDepth 100000
set_option maxHeartbeats 4000000
/-! The law's all: a new list that its caller may change. -/
namespace Mi
open PySem PySem.Spec PyProof.Rows L2 Sw
theorem sets1_next {S : List Str} {z s : Str} {i : Nat} (h : S[i]? = some s) : sets1 (S.take (i + 1)) z = sets1 (S.take i) z ++ (chars z).map fun c => s ++ c := by
  unfold sets1
  rw [take_next h, List.flatMap_append]
  simp
theorem sets1_take_len {S : List Str} {z : Str} {i : Nat} : (sets1 (S.take i) z).length ≤ S.length * (chars z).length := by
  rw [sets1_len, List.length_take]
  exact Nat.mul_le_mul_right _ (Nat.min_le_right _ _)
theorem lst_next {xs : List Str} {ys : List Str} {x : Str} (h : ys = xs ++ [x]) : some (HO.lst (xs.map V.str ++ [V.str x])) = some (HO.lst (ys.map V.str)) := by
  rw [h, List.map_append]
  rfl
theorem char_len {z c : Str} {k : Nat} (hc : (chars z)[k]? = some c) : c.length = 1 := by
  unfold chars at hc
  rw [List.getElem?_map] at hc
  cases e : z.cps.toList[k]? with
  | none =>
    rw [e] at hc
    cases hc
  | some u =>
    rw [e] at hc
    cases hc
    rfl
def wholeOf (ns : List Int) : List Str := ns.map fun n => cutS "012" none (some n)
theorem small1000' {n : Nat} (h : n < 1000) : n < sizeLine := by
  have : (1000 : Nat) < sizeLine := by decide
  omega
theorem comp_grow {H : Hp} {D : Addr} {vs : List V} {H0 : Hp} (s : Grow H0 H) (n : H0 D = none) : Grow H0 (upd H D (.lst vs)) := ⟨comp_same s.same n, fun a o k e => by
  by_cases q : a = D
  · subst q
    rw [upd_same] at e
    cases e
  · rw [upd_ne q] at e
    exact s.nf a o k e⟩
def spAllG (K : PySem.W.Frag) : Sp := fun vs H Q _ => ∃ (a : Addr) (ns : List Int), vs = [.ref a] ∧ SqT K H a (ns.map V.int) ∧ Fits (wholeOf ns) ∧
  ∀ H' p, Grow H H' → H p = none → H' p = some (.lst ((setsOf (wholeOf ns)).map V.str)) → Q (.ref p) H'
def asInts : List Dv → Option (List Int)
  | [] => some []
  | .int n :: ds => match asInts ds with
    | some ns => some (n :: ns)
    | none => none
  | _ => none
theorem asInts_ok {G : Gc} {h : Hp} {ρ : List Addr} : ∀ {ds : List Dv} {ns : List Int} {vs : List V}, asInts ds = some ns → RepL G h ρ vs ds → vs = ns.map V.int
  | [], ns, _, e, .nil => by cases e; rfl
  | d :: ds, ns, _, e, .cons a r => by
    cases d with
    | int n =>
      simp only [asInts] at e
      split at e
      · rename_i ms e1
        cases e
        rw [asInts_ok e1 r]
        cases a
        rfl
      · cases e
    | _ => cases e
@[simp] theorem asInts_map (ns : List Int) : asInts (ns.map .int) = some ns := by
  induction ns with
  | nil => rfl
  | cons n ns ih => simp only [List.map_cons, asInts, ih]
/-- whether the letters fit -/
def fitsI (ns : List Int) : Bool := decide (ns.length ≤ 5) && (wholeOf ns).all fun z => decide ((chars z).length ≤ 3)
theorem fitsI_ok {ns : List Int} (h : fitsI ns = true) : Fits (wholeOf ns) := by
  unfold fitsI at h
  rw [Bool.and_eq_true] at h
  exact ⟨by unfold wholeOf; rw [List.length_map]; exact of_decide_eq_true h.1, fun z m => of_decide_eq_true (List.all_eq_true.mp h.2 z m)⟩
def F__law_allM : MF := fun ds S => match ds with
  | [.tup ts] => match asInts ts with
    | some ns => if fitsI ns = true then some (.mut S.length, S ++ [.lst ((setsOf (wholeOf ns)).map .str)]) else none
    | none => none
  | _ => none
theorem Wo.laid {G : Gc} {H H' : Hp} {ρ : List Addr} {Z : Fm} {S : Sto} {p : Addr} {vs : List V} {ds : List Dv} (w : Wo G H ρ Z S) (g : Grow H H') (n : H p = none) (e : H' p = some (.lst vs)) (r : RepL G (hid H (ρ ++ Z.z)) ρ vs ds) :
    Wo G H' (ρ ++ [p]) Z (S ++ [.lst ds]) ∧ Stp H ρ Z H' (ρ ++ [p]) := by
  let H0 : Hp := fun b => if b = p then none else H' b
  have e0 : upd H0 p (.lst vs) = H' := by
    funext b
    unfold upd
    by_cases q : b = p
    · subst q
      rw [if_pos rfl, e]
    · rw [if_neg q]
      show (if b = p then none else H' b) = H' b
      rw [if_neg q]
  have n0 : H0 p = none := if_pos rfl
  have g0 : Grow H H0 := ⟨fun b o eb => by
    have nb : b ≠ p := fun q => by subst q; rw [n] at eb; cases eb
    show (if b = p then none else H' b) = some o
    rw [if_neg nb]
    exact g.same b o eb, fun a o k ea => by
    have na : a ≠ p := fun q => by
      subst q
      rw [n0] at ea
      cases ea
    have ea : (if a = p then none else H' a) = _ := ea
    rw [if_neg na] at ea
    exact g.nf a o k ea⟩
  obtain ⟨w0, s0⟩ := w.grow g0
  obtain ⟨w1, s1⟩ := w0.newL (o := .lst vs) (m := .lst ds) n0 (s0.repL r)
  rw [e0] at w1 s1
  exact ⟨w1, s0.trans s1⟩
theorem repL_strs {G : Gc} {h : Hp} {ρ : List Addr} : ∀ zs : List Str, RepL G h ρ (zs.map .str) (zs.map .str)
  | [] => .nil
  | z :: zs => .cons (.str z) (repL_strs zs)
theorem sp_all {G : Gc} {vs : List V} {H : Hp} {Q : VK} {E : XK} (h : spM G 1 F__law_allM vs H Q E) : spAllG G.K vs H Q E := by
  obtain ⟨hn, ρ, Z, S, ds, d, S', w, r, e, q⟩ := h
  unfold F__law_allM at e
  split at e
  case h_2 => cases e
  rename_i ts
  split at e
  case h_2 => cases e
  rename_i ns e1
  split at e
  case isFalse => cases e
  rename_i f
  cases e
  obtain ⟨v, rfl, rv⟩ := repL1 r
  cases rv
  rename_i a us hS rl
  have := asInts_ok e1 rl
  subst this
  refine ⟨a, ns, rfl, sqt_same hid_le hS, fitsI_ok f, fun H' p g np hp => ?_⟩
  obtain ⟨w1, s1⟩ := w.laid g np hp (repL_strs _)
  exact q _ H' (ρ ++ [p]) w1 s1 (.mut (by rw [← w.len]; simp))
theorem FnOk_imp {P : Program} {w : World} {K : PySem.W.Frag} {mg : Str → Option Value} {base : Heap} {k : Nat} {f : Addr} {fd : FuncData} {ps : List Str} {sp sp' : Sp} (F : FnOk P w K mg base CX0 k f fd ps sp) (i : ∀ vs H Q E, sp' vs H Q E → sp vs H Q E) : FnOk P w K mg base CX0 k f fd ps sp' :=
  ⟨fun vs H Q E h => F.len vs H Q E (i _ _ _ _ h), fun A outer s H args us vs Q E hr he hb hv hs => F.run A outer s H args us vs Q E hr he hb hv (i _ _ _ _ hs)⟩
end Mi

set_option Elab.async false
set_option linter.all false
set_option maxRecDepth 100000
set_option maxHeartbeats 4000000
/-! Walks over dicts, under a lock. -/
namespace Mi
open PySem PySem.Spec PyProof.Rows L2 Sw
section
variable {G : Gc} {H H' : Hp} {ρ ρ' : List Addr} {Z : Fm} {S : Sto}
/-- the dict of a slot is locked -/
def LkAt (i : Nat) (σ : L2.St) (H : Hp) : Prop := ∃ D o kvs, σ[i]? = some (some (.ref D)) ∧ H D = some (.frz o (.dK kvs))
def keyD : Key → Dv
  | .inl i => .int i
  | .inr z => .str z
theorem keyD_rep {h : Hp} (k : Key) : Rep G h ρ (kV k) (keyD k) := by
  cases k
  · exact .int _
  · exact .str _
/-- the keys of a slot's dict -/
def mItK (i : Nat) : MA := fun ev S => match ev[i]? with
  | some (some (.dic ds)) => some (ds.map fun kv => keyD kv.1, S)
  | _ => none
def iKc (i : Nat) : TI := fun σ H R => LkAt i σ H → iKeys (tVar i) σ H R
theorem krep_at {kvs : List (Key × V)} {ds : List (Key × Dv)} (e : kvs.map (·.1) = ds.map (·.1)) {i : Nat} {k : Key} {v : V} (h1 : kvs[i]? = some (k, v)) : (ds.map fun kv => keyD kv.1)[i]? = some (keyD k) := by
  have : (ds.map (·.1))[i]? = some k := by
    rw [← e, List.getElem?_map, h1]
    rfl
  rw [List.getElem?_map] at this ⊢
  cases q : ds[i]? with
  | none => rw [q] at this; cases this
  | some x =>
    rw [q] at this
    simp only [Option.map_some, Option.some.injEq] at this ⊢
    rw [this]
theorem snd_itK {i : Nat} : SndI G (iKc i) (mItK i) := by
  intro σ H ρ Z ev S items S' R w r e q c
  obtain ⟨D, o, kvs, hD, hH⟩ := c
  unfold mItK at e
  split at e
  case h_2 => cases e
  rename_i ds e1
  cases e
  obtain ⟨v, hv, rv⟩ := r.at_ i _ e1
  rw [hD] at hv
  cases hv
  cases rv
  rename_i kvs2 h2 h3 h4
  have e2 : kvs2 = kvs := by
    rcases (Sm.of hid_le).rd h2 with h2 | ⟨ob, h2⟩
    · rw [hH] at h2; cases h2
    · rw [hH] at h2; cases h2; rfl
  subst e2
  have vis : D ∉ ρ ++ Z.z := by
    rcases h2 with h2 | ⟨ob, h2⟩
    · exact (hid_in h2).1
    · exact (hid_in h2).1
  obtain ⟨p, mp, ep⟩ := w.nofz.2 D o kvs2 hH
  have ep2 : p.2 = .frz o (.dK kvs2) := by
    have := (w.nofz.1 p mp).1
    rw [ep, hH] at this
    exact (Option.some.inj this).symm
  have hlen : (ds.map fun kv => keyD kv.1).length = kvs2.length := by
    have := congrArg List.length h3
    simpa using this.symm
  refine ⟨.ref D, hD, D, o, rfl, .inl ⟨kvs2, hH, q _ _ _ H ρ w .refl (by rw [hlen]; exact walk_keys) (fun H2 sm lk => ?_) ?_⟩⟩
  · have := lk p mp
    rw [ep, ep2] at this
    exact this
  · intro j H2 ρ2 Z2 S2 x H3 d w2 sm sa hd ⟨e, k, v, hk, hx⟩
    subst e hx
    rw [krep_at h3 hk] at hd
    cases hd
    exact ⟨.refl _, keyD_rep k⟩
/-- a reading under a lock of the dict in slot i, or without one where it is locked already -/
def mLock (i : Nat) (m : ME) : ME := fun ev S => match ev[i]? with
  | some (some (.dic _)) => m ev S
  | _ => none
theorem sm_lock {D : Addr} {od : Obj} {kvs : List (Key × V)} {L : List Addr} {K : Hp} (e : K D = some (.dK kvs)) (n : D ∉ L) : Sm (hid K L) (hid (upd K D (.frz od (.dK kvs))) L) := fun a o ea => by
  obtain ⟨h1, h2⟩ := hid_in ea
  by_cases q : a = D
  · subst q
    rw [e] at h2
    cases h2
    exact ⟨_, hid_of n upd_same, rfl⟩
  · exact ⟨o, hid_of h1 (by rw [upd_ne q]; exact h2), rfl⟩
theorem sm_unlock {D : Addr} {od : Obj} {kvs : List (Key × V)} {L : List Addr} {K : Hp} (e : K D = some (.frz od (.dK kvs))) (n : D ∉ L) : Sm (hid K L) (hid (upd K D (.dK kvs)) L) := fun a o ea => by
  obtain ⟨h1, h2⟩ := hid_in ea
  by_cases q : a = D
  · subst q
    rw [e] at h2
    cases h2
    exact ⟨_, hid_of n upd_same, rfl⟩
  · exact ⟨o, hid_of h1 (by rw [upd_ne q]; exact h2), rfl⟩
/-- the frame with one dict more that is locked -/
def Fm.lock (Z : Fm) (D : Addr) (u : HO) : Fm := ⟨Z.z, (D, u) :: Z.lk⟩
theorem Wo.lock (w : Wo G H ρ Z S) {D : Addr} {od : Obj} {kvs : List (Key × V)} (e : H D = some (.dK kvs)) (n : D ∉ ρ ++ Z.z) : Wo G (upd H D (.frz od (.dK kvs))) ρ (Z.lock D (.frz od (.dK kvs))) S := by
  have sm := sm_lock (od := od) e n
  refine ⟨w.len, w.nd, fun l m em => ?_, fun z m => ?_, fun p mp => ?_, fun a o k ea => ?_⟩
  · obtain ⟨a, ho, h1, h2, h3⟩ := w.cell l m em
    have na : a ≠ D := fun q => n (by rw [← q]; exact List.mem_append.mpr (.inl (List.mem_of_getElem? h1)))
    exact ⟨a, ho, h1, by rw [upd_ne na]; exact h2, h3.mono sm fun _ _ q => q⟩
  · have nz : z ≠ D := fun q => n (by rw [← q]; exact List.mem_append.mpr (.inr m))
    rw [upd_ne nz]
    exact w.zin z m
  · rcases List.mem_cons.mp mp with q | q
    · subst q
      exact ⟨upd_same, n, rfl⟩
    · obtain ⟨h1, h2, h3⟩ := w.nofz.1 p q
      have np : p.1 ≠ D := fun q => by
        rw [q, e] at h1
        rw [← Option.some.inj h1] at h3
        cases h3
      exact ⟨by rw [upd_ne np]; exact h1, h2, h3⟩
  · by_cases q : a = D
    · exact ⟨_, .head _, q.symm⟩
    · rw [upd_ne q] at ea
      obtain ⟨p, mp, ep⟩ := w.nofz.2 a o k ea
      exact ⟨p, .tail _ mp, ep⟩
theorem Wo.unlock {D : Addr} {od : Obj} {kvs : List (Key × V)} (w : Wo G H' ρ' (Z.lock D (.frz od (.dK kvs))) S) (k : ∀ p ∈ Z.lk, p.1 ≠ D) : H' D = some (.frz od (.dK kvs)) ∧ D ∉ ρ' ++ Z.z ∧ Wo G (upd H' D (.dK kvs)) ρ' Z S := by
  obtain ⟨hD, n, _⟩ := w.nofz.1 _ (.head _)
  have n : D ∉ ρ' ++ Z.z := n
  have sm := sm_unlock hD n
  refine ⟨hD, n, w.len, w.nd, fun l m em => ?_, fun z m => ?_, fun p mp => ?_, fun a o kk ea => ?_⟩
  · obtain ⟨a, ho, h1, h2, h3⟩ := w.cell l m em
    have na : a ≠ D := fun q => n (by rw [← q]; exact List.mem_append.mpr (.inl (List.mem_of_getElem? h1)))
    exact ⟨a, ho, h1, by rw [upd_ne na]; exact h2, h3.mono sm fun _ _ q => q⟩
  · have nz : z ≠ D := fun q => n (by rw [← q]; exact List.mem_append.mpr (.inr m))
    rw [upd_ne nz]
    exact w.zin z m
  · obtain ⟨h1, h2, h3⟩ := w.nofz.1 p (.tail _ mp)
    exact ⟨by rw [upd_ne (k p mp)]; exact h1, h2, h3⟩
  · by_cases q : a = D
    · subst q
      rw [upd_same] at ea
      cases ea
    · rw [upd_ne q] at ea
      obtain ⟨p, mp, ep⟩ := w.nofz.2 a o kk ea
      rcases List.mem_cons.mp mp with r | r
      · subst r
        exact absurd ep.symm q
      · exact ⟨p, r, ep⟩
theorem lk_ne (w : Wo G H ρ Z S) {D : Addr} {kvs : List (Key × V)} (e : H D = some (.dK kvs)) : ∀ p ∈ Z.lk, p.1 ≠ D := fun p mp q => by
  obtain ⟨h1, _, h3⟩ := w.nofz.1 p mp
  rw [q, e] at h1
  rw [← Option.some.inj h1] at h3
  cases h3
theorem snd_lockE {i : Nat} {t tc : TE} {m : ME} (h : Snd G tc m) (ht : ∀ σ H Q, LkAt i σ H → tc σ H Q → t σ H Q) : Snd G (fun σ H Q => tLockE t σ H Q ∨ t σ H Q) (mLock i m) := by
  intro σ H ρ Z ev S d S' Q w r e q
  unfold mLock at e
  split at e
  case h_2 => cases e
  rename_i ds e1
  obtain ⟨v, hv, rv⟩ := r.at_ i _ e1
  cases rv
  rename_i D kvs h2 h3 h4
  rcases h2 with h2 | ⟨ob, h2⟩
  · obtain ⟨n, hD⟩ := hid_in h2
    refine .inl ⟨D, .dK kvs, hD, True.intro, fun od => ?_⟩
    have w1 := w.lock (od := od) hD n
    have sm := sm_lock (od := od) hD n
    refine ht _ _ _ ⟨D, od, kvs, hv, upd_same⟩ (h σ _ ρ (Z.lock D (.frz od (.dK kvs))) ev S d S' _ w1 (r.mono sm fun _ _ q => q) e fun v' H' ρ' w' st r' => ?_)
    obtain ⟨hD', n', w''⟩ := w'.unlock (lk_ne w hD)
    have sm' := sm_unlock hD' n'
    refine ⟨hD', q v' _ ρ' w'' ⟨st.pre, (sm.trans st.same).trans sm', fun z m => ?_⟩ (r'.mono sm' fun _ _ q => q)⟩
    have nz : z ≠ D := fun q => n (by rw [← q]; exact List.mem_append.mpr (.inr m))
    rw [upd_ne nz, st.zk z m, upd_ne nz]
  · exact .inr (ht _ _ _ ⟨D, ob, kvs, hv, (hid_in h2).2⟩ (h σ H ρ Z ev S d S' Q w r e q))
theorem snd_lcK {i : Nat} {g : TG} {tt : TT} {te : TE} {vs : List Nat} {mg : MG} {mt : MT} {me : ME} (hg : SndG G g mg vs) (ht : SndT G tt mt) (he : Snd G te me) : Snd G (fun σ H Q => tLockE (tLc (iKeys (tVar i)) g tt te vs) σ H Q ∨ tLc (iKeys (tVar i)) g tt te vs σ H Q) (mLock i (mLc vs (mItK i) mg mt me)) :=
  snd_lockE (snd_lc (snd_itK (i := i)) hg ht he) fun σ H Q c h => h c
theorem snd_dcK {i : Nat} {g : TG} {tt : TT} {tk tv : TE} {vs : List Nat} {mg : MG} {mt : MT} {mk mv : ME} (hg : SndG G g mg vs) (ht : SndT G tt mt) (hk : Snd G tk mk) (hv : Snd G tv mv) : Snd G (fun σ H Q => tLockE (tDc (iKeys (tVar i)) g tt tk tv vs) σ H Q ∨ tDc (iKeys (tVar i)) g tt tk tv vs σ H Q) (mLock i (mDc vs (mItK i) mg mt mk mv)) :=
  snd_lockE (snd_dc (snd_itK (i := i)) hg ht hk hv) fun σ H Q c h => h c
/-- max(xs) -/
theorem max_is : ∀ (ns : List Int) (n : Int), ns.foldl max n ∈ n :: ns ∧ ∀ y ∈ n :: ns, y ≤ ns.foldl max n
  | [], n => ⟨.head _, fun y hy => by rw [List.mem_singleton.mp hy]; exact Int.le_refl _⟩
  | m :: ns, n => by
    obtain ⟨h1, h2⟩ := max_is ns (max n m)
    rw [List.foldl_cons]
    refine ⟨?_, fun y hy => ?_⟩
    · rcases List.mem_cons.mp h1 with h | h
      · rw [h]
        rcases Int.le_total n m with q | q
        · rw [Int.max_eq_right q]; exact .tail _ (.head _)
        · rw [Int.max_eq_left q]; exact .head _
      · exact .tail _ (.tail _ h)
    · have h3 := h2 (max n m) (.head _)
      rcases List.mem_cons.mp hy with h | h
      · rw [h]; exact Int.le_trans (Int.le_max_left _ _) h3
      · rcases List.mem_cons.mp h with h | h
        · rw [h]; exact Int.le_trans (Int.le_max_right _ _) h3
        · exact h2 y (.tail _ h)
def fMaxL : FC := fun _ xs => match xs with
  | [.lst ds] => match asInts ds with
    | some (n :: ns) => some (.int (ns.foldl max n))
    | _ => none
  | _ => none
theorem cr_maxK {X : Cx} (K : PySem.W.Frag) (hK : X.K = K) (hc : X.calm = true) : CallR X (.builtin "max") (rMax K) := by subst hK; exact cr_max hc
theorem snd_maxL : SndC G (rMax G.K) fMaxL := by
  intro xs ds c H ρ Z S Q w rx e q
  unfold fMaxL at e
  split at e
  case h_2 => cases e
  rename_i es
  split at e
  case h_2 => cases e
  rename_i n ns e1
  cases e
  obtain ⟨v, rfl, rv⟩ := repL1 rx
  cases rv
  rename_i a vs h1 h2
  have := asInts_ok e1 h2
  subst this
  refine ⟨a, n :: ns, rfl, .inl (.inl (hid_le _ _ h1)), by simp, fun m hm hle => ?_⟩
  obtain ⟨h3, h4⟩ := max_is ns n
  have : m = ns.foldl max n := Int.le_antisymm (h4 m hm) (hle _ h3)
  rw [this]
  exact q _ H (.refl _) (.int _)
end
end Mi

set_option Elab.async false
set_option linter.all false
set_option maxRecDepth 100000
set_option maxHeartbeats 16000000
namespace Mi
open PySem PySem.Spec PyProof.Rows L2 Sw
def F_is_size : MF := mDef 0 (sRet (mAndV (mIsi (isiT "int") (mV 0) (mC (.ty "int"))) (m2 (fIn false) (mV 0) (mTup (maCons (mC (.int 2)) (maCons (mC (.int 3)) maNil))))))
def F_first_wrong_size : MF := mDef 3 (sSeq (sSet 1 (mC (.int 1)))
      (sSeq (sFor (mEnum (maCons (mV 0) maNil)) (gT 2 (gsCons (gV 2) (gsCons (gV 3) gsNil))) (sSeq (sIf (mOrT (mTst (m2 fEq (mV 2) (mC (.int 5)))) (mNotT (mTru (mCall F_is_size (maCons (mV 3) maNil))))) (sRet (mV 2)) sNext)
      (sSeq (sSet 1 (m2 fMul (mV 1) (mV 3)))
      (sIf (mTst (m2 fGt (mV 1) (mC (.int 48)))) (sRet (mV 2)) sNext))))
      (sRet (mC .non))))
def F_are_stands : MF := mDef 1 (sSeq (sIf (mOrT (mNotT (mTru (mIsi (isiT "str") (mV 0) (mC (.ty "str"))))) (mTst (m2 fEq (mV 0) (mC (.str ""))))) (sRet (mC (.bl false))) sNext)
      (sRet (m2 fEq (mV 0) (mJoin (mC (.str "")) (maCons (mLc [2] (mIt (mV 1)) (gV 2) (mTst (m2 (fIn false) (mV 2) (mV 0))) (mV 2)) maNil)))))
def F_is_part : MF := mDef 2 (sSeq (sIf (mOrT (mNotT (mTru (mIsi (isiT "tuple") (mV 0) (mC (.ty "tuple"))))) (mTst (m2 fNe (mCB fLen (maCons (mV 0) maNil)) (mCB fLen (maCons (mV 1) maNil))))) (sRet (mC (.bl false))) sNext)
      (sRet (mCB fAll (maCons (mLc [2, 3] (mZip (maCons (mV 0) (maCons (mV 1) maNil))) (gT 2 (gsCons (gV 2) (gsCons (gV 3) gsNil))) mYes (mCall F_are_stands (maCons (mV 2) (maCons (mV 3) maNil)))) maNil))))
def F_settings_of : MF := mDef 4 (sSeq (sSet 1 (mLst (maCons (mC (.str "")) maNil)))
      (sSeq (sFor (mIt (mV 0)) (gV 2) (sSet 1 (mLc2 [3, 4] [4] (mIt (mV 1)) (gV 3) mYes (mIt (mV 2)) (gV 4) mYes (m2 fAdd (mV 3) (mV 4)))))
      (sRet (mTupOf (mV 1)))))
def F_neighbours_of : MF := mDef 6 (sSeq (sSet 2 (mLstL maNil))
      (sSeq (sFor (mEnum (maCons (mV 1) maNil)) (gT 2 (gsCons (gV 3) (gsCons (gV 4) gsNil))) (sSeq (sSet 5 (mSl (mV 0) moNo (moInt (mV 3))))
      (sSeq (sSet 6 (mSl (mV 0) (moInt (m2 fAdd (mV 3) (mC (.int 1)))) moNo))
      (sDrop (mExtend (mV 2) (maCons (mLc [7] (mIt (mV 4)) (gV 7) (mTst (m2 fNe (mV 7) (m2 fIx (mV 0) (mV 3)))) (m2 fAdd (m2 fAdd (mV 5) (mV 7)) (mV 6))) maNil))))))
      (sRet (mTupOf (mCB fSortS (maCons (mV 2) maNil))))))
def F_Board___init__ : MF := mDef 3 (sSeq (sIf (mOrT (mNotT (mTru (mIsi (isiT "tuple") (mV 1) (mC (.ty "tuple"))))) (mTst (m2 fEq (mCB fLen (maCons (mV 1) maNil)) (mC (.int 0))))) sNever sNext)
      (sSeq (sSet 2 (mCall F_first_wrong_size (maCons (mV 1) maNil)))
      (sSeq (sIf (mTst (m2 fNotN (mV 2) (mC .non))) sNever sNext)
      (sSeq (sFldM "_sizes" (mV 0) (mV 1))
      (sSeq (sFldM "_whole" (mV 0) (mTupOf (mLc [4] (mIt (mV 1)) (gV 4) mYes (mSl (mC (.str "012")) moNo (moInt (mV 4))))))
      (sSeq (sFldM "_settings" (mV 0) (mCall F_settings_of (maCons (mFld "_whole" (mV 0)) maNil)))
      (sFldM "_beside" (mV 0) (mDc [3] (mIt (mFld "_settings" (mV 0))) (gV 3) mYes (mV 3) (mCall F_neighbours_of (maCons (mV 3) (maCons (mFld "_whole" (mV 0)) maNil)))))))))))
def F_Board_whole : MF := mDef 0 (sRet (mFld "_whole" (mV 0)))
def F_Board___len__ : MF := mDef 0 (sRet (mCB fLen (maCons (mFld "_settings" (mV 0)) maNil)))
def F_Board___contains__ : MF := mDef 0 (sRet (mAndV (mIsi (isiT "str") (mV 1) (mC (.ty "str"))) (mDIn false (mV 1) (mFld "_beside" (mV 0)))))
def F_check_setting : MF := mDef 0 (sIf (mTst (mOwnIn "Board" true F_Board___contains__ (mV 1) (mV 0))) sNever sNext)
def F_check_board : MF := mDef 0 (sIf (mNotT (mTru (mIsi (isiC "Board") (mV 0) (mC .non)))) sNever sNext)
def F_Board_beside : MF := mDef 0 (sSeq (sDrop (mCall F_check_setting (maCons (mV 0) (maCons (mV 1) maNil))))
      (sRet (mDGet (mFld "_beside" (mV 0)) (mV 1))))
def F_Board_inside : MF := mDef 0 (sSeq (sIf (mTst (m2 fIsN (mV 1) (mC .non))) (sRet (mFld "_settings" (mV 0))) sNext)
      (sSeq (sIf (mNotT (mTru (mCall F_is_part (maCons (mV 1) (maCons (mFld "_whole" (mV 0)) maNil))))) sNever sNext)
      (sRet (mCall F_settings_of (maCons (mV 1) maNil)))))
def F_first_wrong_place : MF := mDef 3 (sSeq (sSet 2 mSetNew)
      (sSeq (sFor (mEnum (maCons (mV 1) maNil)) (gT 2 (gsCons (gV 3) (gsCons (gV 4) gsNil))) (sSeq (sIf (mOrT (mTst (mOwnIn "Board" true F_Board___contains__ (mV 4) (mV 0))) (mTst (m2 (fSIn false) (mV 4) (mV 2)))) (sRet (mV 3)) sNext)
      (sDrop (mSAdd (mV 2) (maCons (mV 4) maNil)))))
      (sSeq (sIf (mTst (m2 fLt (mCB fLen (maCons (mV 1) maNil)) (mLenO "Board" F_Board___len__ (fun n => .int (n : Nat)) (mV 0)))) (sRet (mCB fLen (maCons (mV 1) maNil))) sNext)
      (sRet (mC .non)))))
def F_neighbours_in : MF := mDef 3 (sSeq (sSet 2 (mDc [3] (mIt (mMeth "Board" "inside" F_Board_inside [] (mV 0) (maCons (mV 1) maNil))) (gV 3) mYes (mV 3) (mC (.bl true))))
      (sRet (mLock 2 (mDc [3] (mItK 2) (gV 3) mYes (mV 3) (mLc [4] (mIt (mMeth "Board" "beside" F_Board_beside [] (mV 0) (maCons (mV 3) maNil))) (gV 4) (mTst (mDIn false (mV 4) (mV 2))) (mV 4))))))
def F_Ranking___init__ : MF := mDef 3 (sSeq (sDrop (mCall F_check_board (maCons (mV 1) maNil)))
      (sSeq (sIf (mNotT (mTru (mIsi (isiT "tuple") (mV 2) (mC (.ty "tuple"))))) sNever sNext)
      (sSeq (sSet 3 (mCall F_first_wrong_place (maCons (mV 1) (maCons (mV 2) maNil))))
      (sSeq (sIf (mTst (m2 fNotN (mV 3) (mC .non))) sNever sNext)
      (sSeq (sFldM "_board" (mV 0) (mV 1))
      (sSeq (sFldM "_order" (mV 0) (mV 2))
      (sFldM "_places" (mV 0) (mDc [4, 5] (mEnum (maCons (mV 2) maNil)) (gT 2 (gsCons (gV 4) (gsCons (gV 5) gsNil))) mYes (mV 5) (mV 4)))))))))
def F_Ranking_board : MF := mDef 0 (sRet (mFld "_board" (mV 0)))
def F_Ranking_peaks : MF := mDef 4 (sSeq (sSet 2 (mCall F_neighbours_in (maCons (mFld "_board" (mV 0)) (maCons (mV 1) maNil))))
      (sSeq (sSet 3 (mFld "_places" (mV 0)))
      (sRet (mTupOf (mLock 2 (mLc [4] (mItK 2) (gV 4) (mTru (mCB fAll (maCons (mLc [5] (mIt (mDGet (mV 2) (mV 4))) (gV 5) mYes (m2 fLt (mDGet (mV 3) (mV 5)) (mDGet (mV 3) (mV 4)))) maNil))) (mV 4)))))))
def F__law_jar : MF := mDefL 4 (sSeq (sSet 2 (m2 fAdd (m2 fMul (m2 fMul (mC (.int 7369)) (m2 fAdd (mV 1) (mC (.int 5)))) (m2 fAdd (mV 1) (mC (.int 2)))) (m2 fMul (mC (.int 29)) (mCB fLen (maCons (mV 0) maNil)))))
      (sSeq (sFor (mIt (mSl (mV 0) moNo (moInt (mC (.int 4))))) (gV 3) (sSet 2 (m2 fMod (mCB fInt1 (maCons (m2 fAdd (m2 fMul (mV 2) (mC (.int 733))) (mV 3)) maNil)) (mC (.int 1000000009)))))
      (sSeq (sSet 4 (mIf (mTst (m2 fLt (mV 1) (mCB fLen (maCons (mV 0) maNil)))) (m2 fIx (mV 0) (mV 1)) (mC (.int 0))))
      (sSeq (sSet 5 (mIf (mOrT (mTst (m2 fLt (mV 4) (mC (.int 0)))) (mTst (m2 fGe (mV 4) (m2 fPow (mC (.int 10)) (mC (.int 18)))))) (mCB fAbs (maCons (mV 4) maNil)) (mC (.int 0))))
      (sRet (mLstL (maCons (mV 5) (maCons (m2 fMod (mCB fInt1 (maCons (m2 fAdd (m2 fAdd (m2 fMul (mV 2) (mC (.int 8117))) (m2 fMul (mV 4) (mC (.int 64013)))) (m2 fMul (mC (.int 105019)) (m2 fAdd (mV 1) (mC (.int 1))))) maNil)) (mC (.int 2147483563))) (maCons (mC (.int 0)) maNil)))))))))
def F__law_dip : MF := mDef 2 (sSeq (sPut (m2 fAdd (m2 fIx (mV 0) (mC (.int 2))) (mC (.int 1))) (mV 0) (mC (.int 2)))
      (sSeq (sIf (mTst (m2 fGt (m2 fIx (mV 0) (mC (.int 0))) (mC (.int 0)))) (sSeq (sSet 2 (m2 fMod (mCB fInt1 (maCons (m2 fIx (mV 0) (mC (.int 0))) maNil)) (mV 1)))
      (sSeq (sPut (m2 fDiv (mCB fInt1 (maCons (m2 fIx (mV 0) (mC (.int 0))) maNil)) (mV 1)) (mV 0) (mC (.int 0)))
      (sRet (mV 2)))) sNext)
      (sSeq (sSet 3 (mCB fInt1 (maCons (m2 fIx (mV 0) (mC (.int 1))) maNil)))
      (sSeq (sPut (m2 fMod (mCB fInt1 (maCons (m2 fAdd (m2 fAdd (m2 fMul (mV 3) (mC (.int 40692))) (m2 fMul (m2 fIx (mV 0) (mC (.int 2))) (mC (.int 52021)))) (mC (.int 31))) maNil)) (mC (.int 2147483399))) (mV 0) (mC (.int 1)))
      (sRet (m2 fMod (mCB fInt1 (maCons (m2 fDiv (m2 fIx (mV 0) (mC (.int 1))) (mC (.int 2048))) maNil)) (mV 1)))))))
def F__law_pick : MF := mDef 1 (sSeq (sSet 2 (mCall F__law_dip (maCons (mV 0) (maCons (mCB fLen (maCons (mV 1) maNil)) maNil))))
      (sRet (m2 fIx (mV 1) (mV 2))))
def F__law_spans : MF := mDef 4 (sSeq (sAsg (gT 2 (gsCons (gV 2) (gsCons (gV 3) gsNil))) (mTup (maCons (mTup maNil) (maCons (mC (.int 1)) maNil))))
      (sSeq (sFor (mRng1 (maCons (m2 fAdd (mC (.int 1)) (mCall F__law_dip (maCons (mV 0) (maCons (mC (.int 5)) maNil)))) maNil)) (gV 4) (sSeq (sSet 5 (mCall F__law_pick (maCons (mV 0) (maCons (mLst (maCons (mC (.int 2)) (maCons (mC (.int 2)) (maCons (mC (.int 3)) maNil)))) maNil))))
      (sIf (mTst (m2 fLe (m2 fMul (mV 3) (mV 5)) (mV 1))) (sPar 2 3 (maCons (m2 fAdd (mV 2) (mTup (maCons (mV 5) maNil))) (maCons (m2 fMul (mV 3) (mV 5)) maNil))) sNext)))
      (sRet (mIf (mTst (m2 fNe (mV 2) (mTup maNil))) (mV 2) (mTup (maCons (mC (.int 2)) maNil))))))
def F__law_all : MF := mDef 5 (sSeq (sSet 1 (mLst (maCons (mC (.str "")) maNil)))
      (sSeq (sFor (mIt (mV 0)) (gV 2) (sSeq (sSet 3 (mLst maNil))
      (sSeq (sFor (mIt (mV 1)) (gV 4) (sSet 3 (m2 fAdd (mV 3) (mLc [5] (mIt (mSl (mC (.str "012")) moNo (moInt (mV 2)))) (gV 5) mYes (m2 fAdd (mV 4) (mV 5))))))
      (sSet 1 (mV 3)))))
      (sRet (mV 1))))
def F__law_near : MF := mDef 3 (sSeq (sSet 2 (mLc [3] (mIt (mCall F__law_all (maCons (mV 0) maNil))) (gV 3) (mTst (m2 fEq (mCB fLen (maCons (mV 3) maNil)) (mCB fLen (maCons (mV 1) maNil)))) (mV 3)))
      (sRet (mLc [3] (mIt (mV 2)) (gV 3) (mTst (m2 fEq (mCB fLen (maCons (mLc [4] (mRng1 (maCons (mCB fLen (maCons (mV 1) maNil)) maNil)) (gV 4) (mTst (m2 fNe (m2 fIx (mV 3) (mV 4)) (m2 fIx (mV 1) (mV 4)))) (mV 4)) maNil)) (mC (.int 1)))) (mV 3))))
def F__law_line : MF := mDef 2 (sSeq (sPar 2 3 (maCons (mCall F__law_allM (maCons (mV 1) maNil)) (maCons (mLstL maNil) maNil)))
      (sSeq (whGo (mTst (m2 fNe (mV 2) (mLst maNil))) (sDrop (mAppend (mV 3) (maCons (mPopAt (mV 2) (maCons (mCall F__law_dip (maCons (mV 0) (maCons (mCB fLen (maCons (mV 2) maNil)) maNil))) maNil)) maNil))) 1000)
      (sRet (mTupN (mV 3)))))
def F__law_room : MF := mDef 2 (sSeq (sSet 2 (mDisp [((mC (.int 2)), (mLst (maCons (mC (.str "01")) (maCons (mC (.str "0")) (maCons (mC (.str "1")) (maCons (mC (.str "01")) maNil)))))), ((mC (.int 3)), (mLst (maCons (mC (.str "012")) (maCons (mC (.str "012")) (maCons (mC (.str "01")) (maCons (mC (.str "02")) (maCons (mC (.str "12")) (maCons (mC (.str "2")) (maCons (mC (.str "1")) maNil)))))))))]))
      (sRet (mTupOf (mLc [3] (mIt (mV 1)) (gV 3) mYes (mCall F__law_pick (maCons (mV 0) (maCons (mDGet (mV 2) (mV 3)) maNil)))))))
def F__law_inside : MF := mDef 5 (sSeq (sSet 1 (mLst (maCons (mC (.str "")) maNil)))
      (sSeq (sFor (mIt (mV 0)) (gV 2) (sSeq (sSet 3 (mLst maNil))
      (sSeq (sFor (mIt (mV 1)) (gV 4) (sSet 3 (m2 fAdd (mV 3) (mLc [5] (mIt (mV 2)) (gV 5) mYes (m2 fAdd (mV 4) (mV 5))))))
      (sSet 1 (mV 3)))))
      (sRet (mV 1))))
def F__law_full : MF := mDef 1 (sRet (mTupOf (mLc [1] (mIt (mV 0)) (gV 1) mYes (mSl (mC (.str "012")) moNo (moInt (mV 1))))))
def F__law_tops : MF := mDef 4 (sSeq (sAsg (gT 2 (gsCons (gV 3) (gsCons (gV 4) gsNil))) (mTup (maCons (mCall F__law_inside (maCons (mV 2) maNil)) (maCons (mLstL maNil) maNil))))
      (sSeq (sFor (mIt (mV 3)) (gV 5) (sIf (mTru (mCB fAll (maCons (mLc [6] (mIt (mCall F__law_near (maCons (mV 0) (maCons (mV 5) maNil)))) (gV 6) (mTst (m2 (fIn false) (mV 6) (mV 3))) (m2 fLt (mTIx (mV 1) (maCons (mV 6) maNil)) (mTIx (mV 1) (maCons (mV 5) maNil)))) maNil))) (sDrop (mAppend (mV 4) (maCons (mV 5) maNil))) sNext))
      (sRet (mTupOf (mV 4)))))
def F__law_right : MF := mDef 10 (sSeq (sFor (mRng1 (maCons (mC (.int 3)) maNil)) (gV 1) (sSeq (sSet 2 (mCall F__law_spans (maCons (mV 0) (maCons (mC (.int 36)) maNil))))
      (sSeq (sSet 3 (mCall F__law_line (maCons (mV 0) (maCons (mV 2) maNil))))
      (sSeq (sPar 4 5 (maCons (mMake "Ranking" F_Ranking___init__ [] (maCons (mMake "Board" F_Board___init__ [] (maCons (mV 2) maNil)) (maCons (mWeak (mV 3)) maNil))) (maCons (mCall F__law_tops (maCons (mV 2) (maCons (mV 3) (maCons (mCall F__law_full (maCons (mV 2) maNil)) maNil)))) maNil)))
      (sSeq (sSet 6 (mLst (maCons (mMeth "Ranking" "peaks" F_Ranking_peaks [.non] (mV 4) maNil) (maCons (mMeth "Ranking" "peaks" F_Ranking_peaks [] (mV 4) (maCons (mC .non) maNil)) (maCons (mMethK "Ranking" "peaks" F_Ranking_peaks (permA [0, 1]) (mV 4) (maCons (mProp "Board" F_Board_whole (mProp "Ranking" F_Ranking_board (mV 4))) maNil)) maNil)))))
      (sSeq (sIf (mOrT (mTst (m2 fNe (mCB fRepr (maCons (mV 6) maNil)) (mCB fRepr (maCons (m2 fMul (mLst (maCons (mV 5) maNil)) (mC (.int 3))) maNil)))) (mTst (m2 (fIn true) (m2 fIx (mWeak (mV 3)) (mNeg (mC (.int 1)))) (mV 5)))) (sRet (mC (.bl false))) sNext)
      (sFor (mRng1 (maCons (mC (.int 4)) maNil)) (gV 7) (sSeq (sSet 8 (mCall F__law_room (maCons (mV 0) (maCons (mV 2) maNil))))
      (sSeq (sSet 5 (mCall F__law_tops (maCons (mV 2) (maCons (mV 3) (maCons (mV 8) maNil)))))
      (sSeq (sSet 9 (mCB fMaxL (maCons (mLc [10] (mIt (mCall F__law_inside (maCons (mV 8) maNil))) (gV 10) mYes (mTIx (mV 3) (maCons (mV 10) maNil))) maNil)))
      (sSeq (sSet 6 (mLst (maCons (mMeth "Ranking" "peaks" F_Ranking_peaks [] (mV 4) (maCons (mV 8) maNil)) (maCons (mMethK "Ranking" "peaks" F_Ranking_peaks (permA [0, 1]) (mV 4) (maCons (mV 8) maNil)) maNil))))
      (sIf (mOrT (mTst (m2 fNe (mCB fRepr (maCons (mV 6) maNil)) (mCB fRepr (maCons (mLst (maCons (mV 5) (maCons (mV 5) maNil))) maNil)))) (mTst (m2 (fIn true) (m2 fIx (mWeak (mV 3)) (mV 9)) (mV 5)))) (sRet (mC (.bl false))) sNext))))))))))))
      (sRet (mC (.bl true))))
def F_law : MF := mDef 1 (sSeq (sFor (mRng1 (maCons (mCB fMax2 (maCons (mC (.int 2)) (maCons (mCB fMin2 (maCons (mCB fLen (maCons (mV 0) maNil)) (maCons (mC (.int 5)) maNil))) maNil))) maNil)) (gV 1) (sIf (mNotT (mTru (mCall F__law_right (maCons (mCall F__law_jar (maCons (mV 0) (maCons (mV 1) maNil))) maNil)))) (sRet (mC (.bl false))) sNext))
      (sRet (mC (.bl true))))
end Mi

set_option Elab.async false
set_option linter.all false
set_option maxRecDepth 100000
set_option maxHeartbeats 16000000

/-! The defs of the law keep the promises of their functions. -/
namespace Mi
open PySem PySem.Spec PyProof.Rows L2 Sw
abbrev progX : Program := PySem.Challenge.pw_switchhills_k08_whole_peaks_of_rankings
def topX (i : Nat) : Stmt := progX.main.body.getD i (.Pass ⟨0, 0, 0, 0⟩)
abbrev stis_size : Stmt := topX 15
theorem sc_is_size : FnScope ["value"] ["value"] (defScope stis_size) :=
  ⟨rfl, rfl, rfl, by decide +kernel, rfl, by decide +kernel, by decide +kernel⟩
abbrev stfirst_wrong_size : Stmt := topX 16
theorem sc_first_wrong_size : FnScope ["sizes", "many", "index", "size"] ["sizes"] (defScope stfirst_wrong_size) :=
  ⟨rfl, rfl, rfl, by decide +kernel, rfl, by decide +kernel, by decide +kernel⟩
abbrev stare_stands : Stmt := topX 17
theorem sc_are_stands : FnScope ["value", "stands", "stand"] ["value", "stands"] (defScope stare_stands) :=
  ⟨rfl, rfl, rfl, by decide +kernel, rfl, by decide +kernel, by decide +kernel⟩
abbrev stis_part : Stmt := topX 18
theorem sc_is_part : FnScope ["value", "whole", "some", "stands"] ["value", "whole"] (defScope stis_part) :=
  ⟨rfl, rfl, rfl, by decide +kernel, rfl, by decide +kernel, by decide +kernel⟩
abbrev stsettings_of : Stmt := topX 19
theorem sc_settings_of : FnScope ["part", "settings", "stands", "setting", "stand"] ["part"] (defScope stsettings_of) :=
  ⟨rfl, rfl, rfl, by decide +kernel, rfl, by decide +kernel, by decide +kernel⟩
abbrev stneighbours_of : Stmt := topX 20
theorem sc_neighbours_of : FnScope ["setting", "whole", "found", "switch", "stands", "front", "back", "stand"] ["setting", "whole"] (defScope stneighbours_of) :=
  ⟨rfl, rfl, rfl, by decide +kernel, rfl, by decide +kernel, by decide +kernel⟩
abbrev stBoard___init__ : Stmt := inClass (topX 23) 0
theorem sc_Board___init__ : FnScope ["self", "sizes", "index", "setting", "size"] ["self", "sizes"] (defScope stBoard___init__) :=
  ⟨rfl, rfl, rfl, by decide +kernel, rfl, by decide +kernel, by decide +kernel⟩
abbrev stBoard_whole : Stmt := inClass (topX 23) 4
theorem sc_Board_whole : FnScope ["self"] ["self"] (defScope stBoard_whole) :=
  ⟨rfl, rfl, rfl, by decide +kernel, rfl, by decide +kernel, by decide +kernel⟩
abbrev stBoard___len__ : Stmt := inClass (topX 23) 5
theorem sc_Board___len__ : FnScope ["self"] ["self"] (defScope stBoard___len__) :=
  ⟨rfl, rfl, rfl, by decide +kernel, rfl, by decide +kernel, by decide +kernel⟩
abbrev stBoard___contains__ : Stmt := inClass (topX 23) 7
theorem sc_Board___contains__ : FnScope ["self", "x"] ["self", "x"] (defScope stBoard___contains__) :=
  ⟨rfl, rfl, rfl, by decide +kernel, rfl, by decide +kernel, by decide +kernel⟩
abbrev stcheck_setting : Stmt := topX 22
theorem sc_check_setting : FnScope ["board", "setting"] ["board", "setting"] (defScope stcheck_setting) :=
  ⟨rfl, rfl, rfl, by decide +kernel, rfl, by decide +kernel, by decide +kernel⟩
abbrev stcheck_board : Stmt := topX 21
theorem sc_check_board : FnScope ["board"] ["board"] (defScope stcheck_board) :=
  ⟨rfl, rfl, rfl, by decide +kernel, rfl, by decide +kernel, by decide +kernel⟩
abbrev stBoard_beside : Stmt := inClass (topX 23) 9
theorem sc_Board_beside : FnScope ["self", "setting"] ["self", "setting"] (defScope stBoard_beside) :=
  ⟨rfl, rfl, rfl, by decide +kernel, rfl, by decide +kernel, by decide +kernel⟩
abbrev stBoard_inside : Stmt := inClass (topX 23) 11
theorem sc_Board_inside : FnScope ["self", "part"] ["self", "part"] (defScope stBoard_inside) :=
  ⟨rfl, rfl, rfl, by decide +kernel, rfl, by decide +kernel, by decide +kernel⟩
abbrev stfirst_wrong_place : Stmt := topX 25
theorem sc_first_wrong_place : FnScope ["board", "order", "seen", "index", "setting"] ["board", "order"] (defScope stfirst_wrong_place) :=
  ⟨rfl, rfl, rfl, by decide +kernel, rfl, by decide +kernel, by decide +kernel⟩
abbrev stneighbours_in : Stmt := topX 26
theorem sc_neighbours_in : FnScope ["board", "part", "inside", "setting", "near"] ["board", "part"] (defScope stneighbours_in) :=
  ⟨rfl, rfl, rfl, by decide +kernel, rfl, by decide +kernel, by decide +kernel⟩
abbrev stRanking___init__ : Stmt := inClass (topX 27) 0
theorem sc_Ranking___init__ : FnScope ["self", "board", "order", "index", "place", "setting"] ["self", "board", "order"] (defScope stRanking___init__) :=
  ⟨rfl, rfl, rfl, by decide +kernel, rfl, by decide +kernel, by decide +kernel⟩
abbrev stRanking_board : Stmt := inClass (topX 27) 1
theorem sc_Ranking_board : FnScope ["self"] ["self"] (defScope stRanking_board) :=
  ⟨rfl, rfl, rfl, by decide +kernel, rfl, by decide +kernel, by decide +kernel⟩
abbrev stRanking_peaks : Stmt := inClass (topX 27) 5
theorem sc_Ranking_peaks : FnScope ["self", "part", "beside", "places", "setting", "near"] ["self", "part"] (defScope stRanking_peaks) :=
  ⟨rfl, rfl, rfl, by decide +kernel, rfl, by decide +kernel, by decide +kernel⟩
abbrev st_law_jar : Stmt := topX 29
theorem sc__law_jar : FnScope ["script", "k", "mixed", "cell", "own", "digits"] ["script", "k"] (defScope st_law_jar) :=
  ⟨rfl, rfl, rfl, by decide +kernel, rfl, by decide +kernel, by decide +kernel⟩
abbrev st_law_dip : Stmt := topX 30
theorem sc__law_dip : FnScope ["jar", "most", "digit", "seed"] ["jar", "most"] (defScope st_law_dip) :=
  ⟨rfl, rfl, rfl, by decide +kernel, rfl, by decide +kernel, by decide +kernel⟩
abbrev st_law_pick : Stmt := topX 31
theorem sc__law_pick : FnScope ["jar", "menu", "at"] ["jar", "menu"] (defScope st_law_pick) :=
  ⟨rfl, rfl, rfl, by decide +kernel, rfl, by decide +kernel, by decide +kernel⟩
abbrev st_law_spans : Stmt := topX 32
theorem sc__law_spans : FnScope ["jar", "most", "found", "many", "turn", "size"] ["jar", "most"] (defScope st_law_spans) :=
  ⟨rfl, rfl, rfl, by decide +kernel, rfl, by decide +kernel, by decide +kernel⟩
abbrev st_law_all : Stmt := topX 33
theorem sc__law_all : FnScope ["spans", "found", "size", "longer", "begun", "glyph"] ["spans"] (defScope st_law_all) :=
  ⟨rfl, rfl, rfl, by decide +kernel, rfl, by decide +kernel, by decide +kernel⟩
abbrev st_law_near : Stmt := topX 34
theorem sc__law_near : FnScope ["spans", "spot", "others", "each", "k"] ["spans", "spot"] (defScope st_law_near) :=
  ⟨rfl, rfl, rfl, by decide +kernel, rfl, by decide +kernel, by decide +kernel⟩
abbrev st_law_line : Stmt := topX 35
theorem sc__law_line : FnScope ["jar", "spans", "rest", "found"] ["jar", "spans"] (defScope st_law_line) :=
  ⟨rfl, rfl, rfl, by decide +kernel, rfl, by decide +kernel, by decide +kernel⟩
abbrev st_law_room : Stmt := topX 36
theorem sc__law_room : FnScope ["jar", "spans", "lots", "size"] ["jar", "spans"] (defScope st_law_room) :=
  ⟨rfl, rfl, rfl, by decide +kernel, rfl, by decide +kernel, by decide +kernel⟩
abbrev st_law_inside : Stmt := topX 37
theorem sc__law_inside : FnScope ["room", "found", "stands", "longer", "begun", "glyph"] ["room"] (defScope st_law_inside) :=
  ⟨rfl, rfl, rfl, by decide +kernel, rfl, by decide +kernel, by decide +kernel⟩
abbrev st_law_full : Stmt := topX 38
theorem sc__law_full : FnScope ["spans", "size"] ["spans"] (defScope st_law_full) :=
  ⟨rfl, rfl, rfl, by decide +kernel, rfl, by decide +kernel, by decide +kernel⟩
abbrev st_law_tops : Stmt := topX 39
theorem sc__law_tops : FnScope ["spans", "line", "room", "inside", "found", "spot", "each"] ["spans", "line", "room"] (defScope st_law_tops) :=
  ⟨rfl, rfl, rfl, by decide +kernel, rfl, by decide +kernel, by decide +kernel⟩
abbrev st_law_right : Stmt := topX 40
theorem sc__law_right : FnScope ["jar", "turn", "spans", "line", "mine", "due", "told", "again", "room", "best", "spot"] ["jar"] (defScope st_law_right) :=
  ⟨rfl, rfl, rfl, by decide +kernel, rfl, by decide +kernel, by decide +kernel⟩
abbrev stlaw : Stmt := topX 41
theorem sc_law : FnScope ["script", "k"] ["script"] (defScope stlaw) :=
  ⟨rfl, rfl, rfl, by decide +kernel, rfl, by decide +kernel, by decide +kernel⟩
structure Top (w : World) (K : PySem.W.Frag) (mg : Str → Option Value) (a : Nat → Addr) (d : Nat → FuncData) (c : Nat → Addr) : Prop where
  b_abs : mg "abs" = none
  b_all : mg "all" = none
  b_enumerate : mg "enumerate" = none
  b_int : mg "int" = none
  b_isinstance : mg "isinstance" = none
  b_len : mg "len" = none
  b_max : mg "max" = none
  b_min : mg "min" = none
  b_range : mg "range" = none
  b_repr : mg "repr" = none
  b_set : mg "set" = none
  b_sorted : mg "sorted" = none
  b_str : mg "str" = none
  b_tuple : mg "tuple" = none
  b_zip : mg "zip" = none
  c_MOST_SETTINGS : ∃ t, mg "MOST_SETTINGS" = some (.int 48 t)
  c_MOST_SWITCHES : ∃ t, mg "MOST_SWITCHES" = some (.int 5 t)
  c_STANDS : ∃ t, mg "STANDS" = some (.str "012" t)
  F7 : Fun K "is_size" "is_size" stis_size (a 7) (d 7)
  B7 : Binds K (d 7) ["value"] []
  g7 : mg "is_size" = some (.ref (a 7))
  F8 : Fun K "first_wrong_size" "first_wrong_size" stfirst_wrong_size (a 8) (d 8)
  B8 : Binds K (d 8) ["sizes"] []
  g8 : mg "first_wrong_size" = some (.ref (a 8))
  F9 : Fun K "are_stands" "are_stands" stare_stands (a 9) (d 9)
  B9 : Binds K (d 9) ["value", "stands"] []
  g9 : mg "are_stands" = some (.ref (a 9))
  F10 : Fun K "is_part" "is_part" stis_part (a 10) (d 10)
  B10 : Binds K (d 10) ["value", "whole"] []
  g10 : mg "is_part" = some (.ref (a 10))
  F11 : Fun K "settings_of" "settings_of" stsettings_of (a 11) (d 11)
  B11 : Binds K (d 11) ["part"] []
  g11 : mg "settings_of" = some (.ref (a 11))
  F12 : Fun K "neighbours_of" "neighbours_of" stneighbours_of (a 12) (d 12)
  B12 : Binds K (d 12) ["setting", "whole"] []
  g12 : mg "neighbours_of" = some (.ref (a 12))
  F15 : Fun K "__init__" "Board.__init__" stBoard___init__ (a 15) (d 15)
  B15 : Binds K (d 15) ["self", "sizes"] []
  F19 : Fun K "whole" "Board.whole" stBoard_whole (a 19) (d 19)
  B19 : Binds K (d 19) ["self"] []
  F20 : Fun K "__len__" "Board.__len__" stBoard___len__ (a 20) (d 20)
  B20 : Binds K (d 20) ["self"] []
  F22 : Fun K "__contains__" "Board.__contains__" stBoard___contains__ (a 22) (d 22)
  B22 : Binds K (d 22) ["self", "x"] []
  F14 : Fun K "check_setting" "check_setting" stcheck_setting (a 14) (d 14)
  B14 : Binds K (d 14) ["board", "setting"] []
  g14 : mg "check_setting" = some (.ref (a 14))
  F13 : Fun K "check_board" "check_board" stcheck_board (a 13) (d 13)
  B13 : Binds K (d 13) ["board"] []
  g13 : mg "check_board" = some (.ref (a 13))
  F24 : Fun K "beside" "Board.beside" stBoard_beside (a 24) (d 24)
  B24 : Binds K (d 24) ["self", "setting"] []
  F26 : FunD K "inside" "Board.inside" (defArgs stBoard_inside) (defBody stBoard_inside) (defScope stBoard_inside) [.non] [] (a 26) (d 26)
  B26 : Binds K (d 26) ["self", "part"] []
  F28 : Fun K "first_wrong_place" "first_wrong_place" stfirst_wrong_place (a 28) (d 28)
  B28 : Binds K (d 28) ["board", "order"] []
  g28 : mg "first_wrong_place" = some (.ref (a 28))
  F29 : Fun K "neighbours_in" "neighbours_in" stneighbours_in (a 29) (d 29)
  B29 : Binds K (d 29) ["board", "part"] []
  g29 : mg "neighbours_in" = some (.ref (a 29))
  F30 : Fun K "__init__" "Ranking.__init__" stRanking___init__ (a 30) (d 30)
  B30 : Binds K (d 30) ["self", "board", "order"] []
  F31 : Fun K "board" "Ranking.board" stRanking_board (a 31) (d 31)
  B31 : Binds K (d 31) ["self"] []
  F35 : FunD K "peaks" "Ranking.peaks" (defArgs stRanking_peaks) (defBody stRanking_peaks) (defScope stRanking_peaks) [.non] [] (a 35) (d 35)
  B35 : Binds K (d 35) ["self", "part"] []
  F46 : Fun K "_law_jar" "_law_jar" st_law_jar (a 46) (d 46)
  B46 : Binds K (d 46) ["script", "k"] []
  g46 : mg "_law_jar" = some (.ref (a 46))
  F47 : Fun K "_law_dip" "_law_dip" st_law_dip (a 47) (d 47)
  B47 : Binds K (d 47) ["jar", "most"] []
  g47 : mg "_law_dip" = some (.ref (a 47))
  F48 : Fun K "_law_pick" "_law_pick" st_law_pick (a 48) (d 48)
  B48 : Binds K (d 48) ["jar", "menu"] []
  g48 : mg "_law_pick" = some (.ref (a 48))
  F49 : Fun K "_law_spans" "_law_spans" st_law_spans (a 49) (d 49)
  B49 : Binds K (d 49) ["jar", "most"] []
  g49 : mg "_law_spans" = some (.ref (a 49))
  F50 : Fun K "_law_all" "_law_all" st_law_all (a 50) (d 50)
  B50 : Binds K (d 50) ["spans"] []
  g50 : mg "_law_all" = some (.ref (a 50))
  F51 : Fun K "_law_near" "_law_near" st_law_near (a 51) (d 51)
  B51 : Binds K (d 51) ["spans", "spot"] []
  g51 : mg "_law_near" = some (.ref (a 51))
  F52 : Fun K "_law_line" "_law_line" st_law_line (a 52) (d 52)
  B52 : Binds K (d 52) ["jar", "spans"] []
  g52 : mg "_law_line" = some (.ref (a 52))
  F53 : Fun K "_law_room" "_law_room" st_law_room (a 53) (d 53)
  B53 : Binds K (d 53) ["jar", "spans"] []
  g53 : mg "_law_room" = some (.ref (a 53))
  F54 : Fun K "_law_inside" "_law_inside" st_law_inside (a 54) (d 54)
  B54 : Binds K (d 54) ["room"] []
  g54 : mg "_law_inside" = some (.ref (a 54))
  F55 : Fun K "_law_full" "_law_full" st_law_full (a 55) (d 55)
  B55 : Binds K (d 55) ["spans"] []
  g55 : mg "_law_full" = some (.ref (a 55))
  F56 : Fun K "_law_tops" "_law_tops" st_law_tops (a 56) (d 56)
  B56 : Binds K (d 56) ["spans", "line", "room"] []
  g56 : mg "_law_tops" = some (.ref (a 56))
  F57 : Fun K "_law_right" "_law_right" st_law_right (a 57) (d 57)
  B57 : Binds K (d 57) ["jar"] []
  g57 : mg "_law_right" = some (.ref (a 57))
  F58 : Fun K "law" "law" stlaw (a 58) (d 58)
  B58 : Binds K (d 58) ["script"] []
  g58 : mg "law" = some (.ref (a 58))
  gc_Board : mg "Board" = some (.ref (c 23))
  q_Board : TxQ K (c 23)
  mk_Board : Mk K (c 23) (a 15)
  ic_Board : IsC ⟨K, mg, w⟩ "Board" (c 23)
  gc_Ranking : mg "Ranking" = some (.ref (c 27))
  q_Ranking : TxQ K (c 27)
  mk_Ranking : Mk K (c 27) (a 30)
  qs : AllC ⟨K, mg, w⟩ (TxQ K)
  nbt : NoBt ⟨K, mg, w⟩
  nf__beside : AllC ⟨K, mg, w⟩ fun C => Cls K C ∧ NoAttr K C "_beside"
  nf__board : AllC ⟨K, mg, w⟩ fun C => Cls K C ∧ NoAttr K C "_board"
  nf__order : AllC ⟨K, mg, w⟩ fun C => Cls K C ∧ NoAttr K C "_order"
  nf__places : AllC ⟨K, mg, w⟩ fun C => Cls K C ∧ NoAttr K C "_places"
  nf__settings : AllC ⟨K, mg, w⟩ fun C => Cls K C ∧ NoAttr K C "_settings"
  nf__sizes : AllC ⟨K, mg, w⟩ fun C => Cls K C ∧ NoAttr K C "_sizes"
  nf__whole : AllC ⟨K, mg, w⟩ fun C => Cls K C ∧ NoAttr K C "_whole"
  pr19 : ∃ p, PropOf K (c 23) "whole" p (a 19)
  pr31 : ∃ p, PropOf K (c 27) "board" p (a 31)
  me24 : Meth K (c 23) "beside" (a 24)
  me26 : Meth K (c 23) "inside" (a 26)
  me35 : Meth K (c 27) "peaks" (a 35)
  sp20 : SpM K (c 23) "__len__" (a 20)
  sp22 : SpM K (c 23) "__contains__" (a 22)
  kb35_part : KBn K (d 35) ["self", "part"] 1 ["part"] (permA [0, 1]) (permA [0, 1])
  BD35_1 : Binds K (d 35) ["self", "part"] [.none]
variable {P : Program} {w : World} {K : PySem.W.Frag} {mg : Str → Option Value} {base : Heap} {a : Nat → Addr} {d : Nat → FuncData} {c : Nat → Addr}
theorem ok_is_size (T : Top w K mg a d c) : FnOk P w K mg base CX0 1 (a 7) (d 7) ["value"] (spM ⟨K, mg, w⟩ 1 F_is_size) := by
  refine T.F7.ok sc_is_size (fun vs H Q E h => h.1) (fun cdv A outer s H vs Q E hr h => ?_)
  exact ⟨_, (pss_one (ps_ret (pe_and (pe_callB (call_isiK2 K rfl) (by rfl) T.b_isinstance (by decide +kernel) (pa_cons (pv 0) (pa_cons (pe_bltn (v := .ty "int") (by rfl) T.b_int (by decide +kernel) rfl) pa_nil))) (pe_one (pe_cmpR (op_inU K rfl (hu65 hr)) (pv 0) (pe_tup (pa_cons pe_int (pa_cons pe_int pa_nil))) (by with_unfolding_all rfl)))))), body_ok (n := 1) (k := 0) rfl (snd_ret (snd_andV (snd_isiT (T := "int") T.qs T.nbt (snd_var (i := 0))) (snd_op snd_in (snd_var (i := 0)) (snd_tup (snd_cons snd_int (snd_cons snd_int snd_nil)))))) h⟩
theorem ok_first_wrong_size (T : Top w K mg a d c) : FnOk P w K mg base CX0 2 (a 8) (d 8) ["sizes"] (spM ⟨K, mg, w⟩ 1 F_first_wrong_size) := by
  have G7 : FnOk P w K mg base CX0 1 (a 7) (d 7) ["value"] (spM ⟨K, mg, w⟩ 1 F_is_size) := ok_is_size T
  refine T.F8.ok sc_first_wrong_size (fun vs H Q E h => h.1) (fun cdv A outer s H vs Q E hr h => ?_)
  exact ⟨_, (pss_cons (ps_set (i := 1) sc_first_wrong_size.nd rfl (.inl rfl) pe_int)
      (pss_cons (ps_for PassesOwn.never rfl (pi_enumU K rfl (by rfl) T.b_enumerate (pa_cons (pv 0) pa_nil)) (pg_tupK (n := 2) K rfl rfl (pgs_cons (pg_name (i := 2) sc_first_wrong_size.nd rfl (.inl rfl)) (pgs_cons (pg_name (i := 3) sc_first_wrong_size.nd rfl (.inl rfl)) pgs_nil))) (pss_cons (ps_if (PW.pt (pw_or (pt_cmpR (op_eqK K rfl hr.units) (pv 2) (pe_glob (v := .int 5) (by rfl) T.c_MOST_SWITCHES.choose_spec ⟨_, rfl⟩) (nomark _)) (pw_or1 (pt_not (pt_truthK K rfl (pe_call G7 (hr.mono (show 1 ≤ 1 by decide)) (by rfl) T.g7 T.F7.kp T.B7 .nil pass0 (pa_cons (pv 3) pa_nil))))))) (pss_one (ps_ret (pv 2))) pss_nil)
      (pss_cons (ps_set (i := 1) sc_first_wrong_size.nd rfl (.inl rfl) (pe_op op_mulU (pv 1) (pv 3)))
      (pss_one (ps_if (pt_cmpR op_gtU (pv 1) (pe_glob (v := .int 48) (by rfl) T.c_MOST_SETTINGS.choose_spec ⟨_, rfl⟩) (nomark _)) (pss_one (ps_ret (pv 2))) pss_nil)))))
      (pss_one (ps_ret pe_non)))), body_ok (n := 1) (k := 3) rfl (snd_seq (snd_set (i := 1) snd_int)
      (snd_seq (snd_for (vs := [2, 3]) (snd_enum (snd_cons (snd_var (i := 0)) snd_nil)) (snd_gT (snd_gsCons (snd_gV (i := 2) (by decide)) (snd_gsCons (snd_gV (i := 3) (by decide)) snd_gsNil))) (snd_seq (snd_ifS (snd_orT (snd_tst (snd_op snd_eq (snd_var (i := 2)) snd_int)) (snd_notT (snd_tru (snd_call (len_cons len_nil) (snd_cons (snd_var (i := 3)) snd_nil))))) (snd_ret (snd_var (i := 2))) snd_next)
      (snd_seq (snd_set (i := 1) (snd_op snd_mul (snd_var (i := 1)) (snd_var (i := 3))))
      (snd_ifS (snd_tst (snd_op snd_gt (snd_var (i := 1)) snd_int)) (snd_ret (snd_var (i := 2))) snd_next))))
      (snd_ret snd_non))) h⟩
theorem ok_are_stands (T : Top w K mg a d c) : FnOk P w K mg base CX0 1 (a 9) (d 9) ["value", "stands"] (spM ⟨K, mg, w⟩ 2 F_are_stands) := by
  refine T.F9.ok sc_are_stands (fun vs H Q E h => h.1) (fun cdv A outer s H vs Q E hr h => ?_)
  exact ⟨_, (pss_cons (ps_if (PW.pt (pw_or (pt_not (pt_truthK K rfl (pe_callB (call_isiK2 K rfl) (by rfl) T.b_isinstance (by decide +kernel) (pa_cons (pv 0) (pa_cons (pe_bltn (v := .ty "str") (by rfl) T.b_str (by decide +kernel) rfl) pa_nil))))) (pw_or1 (pt_cmpR (op_eqK K rfl hr.units) (pv 0) pe_str (nomark _))))) (pss_one (ps_ret pe_bl)) pss_nil)
      (pss_one (ps_ret (pe_cmpR (op_eqK K rfl hr.units) (pv 0) (pe_join K rfl pe_str (pa_cons (pe_lc (own := [("stand", 2)]) (g := gName 2)  rfl sc_are_stands.nd (pi_U K rfl (pv 1)) (blkOk_by (N := ["value", "stands", "stand"]) (sc := defScope stare_stands) (by decide +kernel)) (fun _ _ _ _ _ => pg_name (i := 2) sc_are_stands.nd rfl (.inl rfl)) (fun _ _ _ _ _ => (pts_one (pt_cmpR (op_inU K rfl (hu65 hr)) (pv 2) (pv 0) (by with_unfolding_all rfl)))) (fun _ _ _ _ _ => (pv 2))) pa_nil)) (nomark _))))), body_ok (n := 2) (k := 1) rfl (snd_seq (snd_ifS (snd_orT (snd_notT (snd_tru (snd_isiT (T := "str") T.qs T.nbt (snd_var (i := 0))))) (snd_tst (snd_op snd_eq (snd_var (i := 0)) snd_str))) (snd_ret snd_bl) snd_next)
      (snd_ret (snd_op snd_eq (snd_var (i := 0)) (snd_join snd_str (snd_cons (snd_lc (vs := [2]) (snd_it (snd_var (i := 1))) (snd_gV (i := 2) (by decide)) (snd_tst (snd_op snd_in (snd_var (i := 2)) (snd_var (i := 0)))) (snd_var (i := 2))) snd_nil))))) h⟩
theorem ok_is_part (T : Top w K mg a d c) : FnOk P w K mg base CX0 2 (a 10) (d 10) ["value", "whole"] (spM ⟨K, mg, w⟩ 2 F_is_part) := by
  have G9 : FnOk P w K mg base CX0 1 (a 9) (d 9) ["value", "stands"] (spM ⟨K, mg, w⟩ 2 F_are_stands) := ok_are_stands T
  refine T.F10.ok sc_is_part (fun vs H Q E h => h.1) (fun cdv A outer s H vs Q E hr h => ?_)
  exact ⟨_, (pss_cons (ps_if (PW.pt (pw_or (pt_not (pt_truthK K rfl (pe_callB (call_isiK2 K rfl) (by rfl) T.b_isinstance (by decide +kernel) (pa_cons (pv 0) (pa_cons (pe_bltn (v := .ty "tuple") (by rfl) T.b_tuple (by decide +kernel) rfl) pa_nil))))) (pw_or1 (pt_cmpR (op_neK K rfl hr.units) (pe_callB (call_lenU K rfl) (by rfl) T.b_len PySem.boot_len (pa_cons (pv 0) pa_nil)) (pe_callB (call_lenU K rfl) (by rfl) T.b_len PySem.boot_len (pa_cons (pv 1) pa_nil)) (nomark _))))) (pss_one (ps_ret pe_bl)) pss_nil)
      (pss_one (ps_ret (pe_callB (cr_allK K rfl rfl) (by rfl) T.b_all (by decide +kernel) (pa_cons (pe_lc (own := [("some", 2), ("stands", 3)])  (tt := tYes) rfl sc_is_part.nd (pi_zipU K rfl (by rfl) T.b_zip (pa_cons (pv 0) (pa_cons (pv 1) pa_nil))) (blkOk_by (N := ["value", "whole", "some", "stands"]) (sc := defScope stis_part) (by decide +kernel)) (fun _ _ _ _ _ => pg_tupK (n := 2) K rfl rfl (pgs_cons (pg_name (i := 2) sc_is_part.nd rfl (.inl rfl)) (pgs_cons (pg_name (i := 3) sc_is_part.nd rfl (.inl rfl)) pgs_nil))) (fun _ _ _ _ _ => pts_nil) (fun _ _ _ _ _ => (pe_call G9 (hr.mono (show 1 ≤ 1 by decide)) (by rfl) T.g9 T.F9.kp T.B9 .nil pass0 (pa_cons (pv 2) (pa_cons (pv 3) pa_nil))))) pa_nil))))), body_ok (n := 2) (k := 2) rfl (snd_seq (snd_ifS (snd_orT (snd_notT (snd_tru (snd_isiT (T := "tuple") T.qs T.nbt (snd_var (i := 0))))) (snd_tst (snd_op snd_ne (snd_cb snd_len (snd_cons (snd_var (i := 0)) snd_nil)) (snd_cb snd_len (snd_cons (snd_var (i := 1)) snd_nil))))) (snd_ret snd_bl) snd_next)
      (snd_ret (snd_cb snd_all (snd_cons (snd_lc (vs := [2, 3]) (snd_zip (snd_cons (snd_var (i := 0)) (snd_cons (snd_var (i := 1)) snd_nil))) (snd_gT (snd_gsCons (snd_gV (i := 2) (by decide)) (snd_gsCons (snd_gV (i := 3) (by decide)) snd_gsNil))) snd_yes (snd_call (len_cons (len_cons len_nil)) (snd_cons (snd_var (i := 2)) (snd_cons (snd_var (i := 3)) snd_nil)))) snd_nil)))) h⟩
theorem ok_settings_of (T : Top w K mg a d c) : FnOk P w K mg base CX0 1 (a 11) (d 11) ["part"] (spM ⟨K, mg, w⟩ 1 F_settings_of) := by
  refine T.F11.ok sc_settings_of (fun vs H Q E h => h.1) (fun cdv A outer s H vs Q E hr h => ?_)
  exact ⟨_, (pss_cons (ps_set (i := 1) sc_settings_of.nd rfl (.inl rfl) (pe_lst (pa_cons pe_str pa_nil)))
      (pss_cons (ps_for PassesOwn.never rfl (pi_U K rfl (pv 0)) (pg_name (i := 2) sc_settings_of.nd rfl (.inr rfl)) (pss_one (ps_setLc2 (i := 1) (own := [("setting", 3), ("stand", 4)]) (vs1 := [4]) (tt := tYes) (tt1 := tYes) (g := gName 3) (g1 := gName 4) rfl sc_settings_of.nd rfl rfl (sw_true rfl rfl rfl (by decide +kernel)) (pi_U K rfl (pv 1)) (blkOk_by (N := ["part", "settings", "stands", "setting", "stand"]) (sc := defScope stsettings_of) (by decide +kernel)) (by decide) (fun _ _ _ _ _ => pg_name (i := 3) sc_settings_of.nd rfl (.inl rfl)) (fun _ _ _ _ _ => pts_nil) (fun _ _ _ _ _ => (pi_U K rfl (pv 2))) (fun _ _ _ _ _ => pg_name (i := 4) sc_settings_of.nd rfl (.inl rfl)) (fun _ _ _ _ _ => pts_nil) (fun _ _ _ _ _ => (pe_op (op_addU K rfl) (pv 3) (pv 4))))))
      (pss_one (ps_ret (pe_tupleOfK K rfl (by rfl) T.b_tuple (pv 1)))))), body_ok (n := 1) (k := 4) rfl (snd_seq (snd_set (i := 1) (snd_lst (snd_cons snd_str snd_nil)))
      (snd_seq (snd_for (vs := [2]) (snd_it (snd_var (i := 0))) (snd_gV (i := 2) (by decide)) (snd_set (i := 1) (snd_lc2 (vs := [3, 4]) (vs1 := [4]) (snd_it (snd_var (i := 1))) (snd_gV (i := 3) (by decide)) snd_yes (snd_it (snd_var (i := 2))) (snd_gV (i := 4) (by decide)) snd_yes (snd_op snd_add (snd_var (i := 3)) (snd_var (i := 4))))))
      (snd_ret (snd_tupOf (snd_var (i := 1)))))) h⟩
theorem ok_neighbours_of (T : Top w K mg a d c) : FnOk P w K mg base CX0 1 (a 12) (d 12) ["setting", "whole"] (spM ⟨K, mg, w⟩ 2 F_neighbours_of) := by
  refine T.F12.ok sc_neighbours_of (fun vs H Q E h => h.1) (fun cdv A outer s H vs Q E hr h => ?_)
  exact ⟨_, (pss_cons (ps_set (i := 2) sc_neighbours_of.nd rfl (.inl rfl) (pe_lst pa_nil))
      (pss_cons (ps_for PassesOwn.never rfl (pi_enumU K rfl (by rfl) T.b_enumerate (pa_cons (pv 1) pa_nil)) (pg_tupK (n := 2) K rfl rfl (pgs_cons (pg_name (i := 3) sc_neighbours_of.nd rfl (.inr rfl)) (pgs_cons (pg_name (i := 4) sc_neighbours_of.nd rfl (.inl rfl)) pgs_nil))) (pss_cons (ps_set (i := 5) sc_neighbours_of.nd rfl (.inr rfl) (pe_slice (sl_U K rfl) (pv 0) po_none (po_some (pv 3))))
      (pss_cons (ps_set (i := 6) sc_neighbours_of.nd rfl (.inr rfl) (pe_slice (sl_U K rfl) (pv 0) (po_some (pe_op (op_addU K rfl) (pv 3) pe_int)) po_none))
      (pss_one (ps_expr (pe_bm PySem.F.plainAttrs_list PySem.F.slot_list_extend PySem.F.type_list_extend mt_extend (pv 2) (pa_cons (pe_lc (own := [("stand", 7)]) (g := gName 7)  rfl sc_neighbours_of.nd (pi_U K rfl (pv 4)) (blkOk_by (N := ["setting", "whole", "found", "switch", "stands", "front", "back", "stand"]) (sc := defScope stneighbours_of) (by decide +kernel)) (fun _ _ _ _ _ => pg_name (i := 7) sc_neighbours_of.nd rfl (.inl rfl)) (fun _ _ _ _ _ => (pts_one (pt_cmpR (op_neK K rfl hr.units) (pv 7) (pe_ix (ix_U K rfl) (pv 0) (pv 3) (fun _ _ => rfl)) (nomark _)))) (fun _ _ _ _ _ => (pe_op (op_addU K rfl) (pe_op (op_addU K rfl) (pv 5) (pv 7)) (pv 6)))) pa_nil)))))))
      (pss_one (ps_ret (pe_tupleOfK K rfl (by rfl) T.b_tuple (pe_callB (call_sortSK K rfl hr.units) (by rfl) T.b_sorted (by decide +kernel) (pa_cons (pv 2) pa_nil))))))), body_ok (n := 2) (k := 6) rfl (snd_seq (snd_set (i := 2) (snd_lstL snd_nil))
      (snd_seq (snd_for (vs := [3, 4]) (snd_enum (snd_cons (snd_var (i := 1)) snd_nil)) (snd_gT (snd_gsCons (snd_gV (i := 3) (by decide)) (snd_gsCons (snd_gV (i := 4) (by decide)) snd_gsNil))) (snd_seq (snd_set (i := 5) (snd_sl (snd_var (i := 0)) snd_moNo (snd_moInt (snd_var (i := 3)))))
      (snd_seq (snd_set (i := 6) (snd_sl (snd_var (i := 0)) (snd_moInt (snd_op snd_add (snd_var (i := 3)) snd_int)) snd_moNo))
      (snd_drop (snd_extend (snd_var (i := 2)) (snd_cons (snd_lc (vs := [7]) (snd_it (snd_var (i := 4))) (snd_gV (i := 7) (by decide)) (snd_tst (snd_op snd_ne (snd_var (i := 7)) (snd_op snd_ix (snd_var (i := 0)) (snd_var (i := 3))))) (snd_op snd_add (snd_op snd_add (snd_var (i := 5)) (snd_var (i := 7))) (snd_var (i := 6)))) snd_nil))))))
      (snd_ret (snd_tupOf (snd_cb snd_sortS (snd_cons (snd_var (i := 2)) snd_nil)))))) h⟩
theorem ok_Board___init__ (T : Top w K mg a d c) : FnOk P w K mg base CX0 3 (a 15) (d 15) ["self", "sizes"] (spM ⟨K, mg, w⟩ 2 F_Board___init__) := by
  have G8 : FnOk P w K mg base CX0 2 (a 8) (d 8) ["sizes"] (spM ⟨K, mg, w⟩ 1 F_first_wrong_size) := ok_first_wrong_size T
  have G11 : FnOk P w K mg base CX0 1 (a 11) (d 11) ["part"] (spM ⟨K, mg, w⟩ 1 F_settings_of) := ok_settings_of T
  have G12 : FnOk P w K mg base CX0 1 (a 12) (d 12) ["setting", "whole"] (spM ⟨K, mg, w⟩ 2 F_neighbours_of) := ok_neighbours_of T
  refine T.F15.ok sc_Board___init__ (fun vs H Q E h => h.1) (fun cdv A outer s H vs Q E hr h => ?_)
  exact ⟨_, (pss_cons (ps_if (PW.pt (pw_or (pt_not (pt_truthK K rfl (pe_callB (call_isiK2 K rfl) (by rfl) T.b_isinstance (by decide +kernel) (pa_cons (pv 1) (pa_cons (pe_bltn (v := .ty "tuple") (by rfl) T.b_tuple (by decide +kernel) rfl) pa_nil))))) (pw_or1 (pt_cmpR (op_eqK K rfl hr.units) (pe_callB (call_lenU K rfl) (by rfl) T.b_len PySem.boot_len (pa_cons (pv 1) pa_nil)) pe_int (nomark _))))) (pss_one ps_never) pss_nil)
      (pss_cons (ps_set (i := 2) sc_Board___init__.nd rfl (.inl rfl) (pe_call G8 (hr.mono (show 2 ≤ 2 by decide)) (by rfl) T.g8 T.F8.kp T.B8 .nil pass0 (pa_cons (pv 1) pa_nil)))
      (pss_cons (ps_if (pt_cmpR op_notN (pv 2) pe_non (nomark _)) (pss_one ps_never) pss_nil)
      (pss_cons (ps_fldK K rfl (pv 0) (pv 1) rfl)
      (pss_cons (ps_fldK K rfl (pv 0) (pe_tupleOfK K rfl (by rfl) T.b_tuple (pe_lc (own := [("size", 4)]) (g := gName 4) (tt := tYes) rfl sc_Board___init__.nd (pi_U K rfl (pv 1)) (blkOk_by (N := ["self", "sizes", "index", "setting", "size"]) (sc := defScope stBoard___init__) (by decide +kernel)) (fun _ _ _ _ _ => pg_name (i := 4) sc_Board___init__.nd rfl (.inl rfl)) (fun _ _ _ _ _ => pts_nil) (fun _ _ _ _ _ => (pe_slice (sl_U K rfl) (pe_glob (v := .str "012") (by rfl) T.c_STANDS.choose_spec ⟨_, rfl⟩) po_none (po_some (pv 4)))))) rfl)
      (pss_cons (ps_fldK K rfl (pv 0) (pe_call G11 (hr.mono (show 1 ≤ 2 by decide)) (by rfl) T.g11 T.F11.kp T.B11 .nil pass0 (pa_cons (pe_fldK K rfl (pv 0) (by rfl)) pa_nil)) rfl)
      (pss_one (ps_fldK K rfl (pv 0) (pe_dc (own := [("setting", 3)]) (g := gName 3) (tt := tYes) rfl sc_Board___init__.nd (pi_U K rfl (pe_fldK K rfl (pv 0) (by rfl))) (blkOk_by (N := ["self", "sizes", "index", "setting", "size"]) (sc := defScope stBoard___init__) (by decide +kernel)) (fun _ _ _ _ _ => pg_name (i := 3) sc_Board___init__.nd rfl (.inl rfl)) (fun _ _ _ _ _ => pts_nil) (fun _ _ _ _ _ => (pv 3)) (fun _ _ _ _ _ => (pe_call G12 (hr.mono (show 1 ≤ 2 by decide)) (by rfl) T.g12 T.F12.kp T.B12 .nil pass0 (pa_cons (pv 3) (pa_cons (pe_fldK K rfl (pv 0) (by rfl)) pa_nil))))) rfl)))))))), body_ok (n := 2) (k := 3) rfl (snd_seq (snd_ifS (snd_orT (snd_notT (snd_tru (snd_isiT (T := "tuple") T.qs T.nbt (snd_var (i := 1))))) (snd_tst (snd_op snd_eq (snd_cb snd_len (snd_cons (snd_var (i := 1)) snd_nil)) snd_int))) snd_never snd_next)
      (snd_seq (snd_set (i := 2) (snd_call (len_cons len_nil) (snd_cons (snd_var (i := 1)) snd_nil)))
      (snd_seq (snd_ifS (snd_tst (snd_op snd_notN (snd_var (i := 2)) snd_non)) snd_never snd_next)
      (snd_seq (snd_fldS T.nf__sizes (snd_var (i := 0)) (snd_var (i := 1)))
      (snd_seq (snd_fldS T.nf__whole (snd_var (i := 0)) (snd_tupOf (snd_lc (vs := [4]) (snd_it (snd_var (i := 1))) (snd_gV (i := 4) (by decide)) snd_yes (snd_sl snd_str snd_moNo (snd_moInt (snd_var (i := 4)))))))
      (snd_seq (snd_fldS T.nf__settings (snd_var (i := 0)) (snd_call (len_cons len_nil) (snd_cons (snd_fld T.nf__whole (snd_var (i := 0))) snd_nil)))
      (snd_fldS T.nf__beside (snd_var (i := 0)) (snd_dc (vs := [3]) (snd_it (snd_fld T.nf__settings (snd_var (i := 0)))) (snd_gV (i := 3) (by decide)) snd_yes (snd_var (i := 3)) (snd_call (len_cons (len_cons len_nil)) (snd_cons (snd_var (i := 3)) (snd_cons (snd_fld T.nf__whole (snd_var (i := 0))) snd_nil))))))))))) h⟩
theorem ok_Board_whole (T : Top w K mg a d c) : FnOk P w K mg base CX0 1 (a 19) (d 19) ["self"] (spM ⟨K, mg, w⟩ 1 F_Board_whole) := by
  refine T.F19.ok sc_Board_whole (fun vs H Q E h => h.1) (fun cdv A outer s H vs Q E hr h => ?_)
  exact ⟨_, (pss_one (ps_ret (pe_fldK K rfl (pv 0) (by rfl)))), body_ok (n := 1) (k := 0) rfl (snd_ret (snd_fld T.nf__whole (snd_var (i := 0)))) h⟩
theorem ok_Board___len__ (T : Top w K mg a d c) : FnOk P w K mg base CX0 1 (a 20) (d 20) ["self"] (spM ⟨K, mg, w⟩ 1 F_Board___len__) := by
  refine T.F20.ok sc_Board___len__ (fun vs H Q E h => h.1) (fun cdv A outer s H vs Q E hr h => ?_)
  exact ⟨_, (pss_one (ps_ret (pe_callB (call_lenU K rfl) (by rfl) T.b_len PySem.boot_len (pa_cons (pe_fldK K rfl (pv 0) (by rfl)) pa_nil)))), body_ok (n := 1) (k := 0) rfl (snd_ret (snd_cb snd_len (snd_cons (snd_fld T.nf__settings (snd_var (i := 0))) snd_nil))) h⟩
theorem ok_Board___contains__ (T : Top w K mg a d c) : FnOk P w K mg base CX0 1 (a 22) (d 22) ["self", "x"] (spM ⟨K, mg, w⟩ 2 F_Board___contains__) := by
  refine T.F22.ok sc_Board___contains__ (fun vs H Q E h => h.1) (fun cdv A outer s H vs Q E hr h => ?_)
  exact ⟨_, (pss_one (ps_ret (pe_and (pe_callB (call_isiK2 K rfl) (by rfl) T.b_isinstance (by decide +kernel) (pa_cons (pv 1) (pa_cons (pe_bltn (v := .ty "str") (by rfl) T.b_str (by decide +kernel) rfl) pa_nil))) (pe_one (pe_cmp (pc_din (hu_of hr) (pv 1) (pe_fldK K rfl (pv 0) (by rfl))) (by with_unfolding_all rfl)))))), body_ok (n := 2) (k := 0) rfl (snd_ret (snd_andV (snd_isiT (T := "str") T.qs T.nbt (snd_var (i := 1))) (snd_din (snd_var (i := 1)) (snd_fld T.nf__beside (snd_var (i := 0)))))) h⟩
theorem ok_check_setting (T : Top w K mg a d c) : FnOk P w K mg base CX0 2 (a 14) (d 14) ["board", "setting"] (spM ⟨K, mg, w⟩ 2 F_check_setting) := by
  have G22 : FnOk P w K mg base CX0 1 (a 22) (d 22) ["self", "x"] (spM ⟨K, mg, w⟩ 2 F_Board___contains__) := ok_Board___contains__ T
  refine T.F14.ok sc_check_setting (fun vs H Q E h => h.1) (fun cdv A outer s H vs Q E hr h => ?_)
  exact ⟨_, (pss_one (ps_if (pt_cmpR (op_notInOwn T.sp22 G22 (hr.mono (show 1 ≤ 1 by decide)) T.B22) (pv 1) (pv 0) (by with_unfolding_all rfl)) (pss_one ps_never) pss_nil)), body_ok (n := 2) (k := 0) rfl (snd_ifS (snd_tst (snd_ownIn (neg := true) T.gc_Board rfl (snd_var (i := 1)) (snd_var (i := 0)))) snd_never snd_next) h⟩
theorem ok_check_board (T : Top w K mg a d c) : FnOk P w K mg base CX0 1 (a 13) (d 13) ["board"] (spM ⟨K, mg, w⟩ 1 F_check_board) := by
  refine T.F13.ok sc_check_board (fun vs H Q E h => h.1) (fun cdv A outer s H vs Q E hr h => ?_)
  exact ⟨_, (pss_one (ps_if (pt_not (pt_truthK K rfl (pe_callB (call_isiK2 K rfl) (by rfl) T.b_isinstance (by decide +kernel) (pa_cons (pv 0) (pa_cons (pe_glob (v := .ref (c 23)) (by rfl) T.gc_Board rfl) pa_nil))))) (pss_one ps_never) pss_nil)), body_ok (n := 1) (k := 0) rfl (snd_ifS (snd_notT (snd_tru (snd_isiC T.qs T.ic_Board (snd_var (i := 0))))) snd_never snd_next) h⟩
theorem ok_Board_beside (T : Top w K mg a d c) : FnOk P w K mg base CX0 3 (a 24) (d 24) ["self", "setting"] (spM ⟨K, mg, w⟩ 2 F_Board_beside) := by
  have G14 : FnOk P w K mg base CX0 2 (a 14) (d 14) ["board", "setting"] (spM ⟨K, mg, w⟩ 2 F_check_setting) := ok_check_setting T
  refine T.F24.ok sc_Board_beside (fun vs H Q E h => h.1) (fun cdv A outer s H vs Q E hr h => ?_)
  exact ⟨_, (pss_cons (ps_expr (pe_call G14 (hr.mono (show 2 ≤ 2 by decide)) (by rfl) T.g14 T.F14.kp T.B14 .nil pass0 (pa_cons (pv 0) (pa_cons (pv 1) pa_nil))))
      (pss_one (ps_ret (pe_dget (hu_of hr) (pe_fldK K rfl (pv 0) (by rfl)) (pv 1) (fun _ _ => rfl))))), body_ok (n := 2) (k := 0) rfl (snd_seq (snd_drop (snd_call (len_cons (len_cons len_nil)) (snd_cons (snd_var (i := 0)) (snd_cons (snd_var (i := 1)) snd_nil))))
      (snd_ret (snd_dget (snd_fld T.nf__beside (snd_var (i := 0))) (snd_var (i := 1))))) h⟩
theorem ok_Board_inside (T : Top w K mg a d c) : FnOk P w K mg base CX0 3 (a 26) (d 26) ["self", "part"] (spM ⟨K, mg, w⟩ 2 F_Board_inside) := by
  have G10 : FnOk P w K mg base CX0 2 (a 10) (d 10) ["value", "whole"] (spM ⟨K, mg, w⟩ 2 F_is_part) := ok_is_part T
  have G11 : FnOk P w K mg base CX0 1 (a 11) (d 11) ["part"] (spM ⟨K, mg, w⟩ 1 F_settings_of) := ok_settings_of T
  refine funD_ok T.F26 sc_Board_inside (fun vs H Q E h => h.1) (fun cdv A outer s H vs Q E hr h => ?_)
  exact ⟨_, (pss_cons (ps_if (pt_cmpR op_isN (pv 1) pe_non (nomark _)) (pss_one (ps_ret (pe_fldK K rfl (pv 0) (by rfl)))) pss_nil)
      (pss_cons (ps_if (pt_not (pt_truthK K rfl (pe_call G10 (hr.mono (show 2 ≤ 2 by decide)) (by rfl) T.g10 T.F10.kp T.B10 .nil pass0 (pa_cons (pv 1) (pa_cons (pe_fldK K rfl (pv 0) (by rfl)) pa_nil))))) (pss_one ps_never) pss_nil)
      (pss_one (ps_ret (pe_call G11 (hr.mono (show 1 ≤ 2 by decide)) (by rfl) T.g11 T.F11.kp T.B11 .nil pass0 (pa_cons (pv 1) pa_nil)))))), body_ok (n := 2) (k := 0) rfl (snd_seq (snd_ifS (snd_tst (snd_op snd_isN (snd_var (i := 1)) snd_non)) (snd_ret (snd_fld T.nf__settings (snd_var (i := 0)))) snd_next)
      (snd_seq (snd_ifS (snd_notT (snd_tru (snd_call (len_cons (len_cons len_nil)) (snd_cons (snd_var (i := 1)) (snd_cons (snd_fld T.nf__whole (snd_var (i := 0))) snd_nil))))) snd_never snd_next)
      (snd_ret (snd_call (len_cons len_nil) (snd_cons (snd_var (i := 1)) snd_nil))))) h⟩
theorem ok_first_wrong_place (T : Top w K mg a d c) : FnOk P w K mg base CX0 3 (a 28) (d 28) ["board", "order"] (spM ⟨K, mg, w⟩ 2 F_first_wrong_place) := by
  have G20 : FnOk P w K mg base CX0 1 (a 20) (d 20) ["self"] (spM ⟨K, mg, w⟩ 1 F_Board___len__) := ok_Board___len__ T
  have G22 : FnOk P w K mg base CX0 1 (a 22) (d 22) ["self", "x"] (spM ⟨K, mg, w⟩ 2 F_Board___contains__) := ok_Board___contains__ T
  refine T.F28.ok sc_first_wrong_place (fun vs H Q E h => h.1) (fun cdv A outer s H vs Q E hr h => ?_)
  exact ⟨_, (pss_cons (ps_set (i := 2) sc_first_wrong_place.nd rfl (.inl rfl) (pe_callTy0 cr_set0K (by rfl) T.b_set (by decide +kernel)))
      (pss_cons (ps_for PassesOwn.never rfl (pi_enumU K rfl (by rfl) T.b_enumerate (pa_cons (pv 1) pa_nil)) (pg_tupK (n := 2) K rfl rfl (pgs_cons (pg_name (i := 3) sc_first_wrong_place.nd rfl (.inl rfl)) (pgs_cons (pg_name (i := 4) sc_first_wrong_place.nd rfl (.inl rfl)) pgs_nil))) (pss_cons (ps_if (PW.pt (pw_or (pt_cmpR (op_notInOwn T.sp22 G22 (hr.mono (show 1 ≤ 2 by decide)) T.B22) (pv 4) (pv 0) (by with_unfolding_all rfl)) (pw_or1 (pt_cmpR or_sinK (pv 4) (pv 2) (by with_unfolding_all rfl))))) (pss_one (ps_ret (pv 3))) pss_nil)
      (pss_one (ps_expr (pe_saddK (pv 2) (pa_cons (pv 4) pa_nil))))))
      (pss_cons (ps_if (pt_cmpR op_ltU (pe_callB (call_lenU K rfl) (by rfl) T.b_len PySem.boot_len (pa_cons (pv 1) pa_nil)) (pe_callB (call_lenOwn T.sp20 G20 (hr.mono (show 2 ≤ 2 by decide)) T.B20) (by rfl) T.b_len PySem.boot_len (pa_cons (pv 0) pa_nil)) (nomark _)) (pss_one (ps_ret (pe_callB (call_lenU K rfl) (by rfl) T.b_len PySem.boot_len (pa_cons (pv 1) pa_nil)))) pss_nil)
      (pss_one (ps_ret pe_non))))), body_ok (n := 2) (k := 3) rfl (snd_seq (snd_set (i := 2) snd_setNew)
      (snd_seq (snd_for (vs := [3, 4]) (snd_enum (snd_cons (snd_var (i := 1)) snd_nil)) (snd_gT (snd_gsCons (snd_gV (i := 3) (by decide)) (snd_gsCons (snd_gV (i := 4) (by decide)) snd_gsNil))) (snd_seq (snd_ifS (snd_orT (snd_tst (snd_ownIn (neg := true) T.gc_Board rfl (snd_var (i := 4)) (snd_var (i := 0)))) (snd_tst (snd_op snd_sin (snd_var (i := 4)) (snd_var (i := 2))))) (snd_ret (snd_var (i := 3))) snd_next)
      (snd_drop (snd_sadd (snd_var (i := 2)) (snd_cons (snd_var (i := 4)) snd_nil)))))
      (snd_seq (snd_ifS (snd_tst (snd_op snd_lt (snd_cb snd_len (snd_cons (snd_var (i := 1)) snd_nil)) (snd_lenO T.gc_Board (snd_var (i := 0))))) (snd_ret (snd_cb snd_len (snd_cons (snd_var (i := 1)) snd_nil))) snd_next)
      (snd_ret snd_non)))) h⟩
theorem ok_neighbours_in (T : Top w K mg a d c) : FnOk P w K mg base CX0 4 (a 29) (d 29) ["board", "part"] (spM ⟨K, mg, w⟩ 2 F_neighbours_in) := by
  have G24 : FnOk P w K mg base CX0 3 (a 24) (d 24) ["self", "setting"] (spM ⟨K, mg, w⟩ 2 F_Board_beside) := ok_Board_beside T
  have G26 : FnOk P w K mg base CX0 3 (a 26) (d 26) ["self", "part"] (spM ⟨K, mg, w⟩ 2 F_Board_inside) := ok_Board_inside T
  refine T.F29.ok sc_neighbours_in (fun vs H Q E h => h.1) (fun cdv A outer s H vs Q E hr h => ?_)
  exact ⟨_, (pss_cons (ps_set (i := 2) sc_neighbours_in.nd rfl (.inr rfl) (pe_dc (own := [("setting", 3)]) (g := gName 3) (tt := tYes) rfl sc_neighbours_in.nd (pi_U K rfl (pe_meth (pv 0) T.q_Board.cl T.me26 G26 (hr.mono (show 3 ≤ 3 by decide)) T.B26 .nil pass0 (pa_cons (pv 1) pa_nil))) (blkOk_by (N := ["board", "part", "inside", "setting", "near"]) (sc := defScope stneighbours_in) (by decide +kernel)) (fun _ _ _ _ _ => pg_name (i := 3) sc_neighbours_in.nd rfl (.inl rfl)) (fun _ _ _ _ _ => pts_nil) (fun _ _ _ _ _ => (pv 3)) (fun _ _ _ _ _ => pe_bl)))
      (pss_one (ps_ret (PE.or (pe_lock (pe_dc (own := [("setting", 3)]) (g := gName 3) (tt := tYes) rfl sc_neighbours_in.nd (pi_keys (pv 2)) (blkOk_by (N := ["board", "part", "inside", "setting", "near"]) (sc := defScope stneighbours_in) (by decide +kernel)) (fun _ _ _ _ _ => pg_name (i := 3) sc_neighbours_in.nd rfl (.inl rfl)) (fun _ _ _ _ _ => pts_nil) (fun _ _ _ _ _ => (pv 3)) (fun _ _ _ _ _ => (pe_lc (own := [("near", 4)]) (g := gName 4)  rfl sc_neighbours_in.nd (pi_U K rfl (pe_meth (pv 0) T.q_Board.cl T.me24 G24 (hr.mono (show 3 ≤ 3 by decide)) T.B24 .nil pass0 (pa_cons (pv 3) pa_nil))) (blkOk_at (N := ["board", "part", "inside", "setting", "near"]) (sc := { kind := .function, names := [(".0", .local), ("setting", .local), ("board", .cell), ("inside", .cell)], isGenerator := false, isCoroutine := false }) (by rfl) (by rfl) (by decide +kernel)) (fun _ _ _ _ _ => pg_name (i := 4) sc_neighbours_in.nd rfl (.inl rfl)) (fun _ _ _ _ _ => (pts_one (pt_cmp (pc_din (hu_of hr) (pv 4) (pv 2)) (by with_unfolding_all rfl)))) (fun _ _ _ _ _ => (pv 4)))))) (pe_dc (own := [("setting", 3)]) (g := gName 3) (tt := tYes) rfl sc_neighbours_in.nd (pi_keys (pv 2)) (blkOk_by (N := ["board", "part", "inside", "setting", "near"]) (sc := defScope stneighbours_in) (by decide +kernel)) (fun _ _ _ _ _ => pg_name (i := 3) sc_neighbours_in.nd rfl (.inl rfl)) (fun _ _ _ _ _ => pts_nil) (fun _ _ _ _ _ => (pv 3)) (fun _ _ _ _ _ => (pe_lc (own := [("near", 4)]) (g := gName 4)  rfl sc_neighbours_in.nd (pi_U K rfl (pe_meth (pv 0) T.q_Board.cl T.me24 G24 (hr.mono (show 3 ≤ 3 by decide)) T.B24 .nil pass0 (pa_cons (pv 3) pa_nil))) (blkOk_at (N := ["board", "part", "inside", "setting", "near"]) (sc := { kind := .function, names := [(".0", .local), ("setting", .local), ("board", .cell), ("inside", .cell)], isGenerator := false, isCoroutine := false }) (by rfl) (by rfl) (by decide +kernel)) (fun _ _ _ _ _ => pg_name (i := 4) sc_neighbours_in.nd rfl (.inl rfl)) (fun _ _ _ _ _ => (pts_one (pt_cmp (pc_din (hu_of hr) (pv 4) (pv 2)) (by with_unfolding_all rfl)))) (fun _ _ _ _ _ => (pv 4))))))))), body_ok (n := 2) (k := 3) rfl (snd_seq (snd_set (i := 2) (snd_dc (vs := [3]) (snd_it (snd_meth (dds := []) T.gc_Board (len_cons len_nil) rfl (fun _ _ => .nil) (snd_var (i := 0)) (snd_cons (snd_var (i := 1)) snd_nil))) (snd_gV (i := 3) (by decide)) snd_yes (snd_var (i := 3)) snd_bl))
      (snd_ret (snd_dcK (i := 2) (vs := [3]) (snd_gV (i := 3) (by decide)) snd_yes (snd_var (i := 3)) (snd_lc (vs := [4]) (snd_it (snd_meth (dds := []) T.gc_Board (len_cons len_nil) rfl (fun _ _ => .nil) (snd_var (i := 0)) (snd_cons (snd_var (i := 3)) snd_nil))) (snd_gV (i := 4) (by decide)) (snd_tB (snd_din (snd_var (i := 4)) (snd_var (i := 2)))) (snd_var (i := 4)))))) h⟩
theorem ok_Ranking___init__ (T : Top w K mg a d c) : FnOk P w K mg base CX0 4 (a 30) (d 30) ["self", "board", "order"] (spM ⟨K, mg, w⟩ 3 F_Ranking___init__) := by
  have G13 : FnOk P w K mg base CX0 1 (a 13) (d 13) ["board"] (spM ⟨K, mg, w⟩ 1 F_check_board) := ok_check_board T
  have G28 : FnOk P w K mg base CX0 3 (a 28) (d 28) ["board", "order"] (spM ⟨K, mg, w⟩ 2 F_first_wrong_place) := ok_first_wrong_place T
  refine T.F30.ok sc_Ranking___init__ (fun vs H Q E h => h.1) (fun cdv A outer s H vs Q E hr h => ?_)
  exact ⟨_, (pss_cons (ps_expr (pe_call G13 (hr.mono (show 1 ≤ 3 by decide)) (by rfl) T.g13 T.F13.kp T.B13 .nil pass0 (pa_cons (pv 1) pa_nil)))
      (pss_cons (ps_if (pt_not (pt_truthK K rfl (pe_callB (call_isiK2 K rfl) (by rfl) T.b_isinstance (by decide +kernel) (pa_cons (pv 2) (pa_cons (pe_bltn (v := .ty "tuple") (by rfl) T.b_tuple (by decide +kernel) rfl) pa_nil))))) (pss_one ps_never) pss_nil)
      (pss_cons (ps_set (i := 3) sc_Ranking___init__.nd rfl (.inl rfl) (pe_call G28 (hr.mono (show 3 ≤ 3 by decide)) (by rfl) T.g28 T.F28.kp T.B28 .nil pass0 (pa_cons (pv 1) (pa_cons (pv 2) pa_nil))))
      (pss_cons (ps_if (pt_cmpR op_notN (pv 3) pe_non (nomark _)) (pss_one ps_never) pss_nil)
      (pss_cons (ps_fldK K rfl (pv 0) (pv 1) rfl)
      (pss_cons (ps_fldK K rfl (pv 0) (pv 2) rfl)
      (pss_one (ps_fldK K rfl (pv 0) (pe_dc (own := [("place", 4), ("setting", 5)])  (tt := tYes) rfl sc_Ranking___init__.nd (pi_enumU K rfl (by rfl) T.b_enumerate (pa_cons (pv 2) pa_nil)) (blkOk_by (N := ["self", "board", "order", "index", "place", "setting"]) (sc := defScope stRanking___init__) (by decide +kernel)) (fun _ _ _ _ _ => pg_tupK (n := 2) K rfl rfl (pgs_cons (pg_name (i := 4) sc_Ranking___init__.nd rfl (.inl rfl)) (pgs_cons (pg_name (i := 5) sc_Ranking___init__.nd rfl (.inl rfl)) pgs_nil))) (fun _ _ _ _ _ => pts_nil) (fun _ _ _ _ _ => (pv 5)) (fun _ _ _ _ _ => (pv 4))) rfl)))))))), body_ok (n := 3) (k := 3) rfl (snd_seq (snd_drop (snd_call (len_cons len_nil) (snd_cons (snd_var (i := 1)) snd_nil)))
      (snd_seq (snd_ifS (snd_notT (snd_tru (snd_isiT (T := "tuple") T.qs T.nbt (snd_var (i := 2))))) snd_never snd_next)
      (snd_seq (snd_set (i := 3) (snd_call (len_cons (len_cons len_nil)) (snd_cons (snd_var (i := 1)) (snd_cons (snd_var (i := 2)) snd_nil))))
      (snd_seq (snd_ifS (snd_tst (snd_op snd_notN (snd_var (i := 3)) snd_non)) snd_never snd_next)
      (snd_seq (snd_fldS T.nf__board (snd_var (i := 0)) (snd_var (i := 1)))
      (snd_seq (snd_fldS T.nf__order (snd_var (i := 0)) (snd_var (i := 2)))
      (snd_fldS T.nf__places (snd_var (i := 0)) (snd_dc (vs := [4, 5]) (snd_enum (snd_cons (snd_var (i := 2)) snd_nil)) (snd_gT (snd_gsCons (snd_gV (i := 4) (by decide)) (snd_gsCons (snd_gV (i := 5) (by decide)) snd_gsNil))) snd_yes (snd_var (i := 5)) (snd_var (i := 4)))))))))) h⟩
theorem ok_Ranking_board (T : Top w K mg a d c) : FnOk P w K mg base CX0 1 (a 31) (d 31) ["self"] (spM ⟨K, mg, w⟩ 1 F_Ranking_board) := by
  refine T.F31.ok sc_Ranking_board (fun vs H Q E h => h.1) (fun cdv A outer s H vs Q E hr h => ?_)
  exact ⟨_, (pss_one (ps_ret (pe_fldK K rfl (pv 0) (by rfl)))), body_ok (n := 1) (k := 0) rfl (snd_ret (snd_fld T.nf__board (snd_var (i := 0)))) h⟩
theorem ok_Ranking_peaks (T : Top w K mg a d c) : FnOk P w K mg base CX0 5 (a 35) (d 35) ["self", "part"] (spM ⟨K, mg, w⟩ 2 F_Ranking_peaks) := by
  have G29 : FnOk P w K mg base CX0 4 (a 29) (d 29) ["board", "part"] (spM ⟨K, mg, w⟩ 2 F_neighbours_in) := ok_neighbours_in T
  refine funD_ok T.F35 sc_Ranking_peaks (fun vs H Q E h => h.1) (fun cdv A outer s H vs Q E hr h => ?_)
  exact ⟨_, (pss_cons (ps_set (i := 2) sc_Ranking_peaks.nd rfl (.inr rfl) (pe_call G29 (hr.mono (show 4 ≤ 4 by decide)) (by rfl) T.g29 T.F29.kp T.B29 .nil pass0 (pa_cons (pe_fldK K rfl (pv 0) (by rfl)) (pa_cons (pv 1) pa_nil))))
      (pss_cons (ps_set (i := 3) sc_Ranking_peaks.nd rfl (.inr rfl) (pe_fldK K rfl (pv 0) (by rfl)))
      (pss_one (ps_ret (pe_tupleOfK K rfl (by rfl) T.b_tuple (PE.or (pe_lock (pe_lc (own := [("setting", 4)]) (g := gName 4)  rfl sc_Ranking_peaks.nd (pi_keys (pv 2)) (blkOk_by (N := ["self", "part", "beside", "places", "setting", "near"]) (sc := defScope stRanking_peaks) (by decide +kernel)) (fun _ _ _ _ _ => pg_name (i := 4) sc_Ranking_peaks.nd rfl (.inr rfl)) (fun _ _ _ _ _ => (pts_one (pt_truthK K rfl (pe_callB (cr_allK K rfl rfl) (by rfl) T.b_all (by decide +kernel) (pa_cons (pe_lc (own := [("near", 5)]) (g := gName 5) (tt := tYes) rfl sc_Ranking_peaks.nd (pi_U K rfl (pe_dget (hu_of hr) (pv 2) (pv 4) (fun _ _ => rfl))) (blkOk_at (N := ["self", "part", "beside", "places", "setting", "near"]) (sc := { kind := .function, names := [(".0", .local), ("setting", .cell), ("all", .globalImplicit), ("beside", .cell), ("places", .cell)], isGenerator := false, isCoroutine := false }) (by rfl) (by rfl) (by decide +kernel)) (fun _ _ _ _ _ => pg_name (i := 5) sc_Ranking_peaks.nd rfl (.inl rfl)) (fun _ _ _ _ _ => pts_nil) (fun _ _ _ _ _ => (pe_cmpR op_ltU (pe_dget (hu_of hr) (pv 3) (pv 5) (fun _ _ => rfl)) (pe_dget (hu_of hr) (pv 3) (pv 4) (fun _ _ => rfl)) (nomark _)))) pa_nil))))) (fun _ _ _ _ _ => (pv 4)))) (pe_lc (own := [("setting", 4)]) (g := gName 4)  rfl sc_Ranking_peaks.nd (pi_keys (pv 2)) (blkOk_by (N := ["self", "part", "beside", "places", "setting", "near"]) (sc := defScope stRanking_peaks) (by decide +kernel)) (fun _ _ _ _ _ => pg_name (i := 4) sc_Ranking_peaks.nd rfl (.inr rfl)) (fun _ _ _ _ _ => (pts_one (pt_truthK K rfl (pe_callB (cr_allK K rfl rfl) (by rfl) T.b_all (by decide +kernel) (pa_cons (pe_lc (own := [("near", 5)]) (g := gName 5) (tt := tYes) rfl sc_Ranking_peaks.nd (pi_U K rfl (pe_dget (hu_of hr) (pv 2) (pv 4) (fun _ _ => rfl))) (blkOk_at (N := ["self", "part", "beside", "places", "setting", "near"]) (sc := { kind := .function, names := [(".0", .local), ("setting", .cell), ("all", .globalImplicit), ("beside", .cell), ("places", .cell)], isGenerator := false, isCoroutine := false }) (by rfl) (by rfl) (by decide +kernel)) (fun _ _ _ _ _ => pg_name (i := 5) sc_Ranking_peaks.nd rfl (.inl rfl)) (fun _ _ _ _ _ => pts_nil) (fun _ _ _ _ _ => (pe_cmpR op_ltU (pe_dget (hu_of hr) (pv 3) (pv 5) (fun _ _ => rfl)) (pe_dget (hu_of hr) (pv 3) (pv 4) (fun _ _ => rfl)) (nomark _)))) pa_nil))))) (fun _ _ _ _ _ => (pv 4))))))))), body_ok (n := 2) (k := 4) rfl (snd_seq (snd_set (i := 2) (snd_call (len_cons (len_cons len_nil)) (snd_cons (snd_fld T.nf__board (snd_var (i := 0))) (snd_cons (snd_var (i := 1)) snd_nil))))
      (snd_seq (snd_set (i := 3) (snd_fld T.nf__places (snd_var (i := 0))))
      (snd_ret (snd_tupOf (snd_lcK (i := 2) (vs := [4]) (snd_gV (i := 4) (by decide)) (snd_tru (snd_cb snd_all (snd_cons (snd_lc (vs := [5]) (snd_it (snd_dget (snd_var (i := 2)) (snd_var (i := 4)))) (snd_gV (i := 5) (by decide)) snd_yes (snd_op snd_lt (snd_dget (snd_var (i := 3)) (snd_var (i := 5))) (snd_dget (snd_var (i := 3)) (snd_var (i := 4))))) snd_nil))) (snd_var (i := 4))))))) h⟩
theorem ok__law_jar (T : Top w K mg a d c) : FnOk P w K mg base CX0 1 (a 46) (d 46) ["script", "k"] (spM ⟨K, mg, w⟩ 2 F__law_jar) := by
  refine T.F46.ok sc__law_jar (fun vs H Q E h => h.1) (fun cdv A outer s H vs Q E hr h => ?_)
  exact ⟨_, (pss_cons (ps_set (i := 2) sc__law_jar.nd rfl (.inl rfl) (pe_op (op_addU K rfl) (pe_op op_mulU (pe_op op_mulU pe_int (pe_op (op_addU K rfl) (pv 1) pe_int)) (pe_op (op_addU K rfl) (pv 1) pe_int)) (pe_op op_mulU pe_int (pe_callB (call_lenU K rfl) (by rfl) T.b_len PySem.boot_len (pa_cons (pv 0) pa_nil)))))
      (pss_cons (ps_for PassesOwn.never rfl (pi_U K rfl (pe_slice (sl_U K rfl) (pv 0) po_none (po_some pe_int))) (pg_name (i := 3) sc__law_jar.nd rfl (.inl rfl)) (pss_one (ps_set (i := 2) sc__law_jar.nd rfl (.inl rfl) (pe_op op_modN (pe_callTy call_int1 (by rfl) T.b_int (by decide +kernel) (pa_cons (pe_op (op_addU K rfl) (pe_op op_mulU (pv 2) pe_int) (pv 3)) pa_nil)) pe_int))))
      (pss_cons (ps_set (i := 4) sc__law_jar.nd rfl (.inl rfl) (pe_ifExp (pt_cmpR op_ltU (pv 1) (pe_callB (call_lenU K rfl) (by rfl) T.b_len PySem.boot_len (pa_cons (pv 0) pa_nil)) (nomark _)) (pe_ix (ix_U K rfl) (pv 0) (pv 1) (fun _ _ => rfl)) pe_int))
      (pss_cons (ps_set (i := 5) sc__law_jar.nd rfl (.inl rfl) (pe_ifExp (PW.pt (pw_or (pt_cmpR op_ltU (pv 4) pe_int (nomark _)) (pw_or1 (pt_cmpR op_geU (pv 4) (pe_op op_pow pe_int pe_int) (nomark _))))) (pe_callB call_abs (by rfl) T.b_abs (by decide +kernel) (pa_cons (pv 4) pa_nil)) pe_int))
      (pss_one (ps_ret (pe_lst (pa_cons (pv 5) (pa_cons (pe_op op_modN (pe_callTy call_int1 (by rfl) T.b_int (by decide +kernel) (pa_cons (pe_op (op_addU K rfl) (pe_op (op_addU K rfl) (pe_op op_mulU (pv 2) pe_int) (pe_op op_mulU (pv 4) pe_int)) (pe_op op_mulU pe_int (pe_op (op_addU K rfl) (pv 1) pe_int))) pa_nil)) pe_int) (pa_cons pe_int pa_nil)))))))))), body_okL (n := 2) (k := 4) rfl (snd_seq (snd_set (i := 2) (snd_op snd_add (snd_op snd_mul (snd_op snd_mul snd_int (snd_op snd_add (snd_var (i := 1)) snd_int)) (snd_op snd_add (snd_var (i := 1)) snd_int)) (snd_op snd_mul snd_int (snd_cb snd_len (snd_cons (snd_var (i := 0)) snd_nil)))))
      (snd_seq (snd_for (vs := [3]) (snd_it (snd_sl (snd_var (i := 0)) snd_moNo (snd_moInt snd_int))) (snd_gV (i := 3) (by decide)) (snd_set (i := 2) (snd_op snd_mod (snd_cb snd_int1 (snd_cons (snd_op snd_add (snd_op snd_mul (snd_var (i := 2)) snd_int) (snd_var (i := 3))) snd_nil)) snd_int)))
      (snd_seq (snd_set (i := 4) (snd_if (snd_tst (snd_op snd_lt (snd_var (i := 1)) (snd_cb snd_len (snd_cons (snd_var (i := 0)) snd_nil)))) (snd_op snd_ix (snd_var (i := 0)) (snd_var (i := 1))) snd_int))
      (snd_seq (snd_set (i := 5) (snd_if (snd_orT (snd_tst (snd_op snd_lt (snd_var (i := 4)) snd_int)) (snd_tst (snd_op snd_ge (snd_var (i := 4)) (snd_op snd_pow snd_int snd_int)))) (snd_cb snd_abs (snd_cons (snd_var (i := 4)) snd_nil)) snd_int))
      (snd_ret (snd_lstL (snd_cons (snd_var (i := 5)) (snd_cons (snd_op snd_mod (snd_cb snd_int1 (snd_cons (snd_op snd_add (snd_op snd_add (snd_op snd_mul (snd_var (i := 2)) snd_int) (snd_op snd_mul (snd_var (i := 4)) snd_int)) (snd_op snd_mul snd_int (snd_op snd_add (snd_var (i := 1)) snd_int))) snd_nil)) snd_int) (snd_cons snd_int snd_nil))))))))) h⟩
theorem ok__law_dip (T : Top w K mg a d c) : FnOk P w K mg base CX0 1 (a 47) (d 47) ["jar", "most"] (spM ⟨K, mg, w⟩ 2 F__law_dip) := by
  refine T.F47.ok sc__law_dip (fun vs H Q E h => h.1) (fun cdv A outer s H vs Q E hr h => ?_)
  exact ⟨_, (pss_cons (ps_asg (pe_op (op_addU K rfl) (pe_ix (ix_U K rfl) (pv 0) pe_int (fun _ _ => rfl)) pe_int) (pg_sub (pv 0) pe_int set_list))
      (pss_cons (ps_if (pt_cmpR op_gtU (pe_ix (ix_U K rfl) (pv 0) pe_int (fun _ _ => rfl)) pe_int (nomark _)) (pss_cons (ps_set (i := 2) sc__law_dip.nd rfl (.inl rfl) (pe_op op_modN (pe_callTy call_int1 (by rfl) T.b_int (by decide +kernel) (pa_cons (pe_ix (ix_U K rfl) (pv 0) pe_int (fun _ _ => rfl)) pa_nil)) (pv 1)))
      (pss_cons (ps_asg (pe_op op_fdivN (pe_callTy call_int1 (by rfl) T.b_int (by decide +kernel) (pa_cons (pe_ix (ix_U K rfl) (pv 0) pe_int (fun _ _ => rfl)) pa_nil)) (pv 1)) (pg_sub (pv 0) pe_int set_list))
      (pss_one (ps_ret (pv 2))))) pss_nil)
      (pss_cons (ps_set (i := 3) sc__law_dip.nd rfl (.inl rfl) (pe_callTy call_int1 (by rfl) T.b_int (by decide +kernel) (pa_cons (pe_ix (ix_U K rfl) (pv 0) pe_int (fun _ _ => rfl)) pa_nil)))
      (pss_cons (ps_asg (pe_op op_modN (pe_callTy call_int1 (by rfl) T.b_int (by decide +kernel) (pa_cons (pe_op (op_addU K rfl) (pe_op (op_addU K rfl) (pe_op op_mulU (pv 3) pe_int) (pe_op op_mulU (pe_ix (ix_U K rfl) (pv 0) pe_int (fun _ _ => rfl)) pe_int)) pe_int) pa_nil)) pe_int) (pg_sub (pv 0) pe_int set_list))
      (pss_one (ps_ret (pe_op op_modN (pe_callTy call_int1 (by rfl) T.b_int (by decide +kernel) (pa_cons (pe_op op_fdivN (pe_ix (ix_U K rfl) (pv 0) pe_int (fun _ _ => rfl)) pe_int) pa_nil)) (pv 1)))))))), body_ok (n := 2) (k := 2) rfl (snd_seq (snd_put (snd_op snd_add (snd_op snd_ix (snd_var (i := 0)) snd_int) snd_int) (snd_var (i := 0)) snd_int)
      (snd_seq (snd_ifS (snd_tst (snd_op snd_gt (snd_op snd_ix (snd_var (i := 0)) snd_int) snd_int)) (snd_seq (snd_set (i := 2) (snd_op snd_mod (snd_cb snd_int1 (snd_cons (snd_op snd_ix (snd_var (i := 0)) snd_int) snd_nil)) (snd_var (i := 1))))
      (snd_seq (snd_put (snd_op snd_div (snd_cb snd_int1 (snd_cons (snd_op snd_ix (snd_var (i := 0)) snd_int) snd_nil)) (snd_var (i := 1))) (snd_var (i := 0)) snd_int)
      (snd_ret (snd_var (i := 2))))) snd_next)
      (snd_seq (snd_set (i := 3) (snd_cb snd_int1 (snd_cons (snd_op snd_ix (snd_var (i := 0)) snd_int) snd_nil)))
      (snd_seq (snd_put (snd_op snd_mod (snd_cb snd_int1 (snd_cons (snd_op snd_add (snd_op snd_add (snd_op snd_mul (snd_var (i := 3)) snd_int) (snd_op snd_mul (snd_op snd_ix (snd_var (i := 0)) snd_int) snd_int)) snd_int) snd_nil)) snd_int) (snd_var (i := 0)) snd_int)
      (snd_ret (snd_op snd_mod (snd_cb snd_int1 (snd_cons (snd_op snd_div (snd_op snd_ix (snd_var (i := 0)) snd_int) snd_int) snd_nil)) (snd_var (i := 1)))))))) h⟩
theorem ok__law_pick (T : Top w K mg a d c) : FnOk P w K mg base CX0 2 (a 48) (d 48) ["jar", "menu"] (spM ⟨K, mg, w⟩ 2 F__law_pick) := by
  have G47 : FnOk P w K mg base CX0 1 (a 47) (d 47) ["jar", "most"] (spM ⟨K, mg, w⟩ 2 F__law_dip) := ok__law_dip T
  refine T.F48.ok sc__law_pick (fun vs H Q E h => h.1) (fun cdv A outer s H vs Q E hr h => ?_)
  exact ⟨_, (pss_cons (ps_set (i := 2) sc__law_pick.nd rfl (.inl rfl) (pe_call G47 (hr.mono (show 1 ≤ 1 by decide)) (by rfl) T.g47 T.F47.kp T.B47 .nil pass0 (pa_cons (pv 0) (pa_cons (pe_callB (call_lenU K rfl) (by rfl) T.b_len PySem.boot_len (pa_cons (pv 1) pa_nil)) pa_nil))))
      (pss_one (ps_ret (pe_ix (ix_U K rfl) (pv 1) (pv 2) (fun _ _ => rfl))))), body_ok (n := 2) (k := 1) rfl (snd_seq (snd_set (i := 2) (snd_call (len_cons (len_cons len_nil)) (snd_cons (snd_var (i := 0)) (snd_cons (snd_cb snd_len (snd_cons (snd_var (i := 1)) snd_nil)) snd_nil))))
      (snd_ret (snd_op snd_ix (snd_var (i := 1)) (snd_var (i := 2))))) h⟩
theorem ok__law_spans (T : Top w K mg a d c) : FnOk P w K mg base CX0 3 (a 49) (d 49) ["jar", "most"] (spM ⟨K, mg, w⟩ 2 F__law_spans) := by
  have G47 : FnOk P w K mg base CX0 1 (a 47) (d 47) ["jar", "most"] (spM ⟨K, mg, w⟩ 2 F__law_dip) := ok__law_dip T
  have G48 : FnOk P w K mg base CX0 2 (a 48) (d 48) ["jar", "menu"] (spM ⟨K, mg, w⟩ 2 F__law_pick) := ok__law_pick T
  refine T.F49.ok sc__law_spans (fun vs H Q E h => h.1) (fun cdv A outer s H vs Q E hr h => ?_)
  exact ⟨_, (pss_cons (ps_asg (pe_tup (pa_cons (pe_tup pa_nil) (pa_cons pe_int pa_nil))) (pg_tupK (n := 2) K rfl rfl (pgs_cons (pg_name (i := 2) sc__law_spans.nd rfl (.inl rfl)) (pgs_cons (pg_name (i := 3) sc__law_spans.nd rfl (.inl rfl)) pgs_nil))))
      (pss_cons (ps_for PassesOwn.never rfl (pi_range1 (by rfl) T.b_range (pa_cons (pe_op (op_addU K rfl) pe_int (pe_call G47 (hr.mono (show 1 ≤ 2 by decide)) (by rfl) T.g47 T.F47.kp T.B47 .nil pass0 (pa_cons (pv 0) (pa_cons pe_int pa_nil)))) pa_nil)) (pg_name (i := 4) sc__law_spans.nd rfl (.inl rfl)) (pss_cons (ps_set (i := 5) sc__law_spans.nd rfl (.inl rfl) (pe_call G48 (hr.mono (show 2 ≤ 2 by decide)) (by rfl) T.g48 T.F48.kp T.B48 .nil pass0 (pa_cons (pv 0) (pa_cons (pe_lst (pa_cons pe_int (pa_cons pe_int (pa_cons pe_int pa_nil)))) pa_nil))))
      (pss_one (ps_if (pt_cmpR op_leU (pe_op op_mulU (pv 3) (pv 5)) (pv 1) (nomark _)) (pss_one (ps_par (i := 2) (j := 3) (by rfl) sc__law_spans.nd rfl rfl (by decide) rfl rfl (pa_cons (pe_op (op_addU K rfl) (pv 2) (pe_tup (pa_cons (pv 5) pa_nil))) (pa_cons (pe_op op_mulU (pv 3) (pv 5)) pa_nil)) (by rfl))) pss_nil))))
      (pss_one (ps_ret (pe_ifExp (pt_cmpR (op_neK K rfl hr.units) (pv 2) (pe_tup pa_nil) (nomark _)) (pv 2) (pe_tup (pa_cons pe_int pa_nil))))))), body_ok (n := 2) (k := 4) rfl (snd_seq (snd_asg (vs := [2, 3]) (snd_tup (snd_cons (snd_tup snd_nil) (snd_cons snd_int snd_nil))) (snd_gT (snd_gsCons (snd_gV (i := 2) (by decide)) (snd_gsCons (snd_gV (i := 3) (by decide)) snd_gsNil))))
      (snd_seq (snd_for (vs := [4]) (snd_rng1 (snd_cons (snd_op snd_add snd_int (snd_call (len_cons (len_cons len_nil)) (snd_cons (snd_var (i := 0)) (snd_cons snd_int snd_nil)))) snd_nil)) (snd_gV (i := 4) (by decide)) (snd_seq (snd_set (i := 5) (snd_call (len_cons (len_cons len_nil)) (snd_cons (snd_var (i := 0)) (snd_cons (snd_lst (snd_cons snd_int (snd_cons snd_int (snd_cons snd_int snd_nil)))) snd_nil))))
      (snd_ifS (snd_tst (snd_op snd_le (snd_op snd_mul (snd_var (i := 3)) (snd_var (i := 5))) (snd_var (i := 1)))) (snd_par (i := 2) (j := 3) (snd_cons (snd_op snd_add (snd_var (i := 2)) (snd_tup (snd_cons (snd_var (i := 5)) snd_nil))) (snd_cons (snd_op snd_mul (snd_var (i := 3)) (snd_var (i := 5))) snd_nil))) snd_next)))
      (snd_ret (snd_if (snd_tst (snd_op snd_ne (snd_var (i := 2)) (snd_tup snd_nil))) (snd_var (i := 2)) (snd_tup (snd_cons snd_int snd_nil)))))) h⟩
theorem ok__law_all (T : Top w K mg a d c) : FnOk P w K mg base CX0 1 (a 50) (d 50) ["spans"] (spM ⟨K, mg, w⟩ 1 F__law_all) := by
  refine T.F50.ok sc__law_all (fun vs H Q E h => h.1) (fun cdv A outer s H vs Q E hr h => ?_)
  exact ⟨_, (pss_cons (ps_set (i := 1) sc__law_all.nd rfl (.inl rfl) (pe_lst (pa_cons pe_str pa_nil)))
      (pss_cons (ps_for PassesOwn.never rfl (pi_U K rfl (pv 0)) (pg_name (i := 2) sc__law_all.nd rfl (.inl rfl)) (pss_cons (ps_set (i := 3) sc__law_all.nd rfl (.inl rfl) (pe_lst pa_nil))
      (pss_cons (ps_for PassesOwn.never rfl (pi_U K rfl (pv 1)) (pg_name (i := 4) sc__law_all.nd rfl (.inr rfl)) (pss_one (ps_set (i := 3) sc__law_all.nd rfl (.inl rfl) (pe_op (op_addU K rfl) (pv 3) (pe_lc (own := [("glyph", 5)]) (g := gName 5) (tt := tYes) rfl sc__law_all.nd (pi_U K rfl (pe_slice (sl_U K rfl) pe_str po_none (po_some (pv 2)))) (blkOk_by (N := ["spans", "found", "size", "longer", "begun", "glyph"]) (sc := defScope st_law_all) (by decide +kernel)) (fun _ _ _ _ _ => pg_name (i := 5) sc__law_all.nd rfl (.inl rfl)) (fun _ _ _ _ _ => pts_nil) (fun _ _ _ _ _ => (pe_op (op_addU K rfl) (pv 4) (pv 5))))))))
      (pss_one (ps_set (i := 1) sc__law_all.nd rfl (.inl rfl) (pv 3))))))
      (pss_one (ps_ret (pv 1))))), body_ok (n := 1) (k := 5) rfl (snd_seq (snd_set (i := 1) (snd_lst (snd_cons snd_str snd_nil)))
      (snd_seq (snd_for (vs := [2]) (snd_it (snd_var (i := 0))) (snd_gV (i := 2) (by decide)) (snd_seq (snd_set (i := 3) (snd_lst snd_nil))
      (snd_seq (snd_for (vs := [4]) (snd_it (snd_var (i := 1))) (snd_gV (i := 4) (by decide)) (snd_set (i := 3) (snd_op snd_add (snd_var (i := 3)) (snd_lc (vs := [5]) (snd_it (snd_sl snd_str snd_moNo (snd_moInt (snd_var (i := 2))))) (snd_gV (i := 5) (by decide)) snd_yes (snd_op snd_add (snd_var (i := 4)) (snd_var (i := 5)))))))
      (snd_set (i := 1) (snd_var (i := 3))))))
      (snd_ret (snd_var (i := 1))))) h⟩
theorem ok__law_allM (T : Top w K mg a d c) : FnOk P w K mg base CX0 1 (a 50) (d 50) ["spans"] (spM ⟨K, mg, w⟩ 1 F__law_allM) := by
  refine FnOk_imp (?_ : FnOk P w K mg base CX0 1 (a 50) (d 50) ["spans"] (spAllG K)) fun vs H Q E h => sp_all h
  refine T.F50.ok sc__law_all (fun vs H Q E h => ?_) (fun cdv A outer s H vs Q E hr h => ?_)
  · obtain ⟨a, ns, rfl, _⟩ := h
    rfl
  · obtain ⟨a, ns, rfl, hS, fit, q⟩ := h
    refine ⟨_, (pss_cons (ps_set (i := 1) sc__law_all.nd rfl (.inl rfl) (pe_lst (pa_cons pe_str pa_nil)))
      (pss_cons (ps_for PassesOwn.never rfl (pi_tup (pv 0)) (pg_name (i := 2) sc__law_all.nd rfl (.inl rfl)) (pss_cons (ps_set (i := 3) sc__law_all.nd rfl (.inl rfl) (pe_lst pa_nil))
      (pss_cons (ps_for PassesOwn.never rfl (pi_list (pv 1)) (pg_name (i := 4) sc__law_all.nd rfl (.inr rfl)) (pss_one (ps_set (i := 3) sc__law_all.nd rfl (.inl rfl) (pe_op op_cat (pv 3) (pe_lc (own := [("glyph", 5)]) (g := gName 5) (tt := tYes) rfl sc__law_all.nd (pi_str (pe_slice sl_str pe_str po_none (po_some (pv 2)))) (blkOk_by (N := ["spans", "found", "size", "longer", "begun", "glyph"]) (sc := defScope st_law_all) (by decide +kernel)) (fun _ _ _ _ _ => pg_name (i := 5) sc__law_all.nd rfl (Or.inl rfl)) (fun _ _ _ _ _ => pts_nil) (fun _ _ _ _ _ => (pe_op op_add_str (pv 4) (pv 5))))))))
      (pss_one (ps_set (i := 1) sc__law_all.nd rfl (.inl rfl) (pv 3))))))
      (pss_one (ps_ret (pv 1))))), ?_⟩
    refine ⟨by show 1 ≤ sizeLine; decide, fun l nl => ?_⟩
    refine ⟨_, rfl, a, rfl, ⟨_, sqt_same (same_new nl) hS⟩, for_it (walk_tup (K := K) (a := a) (xs := ns.map V.int)) (fun i σ H' => ∃ (l : Addr) (y1 y2 y3 : Option V), σ = [some (.ref a), some (.ref l), y1, y2, y3, none] ∧ Grow H H' ∧ H l = none ∧ H' l = some (.lst ((setsOf ((wholeOf ns).take i)).map V.str)))
      ⟨l, none, none, none, rfl, Grow.new nl, nl, upd_same⟩ (fun i σ H' _ ⟨_, _, _, _, _, s1, _⟩ => sqt_same s1.same hS) ?_ ?_⟩
    · rintro i v H10 H1 H2 hi ⟨l, y1, y2, y3, rfl, s1, nl, hl⟩ ⟨rfl, hv⟩
      obtain ⟨n, hn, rfl⟩ := at_map hv
      have hz : (wholeOf ns)[i]? = some (cutS "012" none (some n)) := by
        unfold wholeOf
        rw [List.getElem?_map, hn]
        rfl
      generalize hzz : cutS "012" none (some n) = z at hz
      have z3 := fit.each z (List.mem_of_getElem? hz)
      have sl := setsOf_len (fit.take i)
      have each := setsOf_each (zs := (wholeOf ns).take i)
      have l5 : ((wholeOf ns).take i).length ≤ 5 := (fit.take i).many
      rw [take_next hz, setsOf_snoc]
      generalize setsOf ((wholeOf ns).take i) = S at hl sl each ⊢
      refine ⟨by show 0 ≤ sizeLine; decide, fun e ne => ?_⟩
      have ne0 := s1.same.free ne
      refine ⟨_, rfl, l, rfl, ⟨_, .inl (.inl ((same_new ne) _ _ hl))⟩, for_it (walk_list (K := K) (a := l) (xs := S.map V.str)) (fun j σ H3 => ∃ (e : Addr) (y3 : Option V), σ = [some (.ref a), some (.ref l), some (.int n), some (.ref e), y3, none] ∧ Grow H2 H3 ∧ H2 e = none ∧ H3 e = some (.lst ((sets1 (S.take j) z).map V.str)))
        ⟨e, _, rfl, Grow.new ne, ne, upd_same⟩ (fun j σ H3 _ ⟨_, _, _, s3, _⟩ => .inl (.inl (s3.same _ _ hl))) ?_ ?_⟩
      · rintro j v H30 H31 H3 hj ⟨e, y3, rfl, s3, ne, he⟩ ⟨rfl, hv⟩
        obtain ⟨s, hs, rfl⟩ := at_map hv
        have ls := each s (List.mem_of_getElem? hs)
        refine ⟨_, rfl, _, rfl, n, rfl, _, rfl, by decide +kernel, z, by rw [hzz], fun D nD => lc_it (walk_chars (z := z)) (fun k H5 => Grow H3 H5 ∧ H5 D = some (.lst ((((chars z).take k).map fun c => s ++ c).map V.str)))
          ⟨Grow.new nD, upd_same⟩ (fun _ _ _ _ => True.intro) ?_ ?_⟩
        · rintro k v H50 H5 hk ⟨s5, e5⟩ ⟨rfl, c, hc, rfl⟩
          refine ⟨rfl, _, rfl, _, rfl, s, c, rfl, rfl, ?_, _, e5, ?_, comp_grow s5 nD, upd_same.trans (lst_next ?_)⟩
          · rw [ls, char_len hc]
            exact Nat.le_of_lt (small1000' (by omega))
          · rw [List.length_map, List.length_map, List.length_take]
            exact small1000' (by omega)
          · rw [take_next hc, List.map_append]
            rfl
        · rintro H5 ⟨s5, e5⟩
          rw [List.take_length] at e5
          have g1 := sets1_take_len (S := S) (z := z) (i := j)
          have g2 : S.length * (chars z).length ≤ 243 * 3 := Nat.mul_le_mul sl z3
          refine ⟨e, D, _, _, rfl, rfl, s5.same _ _ he, e5, ?_, fun p np => ⟨p, _, rfl, s3.trans (s5.trans (Grow.new np)), (s3.trans s5).same.free np, upd_same.trans ?_⟩⟩
          · rw [List.length_map, List.length_map, List.length_map]
            exact Nat.le_of_lt (small1000' (by omega))
          · rw [sets1_next hs, List.map_append]
      · rintro σ H3 ⟨e, y3, rfl, s3, ne, he⟩
        rw [List.length_map, List.take_length] at he
        exact ⟨_, rfl, e, _, _, _, rfl, s1.trans s3, s1.same.free ne, he⟩
    · rintro σ H1 ⟨l, y1, y2, y3, rfl, s1, nl, hl⟩
      have e0 : (ns.map V.int).length = (wholeOf ns).length := by unfold wholeOf; rw [List.length_map, List.length_map]
      rw [e0, List.take_length] at hl
      exact ⟨_, rfl, q _ l s1 nl hl⟩
theorem ok__law_near (T : Top w K mg a d c) : FnOk P w K mg base CX0 2 (a 51) (d 51) ["spans", "spot"] (spM ⟨K, mg, w⟩ 2 F__law_near) := by
  have G50 : FnOk P w K mg base CX0 1 (a 50) (d 50) ["spans"] (spM ⟨K, mg, w⟩ 1 F__law_all) := ok__law_all T
  refine T.F51.ok sc__law_near (fun vs H Q E h => h.1) (fun cdv A outer s H vs Q E hr h => ?_)
  exact ⟨_, (pss_cons (ps_setLc (i := 2) (own := [("each", 3)]) (g := gName 3)  rfl sc__law_near.nd rfl rfl (sw_true rfl rfl rfl (by decide +kernel)) (pi_U K rfl (pe_call G50 (hr.mono (show 1 ≤ 1 by decide)) (by rfl) T.g50 T.F50.kp T.B50 .nil pass0 (pa_cons (pv 0) pa_nil))) (blkOk_by (N := ["spans", "spot", "others", "each", "k"]) (sc := defScope st_law_near) (by decide +kernel)) (fun _ _ _ _ _ => pg_name (i := 3) sc__law_near.nd rfl (.inl rfl)) (fun _ _ _ _ _ => (pts_one (pt_cmpR (op_eqK K rfl hr.units) (pe_callB (call_lenU K rfl) (by rfl) T.b_len PySem.boot_len (pa_cons (pv 3) pa_nil)) (pe_callB (call_lenU K rfl) (by rfl) T.b_len PySem.boot_len (pa_cons (pv 1) pa_nil)) (nomark _)))) (fun _ _ _ _ _ => (pv 3)))
      (pss_one (ps_ret (pe_lc (own := [("each", 3)]) (g := gName 3)  rfl sc__law_near.nd (pi_U K rfl (pv 2)) (blkOk_by (N := ["spans", "spot", "others", "each", "k"]) (sc := defScope st_law_near) (by decide +kernel)) (fun _ _ _ _ _ => pg_name (i := 3) sc__law_near.nd rfl (.inr rfl)) (fun _ _ _ _ _ => (pts_one (pt_cmpR (op_eqK K rfl hr.units) (pe_callB (call_lenU K rfl) (by rfl) T.b_len PySem.boot_len (pa_cons (pe_lc (own := [("k", 4)]) (g := gName 4)  rfl sc__law_near.nd (pi_range1 (by rfl) T.b_range (pa_cons (pe_callB (call_lenU K rfl) (by rfl) T.b_len PySem.boot_len (pa_cons (pv 1) pa_nil)) pa_nil)) (blkOk_at (N := ["spans", "spot", "others", "each", "k"]) (sc := { kind := .function, names := [(".0", .local), ("each", .cell), ("len", .globalImplicit), ("range", .globalImplicit), ("spot", .cell)], isGenerator := false, isCoroutine := false }) (by rfl) (by rfl) (by decide +kernel)) (fun _ _ _ _ _ => pg_name (i := 4) sc__law_near.nd rfl (.inl rfl)) (fun _ _ _ _ _ => (pts_one (pt_cmpR (op_neK K rfl hr.units) (pe_ix (ix_U K rfl) (pv 3) (pv 4) (fun _ _ => rfl)) (pe_ix (ix_U K rfl) (pv 1) (pv 4) (fun _ _ => rfl)) (nomark _)))) (fun _ _ _ _ _ => (pv 4))) pa_nil)) pe_int (nomark _)))) (fun _ _ _ _ _ => (pv 3)))))), body_ok (n := 2) (k := 3) rfl (snd_seq (snd_set (i := 2) (snd_lc (vs := [3]) (snd_it (snd_call (len_cons len_nil) (snd_cons (snd_var (i := 0)) snd_nil))) (snd_gV (i := 3) (by decide)) (snd_tst (snd_op snd_eq (snd_cb snd_len (snd_cons (snd_var (i := 3)) snd_nil)) (snd_cb snd_len (snd_cons (snd_var (i := 1)) snd_nil)))) (snd_var (i := 3))))
      (snd_ret (snd_lc (vs := [3]) (snd_it (snd_var (i := 2))) (snd_gV (i := 3) (by decide)) (snd_tst (snd_op snd_eq (snd_cb snd_len (snd_cons (snd_lc (vs := [4]) (snd_rng1 (snd_cons (snd_cb snd_len (snd_cons (snd_var (i := 1)) snd_nil)) snd_nil)) (snd_gV (i := 4) (by decide)) (snd_tst (snd_op snd_ne (snd_op snd_ix (snd_var (i := 3)) (snd_var (i := 4))) (snd_op snd_ix (snd_var (i := 1)) (snd_var (i := 4))))) (snd_var (i := 4))) snd_nil)) snd_int)) (snd_var (i := 3))))) h⟩
theorem ok__law_line (T : Top w K mg a d c) : FnOk P w K mg base CX0 2 (a 52) (d 52) ["jar", "spans"] (spM ⟨K, mg, w⟩ 2 F__law_line) := by
  have G47 : FnOk P w K mg base CX0 1 (a 47) (d 47) ["jar", "most"] (spM ⟨K, mg, w⟩ 2 F__law_dip) := ok__law_dip T
  have G50 : FnOk P w K mg base CX0 1 (a 50) (d 50) ["spans"] (spM ⟨K, mg, w⟩ 1 F__law_allM) := ok__law_allM T
  refine T.F52.ok sc__law_line (fun vs H Q E h => h.1) (fun cdv A outer s H vs Q E hr h => ?_)
  exact ⟨_, (pss_cons (ps_par (i := 2) (j := 3) (by rfl) sc__law_line.nd rfl rfl (by decide) rfl rfl (pa_cons (pe_call G50 (hr.mono (show 1 ≤ 1 by decide)) (by rfl) T.g50 T.F50.kp T.B50 .nil pass0 (pa_cons (pv 1) pa_nil)) (pa_cons (pe_lst pa_nil) pa_nil)) (by rfl))
      (pss_cons (ps_while PassesOwn.never (pt_cmpR (op_neK K rfl hr.units) (pv 2) (pe_lst pa_nil) (nomark _)) (pss_one (ps_expr (pe_bm PySem.F.plainAttrs_list PySem.F.slot_list_append PySem.F.type_list_append mt_append (pv 3) (pa_cons (pe_bm PySem.F.plainAttrs_list PySem.F.slot_list_pop PySem.F.type_list_pop mt_popAt (pv 2) (pa_cons (pe_call G47 (hr.mono (show 1 ≤ 1 by decide)) (by rfl) T.g47 T.F47.kp T.B47 .nil pass0 (pa_cons (pv 0) (pa_cons (pe_callB (call_lenU K rfl) (by rfl) T.b_len PySem.boot_len (pa_cons (pv 2) pa_nil)) pa_nil))) pa_nil)) pa_nil)))))
      (pss_one (ps_ret (pe_tupleN K rfl (by rfl) T.b_tuple (pv 3)))))), body_ok (n := 2) (k := 2) rfl (snd_seq (snd_par (i := 2) (j := 3) (snd_cons (snd_call (len_cons len_nil) (snd_cons (snd_var (i := 1)) snd_nil)) (snd_cons (snd_lstL snd_nil) snd_nil)))
      (snd_seq (snd_while (n := 1000) (snd_tst (snd_op snd_ne (snd_var (i := 2)) (snd_lst snd_nil))) (snd_drop (snd_append (snd_var (i := 3)) (snd_cons (snd_popAt (snd_var (i := 2)) (snd_cons (snd_call (len_cons (len_cons len_nil)) (snd_cons (snd_var (i := 0)) (snd_cons (snd_cb snd_len (snd_cons (snd_var (i := 2)) snd_nil)) snd_nil))) snd_nil)) snd_nil))))
      (snd_ret (snd_tupN (snd_var (i := 3)))))) h⟩
theorem ok__law_room (T : Top w K mg a d c) : FnOk P w K mg base CX0 3 (a 53) (d 53) ["jar", "spans"] (spM ⟨K, mg, w⟩ 2 F__law_room) := by
  have G48 : FnOk P w K mg base CX0 2 (a 48) (d 48) ["jar", "menu"] (spM ⟨K, mg, w⟩ 2 F__law_pick) := ok__law_pick T
  refine T.F53.ok sc__law_room (fun vs H Q E h => h.1) (fun cdv A outer s H vs Q E hr h => ?_)
  exact ⟨_, (pss_cons (ps_set (i := 2) sc__law_room.nd rfl (.inr rfl) (pe_disp (pps_cons pe_int (pe_lst (pa_cons pe_str (pa_cons pe_str (pa_cons pe_str (pa_cons pe_str pa_nil))))) (pps_cons pe_int (pe_lst (pa_cons pe_str (pa_cons pe_str (pa_cons pe_str (pa_cons pe_str (pa_cons pe_str (pa_cons pe_str (pa_cons pe_str pa_nil)))))))) pps_nil)) (by rfl) (by rfl) (fun z => by cases z) (by decide)))
      (pss_one (ps_ret (pe_tupleOfK K rfl (by rfl) T.b_tuple (pe_lc (own := [("size", 3)]) (g := gName 3) (tt := tYes) rfl sc__law_room.nd (pi_U K rfl (pv 1)) (blkOk_by (N := ["jar", "spans", "lots", "size"]) (sc := defScope st_law_room) (by decide +kernel)) (fun _ _ _ _ _ => pg_name (i := 3) sc__law_room.nd rfl (.inl rfl)) (fun _ _ _ _ _ => pts_nil) (fun _ _ _ _ _ => (pe_call G48 (hr.mono (show 2 ≤ 2 by decide)) (by rfl) T.g48 T.F48.kp T.B48 .nil pass0 (pa_cons (pv 0) (pa_cons (pe_dget (hu_of hr) (pv 2) (pv 3) (fun _ _ => rfl)) pa_nil))))))))), body_ok (n := 2) (k := 2) rfl (snd_seq (snd_set (i := 2) (snd_disp (ms := [((mC (.int 2)), (mLst (maCons (mC (.str "01")) (maCons (mC (.str "0")) (maCons (mC (.str "1")) (maCons (mC (.str "01")) maNil)))))), ((mC (.int 3)), (mLst (maCons (mC (.str "012")) (maCons (mC (.str "012")) (maCons (mC (.str "01")) (maCons (mC (.str "02")) (maCons (mC (.str "12")) (maCons (mC (.str "2")) (maCons (mC (.str "1")) maNil)))))))))]) ⟨snd_int, (snd_lst (snd_cons snd_str (snd_cons snd_str (snd_cons snd_str (snd_cons snd_str snd_nil))))), ⟨snd_int, (snd_lst (snd_cons snd_str (snd_cons snd_str (snd_cons snd_str (snd_cons snd_str (snd_cons snd_str (snd_cons snd_str (snd_cons snd_str snd_nil)))))))), True.intro⟩⟩))
      (snd_ret (snd_tupOf (snd_lc (vs := [3]) (snd_it (snd_var (i := 1))) (snd_gV (i := 3) (by decide)) snd_yes (snd_call (len_cons (len_cons len_nil)) (snd_cons (snd_var (i := 0)) (snd_cons (snd_dget (snd_var (i := 2)) (snd_var (i := 3))) snd_nil))))))) h⟩
theorem ok__law_inside (T : Top w K mg a d c) : FnOk P w K mg base CX0 1 (a 54) (d 54) ["room"] (spM ⟨K, mg, w⟩ 1 F__law_inside) := by
  refine T.F54.ok sc__law_inside (fun vs H Q E h => h.1) (fun cdv A outer s H vs Q E hr h => ?_)
  exact ⟨_, (pss_cons (ps_set (i := 1) sc__law_inside.nd rfl (.inl rfl) (pe_lst (pa_cons pe_str pa_nil)))
      (pss_cons (ps_for PassesOwn.never rfl (pi_U K rfl (pv 0)) (pg_name (i := 2) sc__law_inside.nd rfl (.inl rfl)) (pss_cons (ps_set (i := 3) sc__law_inside.nd rfl (.inl rfl) (pe_lst pa_nil))
      (pss_cons (ps_for PassesOwn.never rfl (pi_U K rfl (pv 1)) (pg_name (i := 4) sc__law_inside.nd rfl (.inr rfl)) (pss_one (ps_set (i := 3) sc__law_inside.nd rfl (.inl rfl) (pe_op (op_addU K rfl) (pv 3) (pe_lc (own := [("glyph", 5)]) (g := gName 5) (tt := tYes) rfl sc__law_inside.nd (pi_U K rfl (pv 2)) (blkOk_by (N := ["room", "found", "stands", "longer", "begun", "glyph"]) (sc := defScope st_law_inside) (by decide +kernel)) (fun _ _ _ _ _ => pg_name (i := 5) sc__law_inside.nd rfl (.inl rfl)) (fun _ _ _ _ _ => pts_nil) (fun _ _ _ _ _ => (pe_op (op_addU K rfl) (pv 4) (pv 5))))))))
      (pss_one (ps_set (i := 1) sc__law_inside.nd rfl (.inl rfl) (pv 3))))))
      (pss_one (ps_ret (pv 1))))), body_ok (n := 1) (k := 5) rfl (snd_seq (snd_set (i := 1) (snd_lst (snd_cons snd_str snd_nil)))
      (snd_seq (snd_for (vs := [2]) (snd_it (snd_var (i := 0))) (snd_gV (i := 2) (by decide)) (snd_seq (snd_set (i := 3) (snd_lst snd_nil))
      (snd_seq (snd_for (vs := [4]) (snd_it (snd_var (i := 1))) (snd_gV (i := 4) (by decide)) (snd_set (i := 3) (snd_op snd_add (snd_var (i := 3)) (snd_lc (vs := [5]) (snd_it (snd_var (i := 2))) (snd_gV (i := 5) (by decide)) snd_yes (snd_op snd_add (snd_var (i := 4)) (snd_var (i := 5)))))))
      (snd_set (i := 1) (snd_var (i := 3))))))
      (snd_ret (snd_var (i := 1))))) h⟩
theorem ok__law_full (T : Top w K mg a d c) : FnOk P w K mg base CX0 1 (a 55) (d 55) ["spans"] (spM ⟨K, mg, w⟩ 1 F__law_full) := by
  refine T.F55.ok sc__law_full (fun vs H Q E h => h.1) (fun cdv A outer s H vs Q E hr h => ?_)
  exact ⟨_, (pss_one (ps_ret (pe_tupleOfK K rfl (by rfl) T.b_tuple (pe_lc (own := [("size", 1)]) (g := gName 1) (tt := tYes) rfl sc__law_full.nd (pi_U K rfl (pv 0)) (blkOk_by (N := ["spans", "size"]) (sc := defScope st_law_full) (by decide +kernel)) (fun _ _ _ _ _ => pg_name (i := 1) sc__law_full.nd rfl (.inl rfl)) (fun _ _ _ _ _ => pts_nil) (fun _ _ _ _ _ => (pe_slice (sl_U K rfl) pe_str po_none (po_some (pv 1)))))))), body_ok (n := 1) (k := 1) rfl (snd_ret (snd_tupOf (snd_lc (vs := [1]) (snd_it (snd_var (i := 0))) (snd_gV (i := 1) (by decide)) snd_yes (snd_sl snd_str snd_moNo (snd_moInt (snd_var (i := 1))))))) h⟩
theorem ok__law_tops (T : Top w K mg a d c) : FnOk P w K mg base CX0 3 (a 56) (d 56) ["spans", "line", "room"] (spM ⟨K, mg, w⟩ 3 F__law_tops) := by
  have G51 : FnOk P w K mg base CX0 2 (a 51) (d 51) ["spans", "spot"] (spM ⟨K, mg, w⟩ 2 F__law_near) := ok__law_near T
  have G54 : FnOk P w K mg base CX0 1 (a 54) (d 54) ["room"] (spM ⟨K, mg, w⟩ 1 F__law_inside) := ok__law_inside T
  refine T.F56.ok sc__law_tops (fun vs H Q E h => h.1) (fun cdv A outer s H vs Q E hr h => ?_)
  exact ⟨_, (pss_cons (ps_asg (pe_tup (pa_cons (pe_call G54 (hr.mono (show 1 ≤ 2 by decide)) (by rfl) T.g54 T.F54.kp T.B54 .nil pass0 (pa_cons (pv 2) pa_nil)) (pa_cons (pe_lst pa_nil) pa_nil))) (pg_tupK (n := 2) K rfl rfl (pgs_cons (pg_name (i := 3) sc__law_tops.nd rfl (.inr rfl)) (pgs_cons (pg_name (i := 4) sc__law_tops.nd rfl (.inl rfl)) pgs_nil))))
      (pss_cons (ps_for PassesOwn.never rfl (pi_U K rfl (pv 3)) (pg_name (i := 5) sc__law_tops.nd rfl (.inr rfl)) (pss_one (ps_if (pt_truthK K rfl (pe_callB (cr_allK K rfl rfl) (by rfl) T.b_all (by decide +kernel) (pa_cons (pe_lc (own := [("each", 6)]) (g := gName 6)  rfl sc__law_tops.nd (pi_U K rfl (pe_call G51 (hr.mono (show 2 ≤ 2 by decide)) (by rfl) T.g51 T.F51.kp T.B51 .nil pass0 (pa_cons (pv 0) (pa_cons (pv 5) pa_nil)))) (blkOk_by (N := ["spans", "line", "room", "inside", "found", "spot", "each"]) (sc := defScope st_law_tops) (by decide +kernel)) (fun _ _ _ _ _ => pg_name (i := 6) sc__law_tops.nd rfl (.inl rfl)) (fun _ _ _ _ _ => (pts_one (pt_cmpR (op_inU K rfl (hu65 hr)) (pv 6) (pv 3) (by with_unfolding_all rfl)))) (fun _ _ _ _ _ => (pe_cmpR op_ltU (pe_tm PySem.F.slot_tuple_index PySem.F.type_tuple_index mt_tup_index (pv 1) (pa_cons (pv 6) pa_nil)) (pe_tm PySem.F.slot_tuple_index PySem.F.type_tuple_index mt_tup_index (pv 1) (pa_cons (pv 5) pa_nil)) (nomark _)))) pa_nil))) (pss_one (ps_expr (pe_bm PySem.F.plainAttrs_list PySem.F.slot_list_append PySem.F.type_list_append mt_append (pv 4) (pa_cons (pv 5) pa_nil)))) pss_nil)))
      (pss_one (ps_ret (pe_tupleOfK K rfl (by rfl) T.b_tuple (pv 4)))))), body_ok (n := 3) (k := 4) rfl (snd_seq (snd_asg (vs := [3, 4]) (snd_tup (snd_cons (snd_call (len_cons len_nil) (snd_cons (snd_var (i := 2)) snd_nil)) (snd_cons (snd_lstL snd_nil) snd_nil))) (snd_gT (snd_gsCons (snd_gV (i := 3) (by decide)) (snd_gsCons (snd_gV (i := 4) (by decide)) snd_gsNil))))
      (snd_seq (snd_for (vs := [5]) (snd_it (snd_var (i := 3))) (snd_gV (i := 5) (by decide)) (snd_ifS (snd_tru (snd_cb snd_all (snd_cons (snd_lc (vs := [6]) (snd_it (snd_call (len_cons (len_cons len_nil)) (snd_cons (snd_var (i := 0)) (snd_cons (snd_var (i := 5)) snd_nil)))) (snd_gV (i := 6) (by decide)) (snd_tst (snd_op snd_in (snd_var (i := 6)) (snd_var (i := 3)))) (snd_op snd_lt (snd_tix (snd_var (i := 1)) (snd_cons (snd_var (i := 6)) snd_nil)) (snd_tix (snd_var (i := 1)) (snd_cons (snd_var (i := 5)) snd_nil)))) snd_nil))) (snd_drop (snd_append (snd_var (i := 4)) (snd_cons (snd_var (i := 5)) snd_nil))) snd_next))
      (snd_ret (snd_tupOf (snd_var (i := 4)))))) h⟩
theorem ok__law_right (T : Top w K mg a d c) : FnG P w K mg base 6 (a 57) (d 57) ["jar"] (spM ⟨K, mg, w⟩ 1 F__law_right) := by
  have G15 : FnOk P w K mg base CX0 3 (a 15) (d 15) ["self", "sizes"] (spM ⟨K, mg, w⟩ 2 F_Board___init__) := ok_Board___init__ T
  have G19 : FnOk P w K mg base CX0 1 (a 19) (d 19) ["self"] (spM ⟨K, mg, w⟩ 1 F_Board_whole) := ok_Board_whole T
  have G30 : FnOk P w K mg base CX0 4 (a 30) (d 30) ["self", "board", "order"] (spM ⟨K, mg, w⟩ 3 F_Ranking___init__) := ok_Ranking___init__ T
  have G31 : FnOk P w K mg base CX0 1 (a 31) (d 31) ["self"] (spM ⟨K, mg, w⟩ 1 F_Ranking_board) := ok_Ranking_board T
  have G35 : FnOk P w K mg base CX0 5 (a 35) (d 35) ["self", "part"] (spM ⟨K, mg, w⟩ 2 F_Ranking_peaks) := ok_Ranking_peaks T
  have G49 : FnOk P w K mg base CX0 3 (a 49) (d 49) ["jar", "most"] (spM ⟨K, mg, w⟩ 2 F__law_spans) := ok__law_spans T
  have G52 : FnOk P w K mg base CX0 2 (a 52) (d 52) ["jar", "spans"] (spM ⟨K, mg, w⟩ 2 F__law_line) := ok__law_line T
  have G53 : FnOk P w K mg base CX0 3 (a 53) (d 53) ["jar", "spans"] (spM ⟨K, mg, w⟩ 2 F__law_room) := ok__law_room T
  have G54 : FnOk P w K mg base CX0 1 (a 54) (d 54) ["room"] (spM ⟨K, mg, w⟩ 1 F__law_inside) := ok__law_inside T
  have G55 : FnOk P w K mg base CX0 1 (a 55) (d 55) ["spans"] (spM ⟨K, mg, w⟩ 1 F__law_full) := ok__law_full T
  have G56 : FnOk P w K mg base CX0 3 (a 56) (d 56) ["spans", "line", "room"] (spM ⟨K, mg, w⟩ 3 F__law_tops) := ok__law_tops T
  refine okG T.F57 sc__law_right (fun vs H Q E h => h.1) (fun cdv A outer s H vs Q E hr fr h => ?_)
  exact ⟨_, (pss_cons (ps_for PassesOwn.never rfl (pi_range1 (by rfl) T.b_range (pa_cons pe_int pa_nil)) (pg_name (i := 1) sc__law_right.nd rfl (.inl rfl)) (pss_cons (ps_set (i := 2) sc__law_right.nd rfl (.inl rfl) (pe_call G49 (hr.mono (show 3 ≤ 5 by decide)) (by rfl) T.g49 T.F49.kp T.B49 .nil pass0 (pa_cons (pv 0) (pa_cons pe_int pa_nil))))
      (pss_cons (ps_set (i := 3) sc__law_right.nd rfl (.inr rfl) (pe_call G52 (hr.mono (show 2 ≤ 5 by decide)) (by rfl) T.g52 T.F52.kp T.B52 .nil pass0 (pa_cons (pv 0) (pa_cons (pv 2) pa_nil))))
      (pss_cons (ps_par (i := 4) (j := 5) (by rfl) sc__law_right.nd rfl rfl (by decide) rfl rfl (pa_cons (pe_make T.mk_Ranking G30 (hr.mono (show 5 ≤ 5 by decide)) (by rfl) T.gc_Ranking T.B30 .nil pass0 (pa_cons (pe_make T.mk_Board G15 (hr.mono (show 4 ≤ 5 by decide)) (by rfl) T.gc_Board T.B15 .nil pass0 (pa_cons (pv 2) pa_nil)) (pa_cons (pv 3) pa_nil))) (pa_cons (pe_call G56 (hr.mono (show 3 ≤ 5 by decide)) (by rfl) T.g56 T.F56.kp T.B56 .nil pass0 (pa_cons (pv 2) (pa_cons (pv 3) (pa_cons (pe_call G55 (hr.mono (show 1 ≤ 5 by decide)) (by rfl) T.g55 T.F55.kp T.B55 .nil pass0 (pa_cons (pv 2) pa_nil)) pa_nil)))) pa_nil)) (by rfl))
      (pss_cons (ps_set (i := 6) sc__law_right.nd rfl (.inl rfl) (pe_lst (pa_cons (pe_meth0 (pv 4) T.q_Ranking.cl T.me35 G35 (hr.mono (show 5 ≤ 5 by decide)) T.BD35_1 (.cons (show RelV .non .none from rfl) .nil) pass0) (pa_cons (pe_meth (pv 4) T.q_Ranking.cl T.me35 G35 (hr.mono (show 5 ≤ 5 by decide)) T.B35 .nil pass0 (pa_cons pe_non pa_nil)) (pa_cons (pe_methK0 (pv 4) T.q_Ranking.cl T.me35 G35 (hr.mono (show 5 ≤ 5 by decide)) T.kb35_part pass0 (pk_cons (pe_prop (pe_prop (pv 4) T.q_Ranking.cl T.pr31.choose_spec G31 (hr.mono (show 2 ≤ 5 by decide)) T.B31 .nil pass0 (by rfl)) T.q_Board.cl T.pr19.choose_spec G19 (hr.mono (show 2 ≤ 5 by decide)) T.B19 .nil pass0 (by rfl)) pk_nil)) pa_nil)))))
      (pss_cons (ps_if (PW.pt (pw_or (pt_cmpR (op_neK K rfl hr.units) (pe_callB (call_reprK K rfl fr hr.units) (by rfl) T.b_repr (by decide +kernel) (pa_cons (pv 6) pa_nil)) (pe_callB (call_reprK K rfl fr hr.units) (by rfl) T.b_repr (by decide +kernel) (pa_cons (pe_op op_mulU (pe_lst (pa_cons (pv 5) pa_nil)) pe_int) pa_nil)) (nomark _)) (pw_or1 (pt_cmpR (op_notInU K rfl (hu65 hr)) (pe_ix (ix_U K rfl) (pv 3) (pe_un un_neg pe_int) (fun _ _ => rfl)) (pv 5) (by with_unfolding_all rfl))))) (pss_one (ps_ret pe_bl)) pss_nil)
      (pss_one (ps_for PassesOwn.never rfl (pi_range1 (by rfl) T.b_range (pa_cons pe_int pa_nil)) (pg_name (i := 7) sc__law_right.nd rfl (.inl rfl)) (pss_cons (ps_set (i := 8) sc__law_right.nd rfl (.inl rfl) (pe_call G53 (hr.mono (show 3 ≤ 5 by decide)) (by rfl) T.g53 T.F53.kp T.B53 .nil pass0 (pa_cons (pv 0) (pa_cons (pv 2) pa_nil))))
      (pss_cons (ps_set (i := 5) sc__law_right.nd rfl (.inl rfl) (pe_call G56 (hr.mono (show 3 ≤ 5 by decide)) (by rfl) T.g56 T.F56.kp T.B56 .nil pass0 (pa_cons (pv 2) (pa_cons (pv 3) (pa_cons (pv 8) pa_nil)))))
      (pss_cons (ps_set (i := 9) sc__law_right.nd rfl (.inl rfl) (pe_callB (cr_maxK K rfl rfl) (by rfl) T.b_max (by decide +kernel) (pa_cons (pe_lc (own := [("spot", 10)]) (g := gName 10) (tt := tYes) rfl sc__law_right.nd (pi_U K rfl (pe_call G54 (hr.mono (show 1 ≤ 5 by decide)) (by rfl) T.g54 T.F54.kp T.B54 .nil pass0 (pa_cons (pv 8) pa_nil))) (blkOk_by (N := ["jar", "turn", "spans", "line", "mine", "due", "told", "again", "room", "best", "spot"]) (sc := defScope st_law_right) (by decide +kernel)) (fun _ _ _ _ _ => pg_name (i := 10) sc__law_right.nd rfl (.inl rfl)) (fun _ _ _ _ _ => pts_nil) (fun _ _ _ _ _ => (pe_tm PySem.F.slot_tuple_index PySem.F.type_tuple_index mt_tup_index (pv 3) (pa_cons (pv 10) pa_nil)))) pa_nil)))
      (pss_cons (ps_set (i := 6) sc__law_right.nd rfl (.inl rfl) (pe_lst (pa_cons (pe_meth (pv 4) T.q_Ranking.cl T.me35 G35 (hr.mono (show 5 ≤ 5 by decide)) T.B35 .nil pass0 (pa_cons (pv 8) pa_nil)) (pa_cons (pe_methK0 (pv 4) T.q_Ranking.cl T.me35 G35 (hr.mono (show 5 ≤ 5 by decide)) T.kb35_part pass0 (pk_cons (pv 8) pk_nil)) pa_nil))))
      (pss_one (ps_if (PW.pt (pw_or (pt_cmpR (op_neK K rfl hr.units) (pe_callB (call_reprK K rfl fr hr.units) (by rfl) T.b_repr (by decide +kernel) (pa_cons (pv 6) pa_nil)) (pe_callB (call_reprK K rfl fr hr.units) (by rfl) T.b_repr (by decide +kernel) (pa_cons (pe_lst (pa_cons (pv 5) (pa_cons (pv 5) pa_nil))) pa_nil)) (nomark _)) (pw_or1 (pt_cmpR (op_notInU K rfl (hu65 hr)) (pe_ix (ix_U K rfl) (pv 3) (pv 9) (fun _ _ => rfl)) (pv 5) (by with_unfolding_all rfl))))) (pss_one (ps_ret pe_bl)) pss_nil))))))))))))))
      (pss_one (ps_ret pe_bl))), body_ok (n := 1) (k := 10) rfl (snd_seq (snd_for (vs := [1]) (snd_rng1 (snd_cons snd_int snd_nil)) (snd_gV (i := 1) (by decide)) (snd_seq (snd_set (i := 2) (snd_call (len_cons (len_cons len_nil)) (snd_cons (snd_var (i := 0)) (snd_cons snd_int snd_nil))))
      (snd_seq (snd_set (i := 3) (snd_call (len_cons (len_cons len_nil)) (snd_cons (snd_var (i := 0)) (snd_cons (snd_var (i := 2)) snd_nil))))
      (snd_seq (snd_par (i := 4) (j := 5) (snd_cons (snd_make (dds := []) T.gc_Ranking (len_cons (len_cons len_nil)) rfl (fun _ _ => .nil) (snd_cons (snd_make (dds := []) T.gc_Board (len_cons len_nil) rfl (fun _ _ => .nil) (snd_cons (snd_var (i := 2)) snd_nil)) (snd_cons (snd_weak (snd_var (i := 3))) snd_nil))) (snd_cons (snd_call (len_cons (len_cons (len_cons len_nil))) (snd_cons (snd_var (i := 2)) (snd_cons (snd_var (i := 3)) (snd_cons (snd_call (len_cons len_nil) (snd_cons (snd_var (i := 2)) snd_nil)) snd_nil)))) snd_nil)))
      (snd_seq (snd_set (i := 6) (snd_lst (snd_cons (snd_meth (dds := [.non]) T.gc_Ranking len_nil rfl (fun _ _ => (.cons .non .nil)) (snd_var (i := 4)) snd_nil) (snd_cons (snd_meth (dds := []) T.gc_Ranking (len_cons len_nil) rfl (fun _ _ => .nil) (snd_var (i := 4)) (snd_cons snd_non snd_nil)) (snd_cons (snd_methK (p := permA [0, 1]) T.gc_Ranking (len_cons len_nil) permA_rep (fun a zs h => match zs, h with | [_], _ => rfl) (snd_var (i := 4)) (snd_cons (snd_prop T.gc_Board (snd_prop T.gc_Ranking (snd_var (i := 4)))) snd_nil)) snd_nil)))))
      (snd_seq (snd_ifS (snd_orT (snd_tst (snd_op snd_ne (snd_cb snd_repr (snd_cons (snd_var (i := 6)) snd_nil)) (snd_cb snd_repr (snd_cons (snd_op snd_mul (snd_lst (snd_cons (snd_var (i := 5)) snd_nil)) snd_int) snd_nil)))) (snd_tst (snd_op snd_in (snd_op snd_ix (snd_weak (snd_var (i := 3))) (snd_neg snd_int)) (snd_var (i := 5))))) (snd_ret snd_bl) snd_next)
      (snd_for (vs := [7]) (snd_rng1 (snd_cons snd_int snd_nil)) (snd_gV (i := 7) (by decide)) (snd_seq (snd_set (i := 8) (snd_call (len_cons (len_cons len_nil)) (snd_cons (snd_var (i := 0)) (snd_cons (snd_var (i := 2)) snd_nil))))
      (snd_seq (snd_set (i := 5) (snd_call (len_cons (len_cons (len_cons len_nil))) (snd_cons (snd_var (i := 2)) (snd_cons (snd_var (i := 3)) (snd_cons (snd_var (i := 8)) snd_nil)))))
      (snd_seq (snd_set (i := 9) (snd_cb snd_maxL (snd_cons (snd_lc (vs := [10]) (snd_it (snd_call (len_cons len_nil) (snd_cons (snd_var (i := 8)) snd_nil))) (snd_gV (i := 10) (by decide)) snd_yes (snd_tix (snd_var (i := 3)) (snd_cons (snd_var (i := 10)) snd_nil))) snd_nil)))
      (snd_seq (snd_set (i := 6) (snd_lst (snd_cons (snd_meth (dds := []) T.gc_Ranking (len_cons len_nil) rfl (fun _ _ => .nil) (snd_var (i := 4)) (snd_cons (snd_var (i := 8)) snd_nil)) (snd_cons (snd_methK (p := permA [0, 1]) T.gc_Ranking (len_cons len_nil) permA_rep (fun a zs h => match zs, h with | [_], _ => rfl) (snd_var (i := 4)) (snd_cons (snd_var (i := 8)) snd_nil)) snd_nil))))
      (snd_ifS (snd_orT (snd_tst (snd_op snd_ne (snd_cb snd_repr (snd_cons (snd_var (i := 6)) snd_nil)) (snd_cb snd_repr (snd_cons (snd_lst (snd_cons (snd_var (i := 5)) (snd_cons (snd_var (i := 5)) snd_nil))) snd_nil)))) (snd_tst (snd_op snd_in (snd_op snd_ix (snd_weak (snd_var (i := 3))) (snd_var (i := 9))) (snd_var (i := 5))))) (snd_ret snd_bl) snd_next))))))))))))
      (snd_ret snd_bl)) h⟩
theorem ok_law (T : Top w K mg a d c) : FnG P w K mg base 7 (a 58) (d 58) ["script"] (spM ⟨K, mg, w⟩ 1 F_law) := by
  have G46 : FnOk P w K mg base CX0 1 (a 46) (d 46) ["script", "k"] (spM ⟨K, mg, w⟩ 2 F__law_jar) := ok__law_jar T
  have G57 : FnG P w K mg base 6 (a 57) (d 57) ["jar"] (spM ⟨K, mg, w⟩ 1 F__law_right) := ok__law_right T
  refine okG T.F58 sc_law (fun vs H Q E h => h.1) (fun cdv A outer s H vs Q E hr fr h => ?_)
  exact ⟨_, (pss_cons (ps_for PassesOwn.never rfl (pi_range1 (by rfl) T.b_range (pa_cons (pe_callB (call_max2 rfl) (by rfl) T.b_max (by decide +kernel) (pa_cons pe_int (pa_cons (pe_callB (call_min2 rfl) (by rfl) T.b_min (by decide +kernel) (pa_cons (pe_callB (call_lenU K rfl) (by rfl) T.b_len PySem.boot_len (pa_cons (pv 0) pa_nil)) (pa_cons pe_int pa_nil))) pa_nil))) pa_nil)) (pg_name (i := 1) sc_law.nd rfl (.inl rfl)) (pss_one (ps_if (pt_not (pt_truthK K rfl (pe_callG G57 (hr.mono (show 6 ≤ 6 by decide)) fr (by rfl) T.g57 T.F57.kp T.B57 .nil (pa_cons (pe_call G46 (hr.mono (show 1 ≤ 6 by decide)) (by rfl) T.g46 T.F46.kp T.B46 .nil pass0 (pa_cons (pv 0) (pa_cons (pv 1) pa_nil))) pa_nil)))) (pss_one (ps_ret pe_bl)) pss_nil)))
      (pss_one (ps_ret pe_bl))), body_ok (n := 1) (k := 1) rfl (snd_seq (snd_for (vs := [1]) (snd_rng1 (snd_cons (snd_cb snd_max2 (snd_cons snd_int (snd_cons (snd_cb snd_min2 (snd_cons (snd_cb snd_len (snd_cons (snd_var (i := 0)) snd_nil)) (snd_cons snd_int snd_nil))) snd_nil))) snd_nil)) (snd_gV (i := 1) (by decide)) (snd_ifS (snd_notT (snd_tru (snd_call (len_cons len_nil) (snd_cons (snd_call (len_cons (len_cons len_nil)) (snd_cons (snd_var (i := 0)) (snd_cons (snd_var (i := 1)) snd_nil))) snd_nil)))) (snd_ret snd_bl) snd_next))
      (snd_ret snd_bl)) h⟩
end Mi

set_option Elab.async false
set_option linter.all false
set_option maxRecDepth 100000
set_option maxHeartbeats 16000000

/-! From what the top leaves to the facts. -/
namespace Mi
open PySem PySem.Spec PyProof.Rows L2 Sw
theorem firstC_of {G : Gc} {C : Addr} (h1 : ∀ T ∈ bts, PySem.W.notFirst G.K C (.type T) = true) (h2 : AllC G fun C1 => PySem.W.notFirst G.K C (.ref C1) = true) : FirstC G C := by
  intro n t ok hv hb
  cases n with
  | ty m => cases hv; exact h1 m hb
  | own c => obtain ⟨hm, C1, e1, rfl⟩ := hv; exact h2 c hm C1 e1
theorem all_mk {l : PySem.W.OpenLaw} {w : World} {K : PySem.W.Frag} {h : Heap} {mg : Str → Option Value} {fa : Addr} (X : K.In h) (G : h.Ns mainGlobals mg) (hfa : mg "law" = some (.ref fa)) (law : ∀ ns : List Int, ns.length ≤ 63 → F_law [.scr (ns.map .int)] [] = some (.bl true, []))
    {C23 C27 : Addr}
    {A7 A8 A9 A10 A11 A12 A15 A19 A20 A22 A14 A13 A24 A26 A28 A29 A30 A31 A35 A46 A47 A48 A49 A50 A51 A52 A53 A54 A55 A56 A57 A58 : Addr}
    {oc7 kV7 dc7 pm7 cd7 ct7 : Value} {od7 an7 : Option Addr} {sl7 : Array (Option Value)}
    {oc8 kV8 dc8 pm8 cd8 ct8 : Value} {od8 an8 : Option Addr} {sl8 : Array (Option Value)}
    {oc9 kV9 dc9 pm9 cd9 ct9 : Value} {od9 an9 : Option Addr} {sl9 : Array (Option Value)}
    {oc10 kV10 dc10 pm10 cd10 ct10 : Value} {od10 an10 : Option Addr} {sl10 : Array (Option Value)}
    {oc11 kV11 dc11 pm11 cd11 ct11 : Value} {od11 an11 : Option Addr} {sl11 : Array (Option Value)}
    {oc12 kV12 dc12 pm12 cd12 ct12 : Value} {od12 an12 : Option Addr} {sl12 : Array (Option Value)}
    {oc15 kV15 dc15 pm15 cd15 ct15 : Value} {od15 an15 : Option Addr} {sl15 : Array (Option Value)}
    {oc19 kV19 dc19 pm19 cd19 ct19 : Value} {od19 an19 : Option Addr} {sl19 : Array (Option Value)}
    {p19 : Addr} {r19 : List Value}
    {oc20 kV20 dc20 pm20 cd20 ct20 : Value} {od20 an20 : Option Addr} {sl20 : Array (Option Value)}
    {oc22 kV22 dc22 pm22 cd22 ct22 : Value} {od22 an22 : Option Addr} {sl22 : Array (Option Value)}
    {oc14 kV14 dc14 pm14 cd14 ct14 : Value} {od14 an14 : Option Addr} {sl14 : Array (Option Value)}
    {oc13 kV13 dc13 pm13 cd13 ct13 : Value} {od13 an13 : Option Addr} {sl13 : Array (Option Value)}
    {oc24 kV24 dc24 pm24 cd24 ct24 : Value} {od24 an24 : Option Addr} {sl24 : Array (Option Value)}
    {oc26 kV26 dc26 pm26 cd26 ct26 : Value} {od26 an26 : Option Addr} {sl26 : Array (Option Value)}
    {T26 : Addr} {ot26 : Obj} {n26 : Nat}
    {oc28 kV28 dc28 pm28 cd28 ct28 : Value} {od28 an28 : Option Addr} {sl28 : Array (Option Value)}
    {oc29 kV29 dc29 pm29 cd29 ct29 : Value} {od29 an29 : Option Addr} {sl29 : Array (Option Value)}
    {oc30 kV30 dc30 pm30 cd30 ct30 : Value} {od30 an30 : Option Addr} {sl30 : Array (Option Value)}
    {oc31 kV31 dc31 pm31 cd31 ct31 : Value} {od31 an31 : Option Addr} {sl31 : Array (Option Value)}
    {p31 : Addr} {r31 : List Value}
    {oc35 kV35 dc35 pm35 cd35 ct35 : Value} {od35 an35 : Option Addr} {sl35 : Array (Option Value)}
    {T35 : Addr} {ot35 : Obj} {n35 : Nat}
    {oc46 kV46 dc46 pm46 cd46 ct46 : Value} {od46 an46 : Option Addr} {sl46 : Array (Option Value)}
    {oc47 kV47 dc47 pm47 cd47 ct47 : Value} {od47 an47 : Option Addr} {sl47 : Array (Option Value)}
    {oc48 kV48 dc48 pm48 cd48 ct48 : Value} {od48 an48 : Option Addr} {sl48 : Array (Option Value)}
    {oc49 kV49 dc49 pm49 cd49 ct49 : Value} {od49 an49 : Option Addr} {sl49 : Array (Option Value)}
    {oc50 kV50 dc50 pm50 cd50 ct50 : Value} {od50 an50 : Option Addr} {sl50 : Array (Option Value)}
    {oc51 kV51 dc51 pm51 cd51 ct51 : Value} {od51 an51 : Option Addr} {sl51 : Array (Option Value)}
    {oc52 kV52 dc52 pm52 cd52 ct52 : Value} {od52 an52 : Option Addr} {sl52 : Array (Option Value)}
    {oc53 kV53 dc53 pm53 cd53 ct53 : Value} {od53 an53 : Option Addr} {sl53 : Array (Option Value)}
    {oc54 kV54 dc54 pm54 cd54 ct54 : Value} {od54 an54 : Option Addr} {sl54 : Array (Option Value)}
    {oc55 kV55 dc55 pm55 cd55 ct55 : Value} {od55 an55 : Option Addr} {sl55 : Array (Option Value)}
    {oc56 kV56 dc56 pm56 cd56 ct56 : Value} {od56 an56 : Option Addr} {sl56 : Array (Option Value)}
    {oc57 kV57 dc57 pm57 cd57 ct57 : Value} {od57 an57 : Option Addr} {sl57 : Array (Option Value)}
    {oc58 kV58 dc58 pm58 cd58 ct58 : Value} {od58 an58 : Option Addr} {sl58 : Array (Option Value)}
    {tMOST_SETTINGS : Tok}
    {tMOST_SWITCHES : Tok}
    {tSTANDS : Tok}
    (aC23 : PySem.W.nsIn K mainGlobals "Board" = some (some (.ref C23)))
    (aC27 : PySem.W.nsIn K mainGlobals "Ranking" = some (some (.ref C27)))
    (ag7 : PySem.W.nsIn K mainGlobals "is_size" = some (some (.ref A7)))
    (lF7 : K.lookup A7 = some ⟨oc7, od7, .func (PySem.W.fnOf "is_size" "is_size" (defArgs stis_size) (defBody stis_size) (defScope stis_size) .none kV7 dc7 pm7 an7 cd7 ct7), sl7⟩)
    (dF7 : PySem.W.codeIn K cd7 "is_size" = true)
    (kF7 : PySem.W.keepIn K (.ref A7) = true)
    (ag8 : PySem.W.nsIn K mainGlobals "first_wrong_size" = some (some (.ref A8)))
    (lF8 : K.lookup A8 = some ⟨oc8, od8, .func (PySem.W.fnOf "first_wrong_size" "first_wrong_size" (defArgs stfirst_wrong_size) (defBody stfirst_wrong_size) (defScope stfirst_wrong_size) .none kV8 dc8 pm8 an8 cd8 ct8), sl8⟩)
    (dF8 : PySem.W.codeIn K cd8 "first_wrong_size" = true)
    (kF8 : PySem.W.keepIn K (.ref A8) = true)
    (ag9 : PySem.W.nsIn K mainGlobals "are_stands" = some (some (.ref A9)))
    (lF9 : K.lookup A9 = some ⟨oc9, od9, .func (PySem.W.fnOf "are_stands" "are_stands" (defArgs stare_stands) (defBody stare_stands) (defScope stare_stands) .none kV9 dc9 pm9 an9 cd9 ct9), sl9⟩)
    (dF9 : PySem.W.codeIn K cd9 "are_stands" = true)
    (kF9 : PySem.W.keepIn K (.ref A9) = true)
    (ag10 : PySem.W.nsIn K mainGlobals "is_part" = some (some (.ref A10)))
    (lF10 : K.lookup A10 = some ⟨oc10, od10, .func (PySem.W.fnOf "is_part" "is_part" (defArgs stis_part) (defBody stis_part) (defScope stis_part) .none kV10 dc10 pm10 an10 cd10 ct10), sl10⟩)
    (dF10 : PySem.W.codeIn K cd10 "is_part" = true)
    (kF10 : PySem.W.keepIn K (.ref A10) = true)
    (ag11 : PySem.W.nsIn K mainGlobals "settings_of" = some (some (.ref A11)))
    (lF11 : K.lookup A11 = some ⟨oc11, od11, .func (PySem.W.fnOf "settings_of" "settings_of" (defArgs stsettings_of) (defBody stsettings_of) (defScope stsettings_of) .none kV11 dc11 pm11 an11 cd11 ct11), sl11⟩)
    (dF11 : PySem.W.codeIn K cd11 "settings_of" = true)
    (kF11 : PySem.W.keepIn K (.ref A11) = true)
    (ag12 : PySem.W.nsIn K mainGlobals "neighbours_of" = some (some (.ref A12)))
    (lF12 : K.lookup A12 = some ⟨oc12, od12, .func (PySem.W.fnOf "neighbours_of" "neighbours_of" (defArgs stneighbours_of) (defBody stneighbours_of) (defScope stneighbours_of) .none kV12 dc12 pm12 an12 cd12 ct12), sl12⟩)
    (dF12 : PySem.W.codeIn K cd12 "neighbours_of" = true)
    (kF12 : PySem.W.keepIn K (.ref A12) = true)
    (am15 : PySem.W.findIn K (.ref C23) "__init__" = some (some (.ref A15)))
    (im15 : PySem.W.isFn K (.ref A15) = true)
    (lF15 : K.lookup A15 = some ⟨oc15, od15, .func (PySem.W.fnOf "__init__" "Board.__init__" (defArgs stBoard___init__) (defBody stBoard___init__) (defScope stBoard___init__) .none kV15 dc15 pm15 an15 cd15 ct15), sl15⟩)
    (dF15 : PySem.W.codeIn K cd15 "Board.__init__" = true)
    (kF15 : PySem.W.keepIn K (.ref A15) = true)
    (pa19 : PySem.W.findIn K (.ref C23) "whole" = some (some (.ref p19)))
    (prc19 : PySem.W.recIn K p19 "property" = some (.ref A19 :: r19))
    (lF19 : K.lookup A19 = some ⟨oc19, od19, .func (PySem.W.fnOf "whole" "Board.whole" (defArgs stBoard_whole) (defBody stBoard_whole) (defScope stBoard_whole) .none kV19 dc19 pm19 an19 cd19 ct19), sl19⟩)
    (dF19 : PySem.W.codeIn K cd19 "Board.whole" = true)
    (kF19 : PySem.W.keepIn K (.ref A19) = true)
    (am20 : PySem.W.findIn K (.ref C23) "__len__" = some (some (.ref A20)))
    (im20 : PySem.W.isFn K (.ref A20) = true)
    (lF20 : K.lookup A20 = some ⟨oc20, od20, .func (PySem.W.fnOf "__len__" "Board.__len__" (defArgs stBoard___len__) (defBody stBoard___len__) (defScope stBoard___len__) .none kV20 dc20 pm20 an20 cd20 ct20), sl20⟩)
    (dF20 : PySem.W.codeIn K cd20 "Board.__len__" = true)
    (kF20 : PySem.W.keepIn K (.ref A20) = true)
    (am22 : PySem.W.findIn K (.ref C23) "__contains__" = some (some (.ref A22)))
    (im22 : PySem.W.isFn K (.ref A22) = true)
    (lF22 : K.lookup A22 = some ⟨oc22, od22, .func (PySem.W.fnOf "__contains__" "Board.__contains__" (defArgs stBoard___contains__) (defBody stBoard___contains__) (defScope stBoard___contains__) .none kV22 dc22 pm22 an22 cd22 ct22), sl22⟩)
    (dF22 : PySem.W.codeIn K cd22 "Board.__contains__" = true)
    (kF22 : PySem.W.keepIn K (.ref A22) = true)
    (ag14 : PySem.W.nsIn K mainGlobals "check_setting" = some (some (.ref A14)))
    (lF14 : K.lookup A14 = some ⟨oc14, od14, .func (PySem.W.fnOf "check_setting" "check_setting" (defArgs stcheck_setting) (defBody stcheck_setting) (defScope stcheck_setting) .none kV14 dc14 pm14 an14 cd14 ct14), sl14⟩)
    (dF14 : PySem.W.codeIn K cd14 "check_setting" = true)
    (kF14 : PySem.W.keepIn K (.ref A14) = true)
    (ag13 : PySem.W.nsIn K mainGlobals "check_board" = some (some (.ref A13)))
    (lF13 : K.lookup A13 = some ⟨oc13, od13, .func (PySem.W.fnOf "check_board" "check_board" (defArgs stcheck_board) (defBody stcheck_board) (defScope stcheck_board) .none kV13 dc13 pm13 an13 cd13 ct13), sl13⟩)
    (dF13 : PySem.W.codeIn K cd13 "check_board" = true)
    (kF13 : PySem.W.keepIn K (.ref A13) = true)
    (am24 : PySem.W.findIn K (.ref C23) "beside" = some (some (.ref A24)))
    (im24 : PySem.W.isFn K (.ref A24) = true)
    (lF24 : K.lookup A24 = some ⟨oc24, od24, .func (PySem.W.fnOf "beside" "Board.beside" (defArgs stBoard_beside) (defBody stBoard_beside) (defScope stBoard_beside) .none kV24 dc24 pm24 an24 cd24 ct24), sl24⟩)
    (dF24 : PySem.W.codeIn K cd24 "Board.beside" = true)
    (kF24 : PySem.W.keepIn K (.ref A24) = true)
    (am26 : PySem.W.findIn K (.ref C23) "inside" = some (some (.ref A26)))
    (im26 : PySem.W.isFn K (.ref A26) = true)
    (lF26 : K.lookup A26 = some ⟨oc26, od26, .func (PySem.W.fnOf "inside" "Board.inside" (defArgs stBoard_inside) (defBody stBoard_inside) (defScope stBoard_inside) (.ref T26) kV26 dc26 pm26 an26 cd26 ct26), sl26⟩)
    (dF26 : PySem.W.codeIn K cd26 "Board.inside" = true)
    (kF26 : PySem.W.keepIn K (.ref A26) = true)
    (lT26 : K.lookup T26 = some ot26)
    (oT26 : ot26.data = .seq [.none].toArray n26)
    (ag28 : PySem.W.nsIn K mainGlobals "first_wrong_place" = some (some (.ref A28)))
    (lF28 : K.lookup A28 = some ⟨oc28, od28, .func (PySem.W.fnOf "first_wrong_place" "first_wrong_place" (defArgs stfirst_wrong_place) (defBody stfirst_wrong_place) (defScope stfirst_wrong_place) .none kV28 dc28 pm28 an28 cd28 ct28), sl28⟩)
    (dF28 : PySem.W.codeIn K cd28 "first_wrong_place" = true)
    (kF28 : PySem.W.keepIn K (.ref A28) = true)
    (ag29 : PySem.W.nsIn K mainGlobals "neighbours_in" = some (some (.ref A29)))
    (lF29 : K.lookup A29 = some ⟨oc29, od29, .func (PySem.W.fnOf "neighbours_in" "neighbours_in" (defArgs stneighbours_in) (defBody stneighbours_in) (defScope stneighbours_in) .none kV29 dc29 pm29 an29 cd29 ct29), sl29⟩)
    (dF29 : PySem.W.codeIn K cd29 "neighbours_in" = true)
    (kF29 : PySem.W.keepIn K (.ref A29) = true)
    (am30 : PySem.W.findIn K (.ref C27) "__init__" = some (some (.ref A30)))
    (im30 : PySem.W.isFn K (.ref A30) = true)
    (lF30 : K.lookup A30 = some ⟨oc30, od30, .func (PySem.W.fnOf "__init__" "Ranking.__init__" (defArgs stRanking___init__) (defBody stRanking___init__) (defScope stRanking___init__) .none kV30 dc30 pm30 an30 cd30 ct30), sl30⟩)
    (dF30 : PySem.W.codeIn K cd30 "Ranking.__init__" = true)
    (kF30 : PySem.W.keepIn K (.ref A30) = true)
    (pa31 : PySem.W.findIn K (.ref C27) "board" = some (some (.ref p31)))
    (prc31 : PySem.W.recIn K p31 "property" = some (.ref A31 :: r31))
    (lF31 : K.lookup A31 = some ⟨oc31, od31, .func (PySem.W.fnOf "board" "Ranking.board" (defArgs stRanking_board) (defBody stRanking_board) (defScope stRanking_board) .none kV31 dc31 pm31 an31 cd31 ct31), sl31⟩)
    (dF31 : PySem.W.codeIn K cd31 "Ranking.board" = true)
    (kF31 : PySem.W.keepIn K (.ref A31) = true)
    (am35 : PySem.W.findIn K (.ref C27) "peaks" = some (some (.ref A35)))
    (im35 : PySem.W.isFn K (.ref A35) = true)
    (lF35 : K.lookup A35 = some ⟨oc35, od35, .func (PySem.W.fnOf "peaks" "Ranking.peaks" (defArgs stRanking_peaks) (defBody stRanking_peaks) (defScope stRanking_peaks) (.ref T35) kV35 dc35 pm35 an35 cd35 ct35), sl35⟩)
    (dF35 : PySem.W.codeIn K cd35 "Ranking.peaks" = true)
    (kF35 : PySem.W.keepIn K (.ref A35) = true)
    (lT35 : K.lookup T35 = some ot35)
    (oT35 : ot35.data = .seq [.none].toArray n35)
    (ag46 : PySem.W.nsIn K mainGlobals "_law_jar" = some (some (.ref A46)))
    (lF46 : K.lookup A46 = some ⟨oc46, od46, .func (PySem.W.fnOf "_law_jar" "_law_jar" (defArgs st_law_jar) (defBody st_law_jar) (defScope st_law_jar) .none kV46 dc46 pm46 an46 cd46 ct46), sl46⟩)
    (dF46 : PySem.W.codeIn K cd46 "_law_jar" = true)
    (kF46 : PySem.W.keepIn K (.ref A46) = true)
    (ag47 : PySem.W.nsIn K mainGlobals "_law_dip" = some (some (.ref A47)))
    (lF47 : K.lookup A47 = some ⟨oc47, od47, .func (PySem.W.fnOf "_law_dip" "_law_dip" (defArgs st_law_dip) (defBody st_law_dip) (defScope st_law_dip) .none kV47 dc47 pm47 an47 cd47 ct47), sl47⟩)
    (dF47 : PySem.W.codeIn K cd47 "_law_dip" = true)
    (kF47 : PySem.W.keepIn K (.ref A47) = true)
    (ag48 : PySem.W.nsIn K mainGlobals "_law_pick" = some (some (.ref A48)))
    (lF48 : K.lookup A48 = some ⟨oc48, od48, .func (PySem.W.fnOf "_law_pick" "_law_pick" (defArgs st_law_pick) (defBody st_law_pick) (defScope st_law_pick) .none kV48 dc48 pm48 an48 cd48 ct48), sl48⟩)
    (dF48 : PySem.W.codeIn K cd48 "_law_pick" = true)
    (kF48 : PySem.W.keepIn K (.ref A48) = true)
    (ag49 : PySem.W.nsIn K mainGlobals "_law_spans" = some (some (.ref A49)))
    (lF49 : K.lookup A49 = some ⟨oc49, od49, .func (PySem.W.fnOf "_law_spans" "_law_spans" (defArgs st_law_spans) (defBody st_law_spans) (defScope st_law_spans) .none kV49 dc49 pm49 an49 cd49 ct49), sl49⟩)
    (dF49 : PySem.W.codeIn K cd49 "_law_spans" = true)
    (kF49 : PySem.W.keepIn K (.ref A49) = true)
    (ag50 : PySem.W.nsIn K mainGlobals "_law_all" = some (some (.ref A50)))
    (lF50 : K.lookup A50 = some ⟨oc50, od50, .func (PySem.W.fnOf "_law_all" "_law_all" (defArgs st_law_all) (defBody st_law_all) (defScope st_law_all) .none kV50 dc50 pm50 an50 cd50 ct50), sl50⟩)
    (dF50 : PySem.W.codeIn K cd50 "_law_all" = true)
    (kF50 : PySem.W.keepIn K (.ref A50) = true)
    (ag51 : PySem.W.nsIn K mainGlobals "_law_near" = some (some (.ref A51)))
    (lF51 : K.lookup A51 = some ⟨oc51, od51, .func (PySem.W.fnOf "_law_near" "_law_near" (defArgs st_law_near) (defBody st_law_near) (defScope st_law_near) .none kV51 dc51 pm51 an51 cd51 ct51), sl51⟩)
    (dF51 : PySem.W.codeIn K cd51 "_law_near" = true)
    (kF51 : PySem.W.keepIn K (.ref A51) = true)
    (ag52 : PySem.W.nsIn K mainGlobals "_law_line" = some (some (.ref A52)))
    (lF52 : K.lookup A52 = some ⟨oc52, od52, .func (PySem.W.fnOf "_law_line" "_law_line" (defArgs st_law_line) (defBody st_law_line) (defScope st_law_line) .none kV52 dc52 pm52 an52 cd52 ct52), sl52⟩)
    (dF52 : PySem.W.codeIn K cd52 "_law_line" = true)
    (kF52 : PySem.W.keepIn K (.ref A52) = true)
    (ag53 : PySem.W.nsIn K mainGlobals "_law_room" = some (some (.ref A53)))
    (lF53 : K.lookup A53 = some ⟨oc53, od53, .func (PySem.W.fnOf "_law_room" "_law_room" (defArgs st_law_room) (defBody st_law_room) (defScope st_law_room) .none kV53 dc53 pm53 an53 cd53 ct53), sl53⟩)
    (dF53 : PySem.W.codeIn K cd53 "_law_room" = true)
    (kF53 : PySem.W.keepIn K (.ref A53) = true)
    (ag54 : PySem.W.nsIn K mainGlobals "_law_inside" = some (some (.ref A54)))
    (lF54 : K.lookup A54 = some ⟨oc54, od54, .func (PySem.W.fnOf "_law_inside" "_law_inside" (defArgs st_law_inside) (defBody st_law_inside) (defScope st_law_inside) .none kV54 dc54 pm54 an54 cd54 ct54), sl54⟩)
    (dF54 : PySem.W.codeIn K cd54 "_law_inside" = true)
    (kF54 : PySem.W.keepIn K (.ref A54) = true)
    (ag55 : PySem.W.nsIn K mainGlobals "_law_full" = some (some (.ref A55)))
    (lF55 : K.lookup A55 = some ⟨oc55, od55, .func (PySem.W.fnOf "_law_full" "_law_full" (defArgs st_law_full) (defBody st_law_full) (defScope st_law_full) .none kV55 dc55 pm55 an55 cd55 ct55), sl55⟩)
    (dF55 : PySem.W.codeIn K cd55 "_law_full" = true)
    (kF55 : PySem.W.keepIn K (.ref A55) = true)
    (ag56 : PySem.W.nsIn K mainGlobals "_law_tops" = some (some (.ref A56)))
    (lF56 : K.lookup A56 = some ⟨oc56, od56, .func (PySem.W.fnOf "_law_tops" "_law_tops" (defArgs st_law_tops) (defBody st_law_tops) (defScope st_law_tops) .none kV56 dc56 pm56 an56 cd56 ct56), sl56⟩)
    (dF56 : PySem.W.codeIn K cd56 "_law_tops" = true)
    (kF56 : PySem.W.keepIn K (.ref A56) = true)
    (ag57 : PySem.W.nsIn K mainGlobals "_law_right" = some (some (.ref A57)))
    (lF57 : K.lookup A57 = some ⟨oc57, od57, .func (PySem.W.fnOf "_law_right" "_law_right" (defArgs st_law_right) (defBody st_law_right) (defScope st_law_right) .none kV57 dc57 pm57 an57 cd57 ct57), sl57⟩)
    (dF57 : PySem.W.codeIn K cd57 "_law_right" = true)
    (kF57 : PySem.W.keepIn K (.ref A57) = true)
    (ag58 : PySem.W.nsIn K mainGlobals "law" = some (some (.ref A58)))
    (lF58 : K.lookup A58 = some ⟨oc58, od58, .func (PySem.W.fnOf "law" "law" (defArgs stlaw) (defBody stlaw) (defScope stlaw) .none kV58 dc58 pm58 an58 cd58 ct58), sl58⟩)
    (dF58 : PySem.W.codeIn K cd58 "law" = true)
    (kF58 : PySem.W.keepIn K (.ref A58) = true)
    (pg23 : PySem.W.plainGet K C23 Str.empty = true)
    (hd23 : PySem.W.hasDictIn K C23 = true)
    (po23 : PySem.W.plainOver K C23 = true)
    (sa23 : PySem.W.findIn K (.ref C23) "__setattr__" = some (some (.builtin "object.__setattr__")))
    (qc23 : PySem.W.findIn K (.ref C23) "__class__" = some (some (.builtin "object.__class__")))
    (qo23 : PySem.W.mroIn K C23 (.type "object") = some true)
    (mkm23 : PySem.W.makesIn K C23 = true)
    (mkk23 : PySem.W.keepIn K (.ref C23) = true)
    (ib23_NoneType : PySem.W.subIn K (.type "NoneType") (.ref C23) = some false)
    (ib23_bool : PySem.W.subIn K (.type "bool") (.ref C23) = some false)
    (ib23_int : PySem.W.subIn K (.type "int") (.ref C23) = some false)
    (ib23_str : PySem.W.subIn K (.type "str") (.ref C23) = some false)
    (ib23_tuple : PySem.W.subIn K (.type "tuple") (.ref C23) = some false)
    (ib23_list : PySem.W.subIn K (.type "list") (.ref C23) = some false)
    (ib23_dict : PySem.W.subIn K (.type "dict") (.ref C23) = some false)
    (icl23 : PySem.W.isClsIn K C23 = true)
    (ity23 : PySem.W.typeIn K (.ref C23) = some (.type "type"))
    (isf23 : PySem.W.subIn K (.ref C23) (.ref C23) = some true)
    (ic23_27 : PySem.W.subIn K (.ref C27) (.ref C23) = some false)
    (nf23_beside : PySem.W.findIn K (.ref C23) "_beside" = some none)
    (nf23_board : PySem.W.findIn K (.ref C23) "_board" = some none)
    (nf23_order : PySem.W.findIn K (.ref C23) "_order" = some none)
    (nf23_places : PySem.W.findIn K (.ref C23) "_places" = some none)
    (nf23_settings : PySem.W.findIn K (.ref C23) "_settings" = some none)
    (nf23_sizes : PySem.W.findIn K (.ref C23) "_sizes" = some none)
    (nf23_whole : PySem.W.findIn K (.ref C23) "_whole" = some none)
    (nt23_NoneType : PySem.W.subIn K (.ref C23) (.type "NoneType") = some false)
    (nt23_bool : PySem.W.subIn K (.ref C23) (.type "bool") = some false)
    (nt23_int : PySem.W.subIn K (.ref C23) (.type "int") = some false)
    (nt23_str : PySem.W.subIn K (.ref C23) (.type "str") = some false)
    (nt23_tuple : PySem.W.subIn K (.ref C23) (.type "tuple") = some false)
    (nt23_list : PySem.W.subIn K (.ref C23) (.type "list") = some false)
    (nt23_dict : PySem.W.subIn K (.ref C23) (.type "dict") = some false)
    (pg27 : PySem.W.plainGet K C27 Str.empty = true)
    (hd27 : PySem.W.hasDictIn K C27 = true)
    (po27 : PySem.W.plainOver K C27 = true)
    (sa27 : PySem.W.findIn K (.ref C27) "__setattr__" = some (some (.builtin "object.__setattr__")))
    (qc27 : PySem.W.findIn K (.ref C27) "__class__" = some (some (.builtin "object.__class__")))
    (qo27 : PySem.W.mroIn K C27 (.type "object") = some true)
    (mkm27 : PySem.W.makesIn K C27 = true)
    (mkk27 : PySem.W.keepIn K (.ref C27) = true)
    (nf27_beside : PySem.W.findIn K (.ref C27) "_beside" = some none)
    (nf27_board : PySem.W.findIn K (.ref C27) "_board" = some none)
    (nf27_order : PySem.W.findIn K (.ref C27) "_order" = some none)
    (nf27_places : PySem.W.findIn K (.ref C27) "_places" = some none)
    (nf27_settings : PySem.W.findIn K (.ref C27) "_settings" = some none)
    (nf27_sizes : PySem.W.findIn K (.ref C27) "_sizes" = some none)
    (nf27_whole : PySem.W.findIn K (.ref C27) "_whole" = some none)
    (nt27_NoneType : PySem.W.subIn K (.ref C27) (.type "NoneType") = some false)
    (nt27_bool : PySem.W.subIn K (.ref C27) (.type "bool") = some false)
    (nt27_int : PySem.W.subIn K (.ref C27) (.type "int") = some false)
    (nt27_str : PySem.W.subIn K (.ref C27) (.type "str") = some false)
    (nt27_tuple : PySem.W.subIn K (.ref C27) (.type "tuple") = some false)
    (nt27_list : PySem.W.subIn K (.ref C27) (.type "list") = some false)
    (nt27_dict : PySem.W.subIn K (.ref C27) (.type "dict") = some false)
    (qg : PySem.W.specialIn K (.builtin "object.__class__") "__get__" = some (some (.builtin "getset_descriptor.__get__")))
    (qt : PySem.W.takesIn K (.builtin "object.__class__") = some true)
    (pgt19 : PySem.W.specialIn K (.ref p19) "__get__" = some (some (.builtin "property.__get__")))
    (ptk19 : PySem.W.takesIn K (.ref p19) = some true)
    (pgt31 : PySem.W.specialIn K (.ref p31) "__get__" = some (some (.builtin "property.__get__")))
    (ptk31 : PySem.W.takesIn K (.ref p31) = some true)
    (zaNotes : PySem.W.nsIn K mainGlobals "Notes" = some none)
    (zaDesk : PySem.W.nsIn K mainGlobals "Desk" = some none)
    (zaConsole : PySem.W.nsIn K mainGlobals "Console" = some none)
    (zabs : PySem.W.nsIn K mainGlobals "abs" = some none)
    (zall : PySem.W.nsIn K mainGlobals "all" = some none)
    (zenumerate : PySem.W.nsIn K mainGlobals "enumerate" = some none)
    (zint : PySem.W.nsIn K mainGlobals "int" = some none)
    (zisinstance : PySem.W.nsIn K mainGlobals "isinstance" = some none)
    (zlen : PySem.W.nsIn K mainGlobals "len" = some none)
    (zmax : PySem.W.nsIn K mainGlobals "max" = some none)
    (zmin : PySem.W.nsIn K mainGlobals "min" = some none)
    (zrange : PySem.W.nsIn K mainGlobals "range" = some none)
    (zrepr : PySem.W.nsIn K mainGlobals "repr" = some none)
    (zset : PySem.W.nsIn K mainGlobals "set" = some none)
    (zsorted : PySem.W.nsIn K mainGlobals "sorted" = some none)
    (zstr : PySem.W.nsIn K mainGlobals "str" = some none)
    (ztuple : PySem.W.nsIn K mainGlobals "tuple" = some none)
    (zzip : PySem.W.nsIn K mainGlobals "zip" = some none)
    (cMOST_SETTINGS : PySem.W.nsIn K mainGlobals "MOST_SETTINGS" = some (some (.int 48 tMOST_SETTINGS)))
    (cMOST_SWITCHES : PySem.W.nsIn K mainGlobals "MOST_SWITCHES" = some (some (.int 5 tMOST_SWITCHES)))
    (cSTANDS : PySem.W.nsIn K mainGlobals "STANDS" = some (some (.str "012" tSTANDS))) :
    ∃ fd : FuncData, (∀ (s : Shared) (v : Value), BindsTo s fd ⟨[v], []⟩ [("script", v)]) ∧ ∀ base : Heap, K.In base → base.Ns mainGlobals mg → FnG l.prog w K mg base 7 fa fd ["script"] (lawSp K) := by
  have efa : A58 = fa := (Value.ref.inj (Option.some.inj (hfa.symm.trans (PySem.W.mg_of X G ag58)))).symm
  subst efa
  have F7 := fun_mk (st := stis_size) lF7 dF7 kF7
  have F8 := fun_mk (st := stfirst_wrong_size) lF8 dF8 kF8
  have F9 := fun_mk (st := stare_stands) lF9 dF9 kF9
  have F10 := fun_mk (st := stis_part) lF10 dF10 kF10
  have F11 := fun_mk (st := stsettings_of) lF11 dF11 kF11
  have F12 := fun_mk (st := stneighbours_of) lF12 dF12 kF12
  have F15 := fun_mk (st := stBoard___init__) lF15 dF15 kF15
  have F19 := fun_mk (st := stBoard_whole) lF19 dF19 kF19
  have F20 := fun_mk (st := stBoard___len__) lF20 dF20 kF20
  have F22 := fun_mk (st := stBoard___contains__) lF22 dF22 kF22
  have F14 := fun_mk (st := stcheck_setting) lF14 dF14 kF14
  have F13 := fun_mk (st := stcheck_board) lF13 dF13 kF13
  have F24 := fun_mk (st := stBoard_beside) lF24 dF24 kF24
  have F26 := funD_mk (st := stBoard_inside) (dvs := [.non]) (its := [.none]) lF26 dF26 kF26 lT26 oT26 (by simp) (.cons rfl .nil)
  have F28 := fun_mk (st := stfirst_wrong_place) lF28 dF28 kF28
  have F29 := fun_mk (st := stneighbours_in) lF29 dF29 kF29
  have F30 := fun_mk (st := stRanking___init__) lF30 dF30 kF30
  have F31 := fun_mk (st := stRanking_board) lF31 dF31 kF31
  have F35 := funD_mk (st := stRanking_peaks) (dvs := [.non]) (its := [.none]) lF35 dF35 kF35 lT35 oT35 (by simp) (.cons rfl .nil)
  have F46 := fun_mk (st := st_law_jar) lF46 dF46 kF46
  have F47 := fun_mk (st := st_law_dip) lF47 dF47 kF47
  have F48 := fun_mk (st := st_law_pick) lF48 dF48 kF48
  have F49 := fun_mk (st := st_law_spans) lF49 dF49 kF49
  have F50 := fun_mk (st := st_law_all) lF50 dF50 kF50
  have F51 := fun_mk (st := st_law_near) lF51 dF51 kF51
  have F52 := fun_mk (st := st_law_line) lF52 dF52 kF52
  have F53 := fun_mk (st := st_law_room) lF53 dF53 kF53
  have F54 := fun_mk (st := st_law_inside) lF54 dF54 kF54
  have F55 := fun_mk (st := st_law_full) lF55 dF55 kF55
  have F56 := fun_mk (st := st_law_tops) lF56 dF56 kF56
  have F57 := fun_mk (st := st_law_right) lF57 dF57 kF57
  have F58 := fun_mk (st := stlaw) lF58 dF58 kF58
  have mBoard : mg "Board" = some (.ref C23) := PySem.W.mg_of X G aC23
  have mRanking : mg "Ranking" = some (.ref C27) := PySem.W.mg_of X G aC27
  have mNotes : mg "Notes" = none := PySem.W.mg_none_of X G zaNotes
  have mDesk : mg "Desk" = none := PySem.W.mg_none_of X G zaDesk
  have mConsole : mg "Console" = none := PySem.W.mg_none_of X G zaConsole
  have TT : Top w K mg (fun i => ([0, 0, 0, 0, 0, 0, 0, A7, A8, A9, A10, A11, A12, A13, A14, A15, 0, 0, 0, A19, A20, 0, A22, 0, A24, 0, A26, 0, A28, A29, A30, A31, 0, 0, 0, A35, 0, 0, 0, 0, 0, 0, 0, 0, 0, 0, A46, A47, A48, A49, A50, A51, A52, A53, A54, A55, A56, A57, A58] : List Addr).getD i 0) (fun i => ([(PySem.W.fnOf "is_size" "is_size" (defArgs stis_size) (defBody stis_size) (defScope stis_size) .none kV7 dc7 pm7 an7 cd7 ct7), (PySem.W.fnOf "is_size" "is_size" (defArgs stis_size) (defBody stis_size) (defScope stis_size) .none kV7 dc7 pm7 an7 cd7 ct7), (PySem.W.fnOf "is_size" "is_size" (defArgs stis_size) (defBody stis_size) (defScope stis_size) .none kV7 dc7 pm7 an7 cd7 ct7), (PySem.W.fnOf "is_size" "is_size" (defArgs stis_size) (defBody stis_size) (defScope stis_size) .none kV7 dc7 pm7 an7 cd7 ct7), (PySem.W.fnOf "is_size" "is_size" (defArgs stis_size) (defBody stis_size) (defScope stis_size) .none kV7 dc7 pm7 an7 cd7 ct7), (PySem.W.fnOf "is_size" "is_size" (defArgs stis_size) (defBody stis_size) (defScope stis_size) .none kV7 dc7 pm7 an7 cd7 ct7), (PySem.W.fnOf "is_size" "is_size" (defArgs stis_size) (defBody stis_size) (defScope stis_size) .none kV7 dc7 pm7 an7 cd7 ct7), (PySem.W.fnOf "is_size" "is_size" (defArgs stis_size) (defBody stis_size) (defScope stis_size) .none kV7 dc7 pm7 an7 cd7 ct7), (PySem.W.fnOf "first_wrong_size" "first_wrong_size" (defArgs stfirst_wrong_size) (defBody stfirst_wrong_size) (defScope stfirst_wrong_size) .none kV8 dc8 pm8 an8 cd8 ct8), (PySem.W.fnOf "are_stands" "are_stands" (defArgs stare_stands) (defBody stare_stands) (defScope stare_stands) .none kV9 dc9 pm9 an9 cd9 ct9), (PySem.W.fnOf "is_part" "is_part" (defArgs stis_part) (defBody stis_part) (defScope stis_part) .none kV10 dc10 pm10 an10 cd10 ct10), (PySem.W.fnOf "settings_of" "settings_of" (defArgs stsettings_of) (defBody stsettings_of) (defScope stsettings_of) .none kV11 dc11 pm11 an11 cd11 ct11), (PySem.W.fnOf "neighbours_of" "neighbours_of" (defArgs stneighbours_of) (defBody stneighbours_of) (defScope stneighbours_of) .none kV12 dc12 pm12 an12 cd12 ct12), (PySem.W.fnOf "check_board" "check_board" (defArgs stcheck_board) (defBody stcheck_board) (defScope stcheck_board) .none kV13 dc13 pm13 an13 cd13 ct13), (PySem.W.fnOf "check_setting" "check_setting" (defArgs stcheck_setting) (defBody stcheck_setting) (defScope stcheck_setting) .none kV14 dc14 pm14 an14 cd14 ct14), (PySem.W.fnOf "__init__" "Board.__init__" (defArgs stBoard___init__) (defBody stBoard___init__) (defScope stBoard___init__) .none kV15 dc15 pm15 an15 cd15 ct15), (PySem.W.fnOf "is_size" "is_size" (defArgs stis_size) (defBody stis_size) (defScope stis_size) .none kV7 dc7 pm7 an7 cd7 ct7), (PySem.W.fnOf "is_size" "is_size" (defArgs stis_size) (defBody stis_size) (defScope stis_size) .none kV7 dc7 pm7 an7 cd7 ct7), (PySem.W.fnOf "is_size" "is_size" (defArgs stis_size) (defBody stis_size) (defScope stis_size) .none kV7 dc7 pm7 an7 cd7 ct7), (PySem.W.fnOf "whole" "Board.whole" (defArgs stBoard_whole) (defBody stBoard_whole) (defScope stBoard_whole) .none kV19 dc19 pm19 an19 cd19 ct19), (PySem.W.fnOf "__len__" "Board.__len__" (defArgs stBoard___len__) (defBody stBoard___len__) (defScope stBoard___len__) .none kV20 dc20 pm20 an20 cd20 ct20), (PySem.W.fnOf "is_size" "is_size" (defArgs stis_size) (defBody stis_size) (defScope stis_size) .none kV7 dc7 pm7 an7 cd7 ct7), (PySem.W.fnOf "__contains__" "Board.__contains__" (defArgs stBoard___contains__) (defBody stBoard___contains__) (defScope stBoard___contains__) .none kV22 dc22 pm22 an22 cd22 ct22), (PySem.W.fnOf "is_size" "is_size" (defArgs stis_size) (defBody stis_size) (defScope stis_size) .none kV7 dc7 pm7 an7 cd7 ct7), (PySem.W.fnOf "beside" "Board.beside" (defArgs stBoard_beside) (defBody stBoard_beside) (defScope stBoard_beside) .none kV24 dc24 pm24 an24 cd24 ct24), (PySem.W.fnOf "is_size" "is_size" (defArgs stis_size) (defBody stis_size) (defScope stis_size) .none kV7 dc7 pm7 an7 cd7 ct7), (PySem.W.fnOf "inside" "Board.inside" (defArgs stBoard_inside) (defBody stBoard_inside) (defScope stBoard_inside) (.ref T26) kV26 dc26 pm26 an26 cd26 ct26), (PySem.W.fnOf "is_size" "is_size" (defArgs stis_size) (defBody stis_size) (defScope stis_size) .none kV7 dc7 pm7 an7 cd7 ct7), (PySem.W.fnOf "first_wrong_place" "first_wrong_place" (defArgs stfirst_wrong_place) (defBody stfirst_wrong_place) (defScope stfirst_wrong_place) .none kV28 dc28 pm28 an28 cd28 ct28), (PySem.W.fnOf "neighbours_in" "neighbours_in" (defArgs stneighbours_in) (defBody stneighbours_in) (defScope stneighbours_in) .none kV29 dc29 pm29 an29 cd29 ct29), (PySem.W.fnOf "__init__" "Ranking.__init__" (defArgs stRanking___init__) (defBody stRanking___init__) (defScope stRanking___init__) .none kV30 dc30 pm30 an30 cd30 ct30), (PySem.W.fnOf "board" "Ranking.board" (defArgs stRanking_board) (defBody stRanking_board) (defScope stRanking_board) .none kV31 dc31 pm31 an31 cd31 ct31), (PySem.W.fnOf "is_size" "is_size" (defArgs stis_size) (defBody stis_size) (defScope stis_size) .none kV7 dc7 pm7 an7 cd7 ct7), (PySem.W.fnOf "is_size" "is_size" (defArgs stis_size) (defBody stis_size) (defScope stis_size) .none kV7 dc7 pm7 an7 cd7 ct7), (PySem.W.fnOf "is_size" "is_size" (defArgs stis_size) (defBody stis_size) (defScope stis_size) .none kV7 dc7 pm7 an7 cd7 ct7), (PySem.W.fnOf "peaks" "Ranking.peaks" (defArgs stRanking_peaks) (defBody stRanking_peaks) (defScope stRanking_peaks) (.ref T35) kV35 dc35 pm35 an35 cd35 ct35), (PySem.W.fnOf "is_size" "is_size" (defArgs stis_size) (defBody stis_size) (defScope stis_size) .none kV7 dc7 pm7 an7 cd7 ct7), (PySem.W.fnOf "is_size" "is_size" (defArgs stis_size) (defBody stis_size) (defScope stis_size) .none kV7 dc7 pm7 an7 cd7 ct7), (PySem.W.fnOf "is_size" "is_size" (defArgs stis_size) (defBody stis_size) (defScope stis_size) .none kV7 dc7 pm7 an7 cd7 ct7), (PySem.W.fnOf "is_size" "is_size" (defArgs stis_size) (defBody stis_size) (defScope stis_size) .none kV7 dc7 pm7 an7 cd7 ct7), (PySem.W.fnOf "is_size" "is_size" (defArgs stis_size) (defBody stis_size) (defScope stis_size) .none kV7 dc7 pm7 an7 cd7 ct7), (PySem.W.fnOf "is_size" "is_size" (defArgs stis_size) (defBody stis_size) (defScope stis_size) .none kV7 dc7 pm7 an7 cd7 ct7), (PySem.W.fnOf "is_size" "is_size" (defArgs stis_size) (defBody stis_size) (defScope stis_size) .none kV7 dc7 pm7 an7 cd7 ct7), (PySem.W.fnOf "is_size" "is_size" (defArgs stis_size) (defBody stis_size) (defScope stis_size) .none kV7 dc7 pm7 an7 cd7 ct7), (PySem.W.fnOf "is_size" "is_size" (defArgs stis_size) (defBody stis_size) (defScope stis_size) .none kV7 dc7 pm7 an7 cd7 ct7), (PySem.W.fnOf "is_size" "is_size" (defArgs stis_size) (defBody stis_size) (defScope stis_size) .none kV7 dc7 pm7 an7 cd7 ct7), (PySem.W.fnOf "_law_jar" "_law_jar" (defArgs st_law_jar) (defBody st_law_jar) (defScope st_law_jar) .none kV46 dc46 pm46 an46 cd46 ct46), (PySem.W.fnOf "_law_dip" "_law_dip" (defArgs st_law_dip) (defBody st_law_dip) (defScope st_law_dip) .none kV47 dc47 pm47 an47 cd47 ct47), (PySem.W.fnOf "_law_pick" "_law_pick" (defArgs st_law_pick) (defBody st_law_pick) (defScope st_law_pick) .none kV48 dc48 pm48 an48 cd48 ct48), (PySem.W.fnOf "_law_spans" "_law_spans" (defArgs st_law_spans) (defBody st_law_spans) (defScope st_law_spans) .none kV49 dc49 pm49 an49 cd49 ct49), (PySem.W.fnOf "_law_all" "_law_all" (defArgs st_law_all) (defBody st_law_all) (defScope st_law_all) .none kV50 dc50 pm50 an50 cd50 ct50), (PySem.W.fnOf "_law_near" "_law_near" (defArgs st_law_near) (defBody st_law_near) (defScope st_law_near) .none kV51 dc51 pm51 an51 cd51 ct51), (PySem.W.fnOf "_law_line" "_law_line" (defArgs st_law_line) (defBody st_law_line) (defScope st_law_line) .none kV52 dc52 pm52 an52 cd52 ct52), (PySem.W.fnOf "_law_room" "_law_room" (defArgs st_law_room) (defBody st_law_room) (defScope st_law_room) .none kV53 dc53 pm53 an53 cd53 ct53), (PySem.W.fnOf "_law_inside" "_law_inside" (defArgs st_law_inside) (defBody st_law_inside) (defScope st_law_inside) .none kV54 dc54 pm54 an54 cd54 ct54), (PySem.W.fnOf "_law_full" "_law_full" (defArgs st_law_full) (defBody st_law_full) (defScope st_law_full) .none kV55 dc55 pm55 an55 cd55 ct55), (PySem.W.fnOf "_law_tops" "_law_tops" (defArgs st_law_tops) (defBody st_law_tops) (defScope st_law_tops) .none kV56 dc56 pm56 an56 cd56 ct56), (PySem.W.fnOf "_law_right" "_law_right" (defArgs st_law_right) (defBody st_law_right) (defScope st_law_right) .none kV57 dc57 pm57 an57 cd57 ct57), (PySem.W.fnOf "law" "law" (defArgs stlaw) (defBody stlaw) (defScope stlaw) .none kV58 dc58 pm58 an58 cd58 ct58)] : List FuncData).getD i (PySem.W.fnOf "is_size" "is_size" (defArgs stis_size) (defBody stis_size) (defScope stis_size) .none kV7 dc7 pm7 an7 cd7 ct7)) (fun i => ([0, 0, 0, 0, 0, 0, 0, 0, 0, 0, 0, 0, 0, 0, 0, 0, 0, 0, 0, 0, 0, 0, 0, C23, 0, 0, 0, C27] : List Addr).getD i 0) := ⟨PySem.W.mg_none_of X G zabs,
    PySem.W.mg_none_of X G zall,
    PySem.W.mg_none_of X G zenumerate,
    PySem.W.mg_none_of X G zint,
    PySem.W.mg_none_of X G zisinstance,
    PySem.W.mg_none_of X G zlen,
    PySem.W.mg_none_of X G zmax,
    PySem.W.mg_none_of X G zmin,
    PySem.W.mg_none_of X G zrange,
    PySem.W.mg_none_of X G zrepr,
    PySem.W.mg_none_of X G zset,
    PySem.W.mg_none_of X G zsorted,
    PySem.W.mg_none_of X G zstr,
    PySem.W.mg_none_of X G ztuple,
    PySem.W.mg_none_of X G zzip,
    ⟨_, PySem.W.mg_of X G cMOST_SETTINGS⟩,
    ⟨_, PySem.W.mg_of X G cMOST_SWITCHES⟩,
    ⟨_, PySem.W.mg_of X G cSTANDS⟩,
    F7,
    F7.binds (ps := ["value"]) fun _ _ _ _ _ _ us hl => match us, hl with | [_], _ => rfl,
    PySem.W.mg_of X G ag7,
    F8,
    F8.binds (ps := ["sizes"]) fun _ _ _ _ _ _ us hl => match us, hl with | [_], _ => rfl,
    PySem.W.mg_of X G ag8,
    F9,
    F9.binds (ps := ["value", "stands"]) fun _ _ _ _ _ _ us hl => match us, hl with | [_, _], _ => rfl,
    PySem.W.mg_of X G ag9,
    F10,
    F10.binds (ps := ["value", "whole"]) fun _ _ _ _ _ _ us hl => match us, hl with | [_, _], _ => rfl,
    PySem.W.mg_of X G ag10,
    F11,
    F11.binds (ps := ["part"]) fun _ _ _ _ _ _ us hl => match us, hl with | [_], _ => rfl,
    PySem.W.mg_of X G ag11,
    F12,
    F12.binds (ps := ["setting", "whole"]) fun _ _ _ _ _ _ us hl => match us, hl with | [_, _], _ => rfl,
    PySem.W.mg_of X G ag12,
    F15,
    F15.binds (ps := ["self", "sizes"]) fun _ _ _ _ _ _ us hl => match us, hl with | [_, _], _ => rfl,
    F19,
    F19.binds (ps := ["self"]) fun _ _ _ _ _ _ us hl => match us, hl with | [_], _ => rfl,
    F20,
    F20.binds (ps := ["self"]) fun _ _ _ _ _ _ us hl => match us, hl with | [_], _ => rfl,
    F22,
    F22.binds (ps := ["self", "x"]) fun _ _ _ _ _ _ us hl => match us, hl with | [_, _], _ => rfl,
    F14,
    F14.binds (ps := ["board", "setting"]) fun _ _ _ _ _ _ us hl => match us, hl with | [_, _], _ => rfl,
    PySem.W.mg_of X G ag14,
    F13,
    F13.binds (ps := ["board"]) fun _ _ _ _ _ _ us hl => match us, hl with | [_], _ => rfl,
    PySem.W.mg_of X G ag13,
    F24,
    F24.binds (ps := ["self", "setting"]) fun _ _ _ _ _ _ us hl => match us, hl with | [_, _], _ => rfl,
    F26,
    (by obtain ⟨ds, h1, h2⟩ := F26.binds1 (ps := ["self", "part"]) 2 1 (by simp) rfl (fun _ _ _ _ _ _ _ us its hu hi => match us, hu, its, hi with | [_, _], _, [_], _ => ⟨_, rfl, rfl⟩); cases h1; exact h2),
    F28,
    F28.binds (ps := ["board", "order"]) fun _ _ _ _ _ _ us hl => match us, hl with | [_, _], _ => rfl,
    PySem.W.mg_of X G ag28,
    F29,
    F29.binds (ps := ["board", "part"]) fun _ _ _ _ _ _ us hl => match us, hl with | [_, _], _ => rfl,
    PySem.W.mg_of X G ag29,
    F30,
    F30.binds (ps := ["self", "board", "order"]) fun _ _ _ _ _ _ us hl => match us, hl with | [_, _, _], _ => rfl,
    F31,
    F31.binds (ps := ["self"]) fun _ _ _ _ _ _ us hl => match us, hl with | [_], _ => rfl,
    F35,
    (by obtain ⟨ds, h1, h2⟩ := F35.binds1 (ps := ["self", "part"]) 2 1 (by simp) rfl (fun _ _ _ _ _ _ _ us its hu hi => match us, hu, its, hi with | [_, _], _, [_], _ => ⟨_, rfl, rfl⟩); cases h1; exact h2),
    F46,
    F46.binds (ps := ["script", "k"]) fun _ _ _ _ _ _ us hl => match us, hl with | [_, _], _ => rfl,
    PySem.W.mg_of X G ag46,
    F47,
    F47.binds (ps := ["jar", "most"]) fun _ _ _ _ _ _ us hl => match us, hl with | [_, _], _ => rfl,
    PySem.W.mg_of X G ag47,
    F48,
    F48.binds (ps := ["jar", "menu"]) fun _ _ _ _ _ _ us hl => match us, hl with | [_, _], _ => rfl,
    PySem.W.mg_of X G ag48,
    F49,
    F49.binds (ps := ["jar", "most"]) fun _ _ _ _ _ _ us hl => match us, hl with | [_, _], _ => rfl,
    PySem.W.mg_of X G ag49,
    F50,
    F50.binds (ps := ["spans"]) fun _ _ _ _ _ _ us hl => match us, hl with | [_], _ => rfl,
    PySem.W.mg_of X G ag50,
    F51,
    F51.binds (ps := ["spans", "spot"]) fun _ _ _ _ _ _ us hl => match us, hl with | [_, _], _ => rfl,
    PySem.W.mg_of X G ag51,
    F52,
    F52.binds (ps := ["jar", "spans"]) fun _ _ _ _ _ _ us hl => match us, hl with | [_, _], _ => rfl,
    PySem.W.mg_of X G ag52,
    F53,
    F53.binds (ps := ["jar", "spans"]) fun _ _ _ _ _ _ us hl => match us, hl with | [_, _], _ => rfl,
    PySem.W.mg_of X G ag53,
    F54,
    F54.binds (ps := ["room"]) fun _ _ _ _ _ _ us hl => match us, hl with | [_], _ => rfl,
    PySem.W.mg_of X G ag54,
    F55,
    F55.binds (ps := ["spans"]) fun _ _ _ _ _ _ us hl => match us, hl with | [_], _ => rfl,
    PySem.W.mg_of X G ag55,
    F56,
    F56.binds (ps := ["spans", "line", "room"]) fun _ _ _ _ _ _ us hl => match us, hl with | [_, _, _], _ => rfl,
    PySem.W.mg_of X G ag56,
    F57,
    F57.binds (ps := ["jar"]) fun _ _ _ _ _ _ us hl => match us, hl with | [_], _ => rfl,
    PySem.W.mg_of X G ag57,
    F58,
    F58.binds (ps := ["script"]) fun _ _ _ _ _ _ us hl => match us, hl with | [_], _ => rfl,
    PySem.W.mg_of X G ag58,
    mBoard,
    (⟨⟨pg23, hd23, po23, sa23⟩, qc23, qg, qt, qo23⟩ : TxQ K C23),
    ⟨mkm23, am15, im15, mkk23⟩,
    ⟨mBoard, (by intro T hT; simp only [bts, List.mem_cons, List.not_mem_nil, or_false] at hT; rcases hT with rfl | rfl | rfl | rfl | rfl | rfl | rfl <;> first | exact kit_bc icl23 ity23 ib23_NoneType | exact kit_bc icl23 ity23 ib23_bool | exact kit_bc icl23 ity23 ib23_int | exact kit_bc icl23 ity23 ib23_str | exact kit_bc icl23 ity23 ib23_tuple | exact kit_bc icl23 ity23 ib23_list | exact kit_bc icl23 ity23 ib23_dict), (List.forall_mem_cons.mpr ⟨(fun C hC => by have hC : mg "Board" = some (.ref C) := hC; rw [mBoard] at hC; cases hC; exact kit_cc), (List.forall_mem_cons.mpr ⟨(fun C hC => by have hC : mg "Ranking" = some (.ref C) := hC; rw [mRanking] at hC; cases hC; exact kit_cd icl23 ity23 ic23_27 isf23), (List.forall_mem_cons.mpr ⟨(fun C hC => by have hC : mg "Notes" = some (.ref C) := hC; rw [mNotes] at hC; cases hC), (List.forall_mem_cons.mpr ⟨(fun C hC => by have hC : mg "Desk" = some (.ref C) := hC; rw [mDesk] at hC; cases hC), (List.forall_mem_cons.mpr ⟨(fun C hC => by have hC : mg "Console" = some (.ref C) := hC; rw [mConsole] at hC; cases hC), (fun x hx => by cases hx)⟩)⟩)⟩)⟩)⟩)⟩,
    mRanking,
    (⟨⟨pg27, hd27, po27, sa27⟩, qc27, qg, qt, qo27⟩ : TxQ K C27),
    ⟨mkm27, am30, im30, mkk27⟩,
    (List.forall_mem_cons.mpr ⟨(fun C hC => by have hC : mg "Board" = some (.ref C) := hC; rw [mBoard] at hC; cases hC; exact (⟨⟨pg23, hd23, po23, sa23⟩, qc23, qg, qt, qo23⟩ : TxQ K C23)), (List.forall_mem_cons.mpr ⟨(fun C hC => by have hC : mg "Ranking" = some (.ref C) := hC; rw [mRanking] at hC; cases hC; exact (⟨⟨pg27, hd27, po27, sa27⟩, qc27, qg, qt, qo27⟩ : TxQ K C27)), (List.forall_mem_cons.mpr ⟨(fun C hC => by have hC : mg "Notes" = some (.ref C) := hC; rw [mNotes] at hC; cases hC), (List.forall_mem_cons.mpr ⟨(fun C hC => by have hC : mg "Desk" = some (.ref C) := hC; rw [mDesk] at hC; cases hC), (List.forall_mem_cons.mpr ⟨(fun C hC => by have hC : mg "Console" = some (.ref C) := hC; rw [mConsole] at hC; cases hC), (fun x hx => by cases hx)⟩)⟩)⟩)⟩)⟩),
    (List.forall_mem_cons.mpr ⟨(fun C hC => by have hC : mg "Board" = some (.ref C) := hC; rw [mBoard] at hC; cases hC; exact (by intro T hT; simp only [bts, List.mem_cons, List.not_mem_nil, or_false] at hT; rcases hT with rfl | rfl | rfl | rfl | rfl | rfl | rfl <;> first | exact kit_cb (meta_bts _ (by decide)) nt23_NoneType | exact kit_cb (meta_bts _ (by decide)) nt23_bool | exact kit_cb (meta_bts _ (by decide)) nt23_int | exact kit_cb (meta_bts _ (by decide)) nt23_str | exact kit_cb (meta_bts _ (by decide)) nt23_tuple | exact kit_cb (meta_bts _ (by decide)) nt23_list | exact kit_cb (meta_bts _ (by decide)) nt23_dict)), (List.forall_mem_cons.mpr ⟨(fun C hC => by have hC : mg "Ranking" = some (.ref C) := hC; rw [mRanking] at hC; cases hC; exact (by intro T hT; simp only [bts, List.mem_cons, List.not_mem_nil, or_false] at hT; rcases hT with rfl | rfl | rfl | rfl | rfl | rfl | rfl <;> first | exact kit_cb (meta_bts _ (by decide)) nt27_NoneType | exact kit_cb (meta_bts _ (by decide)) nt27_bool | exact kit_cb (meta_bts _ (by decide)) nt27_int | exact kit_cb (meta_bts _ (by decide)) nt27_str | exact kit_cb (meta_bts _ (by decide)) nt27_tuple | exact kit_cb (meta_bts _ (by decide)) nt27_list | exact kit_cb (meta_bts _ (by decide)) nt27_dict)), (List.forall_mem_cons.mpr ⟨(fun C hC => by have hC : mg "Notes" = some (.ref C) := hC; rw [mNotes] at hC; cases hC), (List.forall_mem_cons.mpr ⟨(fun C hC => by have hC : mg "Desk" = some (.ref C) := hC; rw [mDesk] at hC; cases hC), (List.forall_mem_cons.mpr ⟨(fun C hC => by have hC : mg "Console" = some (.ref C) := hC; rw [mConsole] at hC; cases hC), (fun x hx => by cases hx)⟩)⟩)⟩)⟩)⟩),
    (List.forall_mem_cons.mpr ⟨(fun C hC => by have hC : mg "Board" = some (.ref C) := hC; rw [mBoard] at hC; cases hC; exact ⟨⟨pg23, hd23, po23, sa23⟩, nf23_beside⟩), (List.forall_mem_cons.mpr ⟨(fun C hC => by have hC : mg "Ranking" = some (.ref C) := hC; rw [mRanking] at hC; cases hC; exact ⟨⟨pg27, hd27, po27, sa27⟩, nf27_beside⟩), (List.forall_mem_cons.mpr ⟨(fun C hC => by have hC : mg "Notes" = some (.ref C) := hC; rw [mNotes] at hC; cases hC), (List.forall_mem_cons.mpr ⟨(fun C hC => by have hC : mg "Desk" = some (.ref C) := hC; rw [mDesk] at hC; cases hC), (List.forall_mem_cons.mpr ⟨(fun C hC => by have hC : mg "Console" = some (.ref C) := hC; rw [mConsole] at hC; cases hC), (fun x hx => by cases hx)⟩)⟩)⟩)⟩)⟩),
    (List.forall_mem_cons.mpr ⟨(fun C hC => by have hC : mg "Board" = some (.ref C) := hC; rw [mBoard] at hC; cases hC; exact ⟨⟨pg23, hd23, po23, sa23⟩, nf23_board⟩), (List.forall_mem_cons.mpr ⟨(fun C hC => by have hC : mg "Ranking" = some (.ref C) := hC; rw [mRanking] at hC; cases hC; exact ⟨⟨pg27, hd27, po27, sa27⟩, nf27_board⟩), (List.forall_mem_cons.mpr ⟨(fun C hC => by have hC : mg "Notes" = some (.ref C) := hC; rw [mNotes] at hC; cases hC), (List.forall_mem_cons.mpr ⟨(fun C hC => by have hC : mg "Desk" = some (.ref C) := hC; rw [mDesk] at hC; cases hC), (List.forall_mem_cons.mpr ⟨(fun C hC => by have hC : mg "Console" = some (.ref C) := hC; rw [mConsole] at hC; cases hC), (fun x hx => by cases hx)⟩)⟩)⟩)⟩)⟩),
    (List.forall_mem_cons.mpr ⟨(fun C hC => by have hC : mg "Board" = some (.ref C) := hC; rw [mBoard] at hC; cases hC; exact ⟨⟨pg23, hd23, po23, sa23⟩, nf23_order⟩), (List.forall_mem_cons.mpr ⟨(fun C hC => by have hC : mg "Ranking" = some (.ref C) := hC; rw [mRanking] at hC; cases hC; exact ⟨⟨pg27, hd27, po27, sa27⟩, nf27_order⟩), (List.forall_mem_cons.mpr ⟨(fun C hC => by have hC : mg "Notes" = some (.ref C) := hC; rw [mNotes] at hC; cases hC), (List.forall_mem_cons.mpr ⟨(fun C hC => by have hC : mg "Desk" = some (.ref C) := hC; rw [mDesk] at hC; cases hC), (List.forall_mem_cons.mpr ⟨(fun C hC => by have hC : mg "Console" = some (.ref C) := hC; rw [mConsole] at hC; cases hC), (fun x hx => by cases hx)⟩)⟩)⟩)⟩)⟩),
    (List.forall_mem_cons.mpr ⟨(fun C hC => by have hC : mg "Board" = some (.ref C) := hC; rw [mBoard] at hC; cases hC; exact ⟨⟨pg23, hd23, po23, sa23⟩, nf23_places⟩), (List.forall_mem_cons.mpr ⟨(fun C hC => by have hC : mg "Ranking" = some (.ref C) := hC; rw [mRanking] at hC; cases hC; exact ⟨⟨pg27, hd27, po27, sa27⟩, nf27_places⟩), (List.forall_mem_cons.mpr ⟨(fun C hC => by have hC : mg "Notes" = some (.ref C) := hC; rw [mNotes] at hC; cases hC), (List.forall_mem_cons.mpr ⟨(fun C hC => by have hC : mg "Desk" = some (.ref C) := hC; rw [mDesk] at hC; cases hC), (List.forall_mem_cons.mpr ⟨(fun C hC => by have hC : mg "Console" = some (.ref C) := hC; rw [mConsole] at hC; cases hC), (fun x hx => by cases hx)⟩)⟩)⟩)⟩)⟩),
    (List.forall_mem_cons.mpr ⟨(fun C hC => by have hC : mg "Board" = some (.ref C) := hC; rw [mBoard] at hC; cases hC; exact ⟨⟨pg23, hd23, po23, sa23⟩, nf23_settings⟩), (List.forall_mem_cons.mpr ⟨(fun C hC => by have hC : mg "Ranking" = some (.ref C) := hC; rw [mRanking] at hC; cases hC; exact ⟨⟨pg27, hd27, po27, sa27⟩, nf27_settings⟩), (List.forall_mem_cons.mpr ⟨(fun C hC => by have hC : mg "Notes" = some (.ref C) := hC; rw [mNotes] at hC; cases hC), (List.forall_mem_cons.mpr ⟨(fun C hC => by have hC : mg "Desk" = some (.ref C) := hC; rw [mDesk] at hC; cases hC), (List.forall_mem_cons.mpr ⟨(fun C hC => by have hC : mg "Console" = some (.ref C) := hC; rw [mConsole] at hC; cases hC), (fun x hx => by cases hx)⟩)⟩)⟩)⟩)⟩),
    (List.forall_mem_cons.mpr ⟨(fun C hC => by have hC : mg "Board" = some (.ref C) := hC; rw [mBoard] at hC; cases hC; exact ⟨⟨pg23, hd23, po23, sa23⟩, nf23_sizes⟩), (List.forall_mem_cons.mpr ⟨(fun C hC => by have hC : mg "Ranking" = some (.ref C) := hC; rw [mRanking] at hC; cases hC; exact ⟨⟨pg27, hd27, po27, sa27⟩, nf27_sizes⟩), (List.forall_mem_cons.mpr ⟨(fun C hC => by have hC : mg "Notes" = some (.ref C) := hC; rw [mNotes] at hC; cases hC), (List.forall_mem_cons.mpr ⟨(fun C hC => by have hC : mg "Desk" = some (.ref C) := hC; rw [mDesk] at hC; cases hC), (List.forall_mem_cons.mpr ⟨(fun C hC => by have hC : mg "Console" = some (.ref C) := hC; rw [mConsole] at hC; cases hC), (fun x hx => by cases hx)⟩)⟩)⟩)⟩)⟩),
    (List.forall_mem_cons.mpr ⟨(fun C hC => by have hC : mg "Board" = some (.ref C) := hC; rw [mBoard] at hC; cases hC; exact ⟨⟨pg23, hd23, po23, sa23⟩, nf23_whole⟩), (List.forall_mem_cons.mpr ⟨(fun C hC => by have hC : mg "Ranking" = some (.ref C) := hC; rw [mRanking] at hC; cases hC; exact ⟨⟨pg27, hd27, po27, sa27⟩, nf27_whole⟩), (List.forall_mem_cons.mpr ⟨(fun C hC => by have hC : mg "Notes" = some (.ref C) := hC; rw [mNotes] at hC; cases hC), (List.forall_mem_cons.mpr ⟨(fun C hC => by have hC : mg "Desk" = some (.ref C) := hC; rw [mDesk] at hC; cases hC), (List.forall_mem_cons.mpr ⟨(fun C hC => by have hC : mg "Console" = some (.ref C) := hC; rw [mConsole] at hC; cases hC), (fun x hx => by cases hx)⟩)⟩)⟩)⟩)⟩),
    ⟨p19, ⟨pa19, pgt19, ptk19, ⟨_, prc19⟩⟩⟩,
    ⟨p31, ⟨pa31, pgt31, ptk31, ⟨_, prc31⟩⟩⟩,
    ⟨am24, im24, kF24⟩,
    ⟨am26, im26, kF26⟩,
    ⟨am35, im35, kF35⟩,
    ⟨am20, im20⟩,
    ⟨am22, im22⟩,
    (by obtain ⟨its, h⟩ := F35.kbindsD (ps := ["self", "part"]) 1 ["part"] (fun vs _ zs => permA [0, 1] vs zs) (by simp) (fun r1 _ r3 => permA_vals r1 r3) (fun _ _ _ _ _ _ _ us its ws hu hi hw => match us, hu, its, hi, ws, hw with | [_], _, [_], _, [_], _ => ⟨_, rfl, rfl⟩); exact h),
    (by obtain ⟨ds, h1, h2⟩ := F35.binds1 (ps := ["self", "part"]) 1 0 (by simp) rfl (fun _ _ _ _ _ _ _ us its hu hi => match us, hu, its, hi with | [_], _, [_], _ => ⟨_, rfl, rfl⟩); cases h1 with | cons e1 h1 => cases h1; cases e1; exact h2)⟩
  exact ⟨(PySem.W.fnOf "law" "law" (defArgs stlaw) (defBody stlaw) (defScope stlaw) .none kV58 dc58 pm58 an58 cd58 ct58), fun s v => .of_eq rfl, fun base hb0 hb1 => law_imp law (ok_law TT)⟩
end Mi

set_option Elab.async false
set_option linter.all false
set_option maxRecDepth 100000
set_option maxHeartbeats 400000
namespace Mi
open PySem PySem.Spec PyProof.Rows L2 Sw
theorem Fits.pre {zs pre post : List Str} (f : Fits zs) (e : zs = pre ++ post) : Fits pre := by
  subst e
  exact ⟨by have := f.many; rw [List.length_append] at this; omega, fun z m => f.each z (List.mem_append_left _ m)⟩
theorem chars_one {z : Str} : ∀ c ∈ chars z, c.length = 1 := fun c hc => by
  unfold chars at hc
  obtain ⟨k, _, rfl⟩ := List.mem_map.mp hc
  rfl
theorem r_settings {S : Sto} {zs : List Str} (o : OkS S) (f : Fits zs) : F_settings_of [.tup (zs.map .str)] S = some (.tup ((setsOf zs).map .str), S) := by
  unfold F_settings_of mDef
  simp only [ap_2, ap_C, ap_V, ap_andT, ap_andV, ap_asg, ap_call, ap_cb, ap_cmeth, ap_cmethK, ap_cons, ap_dGet, ap_dIn, ap_dc, ap_drop, ap_enum, ap_eqRef, ap_extend, ap_fld, ap_fldM, ap_for, ap_gV, ap_if, ap_ifS, ap_isi, ap_it, ap_kget, ap_lc, ap_lc2, ap_lst, ap_lstL, ap_make, ap_makeK, ap_makeL, ap_meth, ap_methK, ap_moInt, ap_moNo, ap_next, ap_nil, ap_notT, ap_notV, ap_orT, ap_ownEq, ap_ownIn, ap_par, ap_prop, ap_put, ap_ret, ap_seq, ap_set, ap_sl, ap_strO, ap_tru, ap_tst, ap_tup, ap_tupOf, ap_yes, ap_zip, bnd_some, List.getElem?_cons_zero, List.getElem?_cons_succ, List.set_cons_zero, List.set_cons_succ, List.map_cons, List.map_nil, List.cons_append, List.nil_append, List.replicate_succ, List.replicate_zero, if_true, if_false, Bool.false_eq_true, reduceIte, List.length_cons, List.length_nil, sz_is, Nat.reduceAdd, lz0, lz1, lz2, lz3, lz4, lz5, lz6, lz7, lz8, lz9, lz10, lz11, lz12, lz13, lz14, lz15, Nat.zero_add, itemsOf, eq_self, Bool.not_true, Bool.not_false, Bool.true_and, Bool.and_true, true_and, and_true, decide_true, decide_false, wipeE, asQ, fTupOf]
  have h := forGo_ind (g := gV 2) (b := sSet 1 (mLc2 [3, 4] [4] (mIt (mV 1)) (gV 3) mYes (mIt (mV 2)) (gV 4) mYes (m2 fAdd (mV 3) (mV 4)))) Dv.str
    (fun pre ev1 S1 => (∃ a b c, ev1 = [some (Dv.tup (zs.map .str)), some (.lst ((setsOf pre).map .str)), a, b, c]) ∧ S1 = S) zs ?_ zs [] [some (Dv.tup (List.map Dv.str zs)), some (Dv.lst [Dv.str (Str.ofString "")]), none, none, none] S rfl ⟨⟨none, none, none, rfl⟩, rfl⟩
  · obtain ⟨ev', S', e, ⟨a, b, c, rfl⟩, rfl⟩ := h
    rw [e]
    simp only [ap_2, ap_C, ap_V, ap_andT, ap_andV, ap_asg, ap_call, ap_cb, ap_cmeth, ap_cmethK, ap_cons, ap_dGet, ap_dIn, ap_dc, ap_drop, ap_enum, ap_eqRef, ap_extend, ap_fld, ap_fldM, ap_for, ap_gV, ap_if, ap_ifS, ap_isi, ap_it, ap_kget, ap_lc, ap_lc2, ap_lst, ap_lstL, ap_make, ap_makeK, ap_makeL, ap_meth, ap_methK, ap_moInt, ap_moNo, ap_next, ap_nil, ap_notT, ap_notV, ap_orT, ap_ownEq, ap_ownIn, ap_par, ap_prop, ap_put, ap_ret, ap_seq, ap_set, ap_sl, ap_strO, ap_tru, ap_tst, ap_tup, ap_tupOf, ap_yes, ap_zip, bnd_some, List.getElem?_cons_zero, List.getElem?_cons_succ, List.set_cons_zero, List.set_cons_succ, List.map_cons, List.map_nil, List.cons_append, List.nil_append, List.replicate_succ, List.replicate_zero, if_true, if_false, Bool.false_eq_true, reduceIte, List.length_cons, List.length_nil, sz_is, Nat.reduceAdd, lz0, lz1, lz2, lz3, lz4, lz5, lz6, lz7, lz8, lz9, lz10, lz11, lz12, lz13, lz14, lz15, Nat.zero_add, itemsOf, eq_self, Bool.not_true, Bool.not_false, Bool.true_and, Bool.and_true, true_and, and_true, decide_true, decide_false, wipeE, asQ, fTupOf]
    rw [fin_clean o (by rw [clean]; exact cl_strs _)]
  · rintro pre x post ev1 S1 e ⟨⟨a, b, c, rfl⟩, rfl⟩
    refine ⟨_, [some (Dv.tup (zs.map .str)), some (.lst ((setsOf (pre ++ [x])).map .str)), some (.str x), b, c], S1, ap_gV, ?_, ⟨_, _, _, rfl⟩, rfl⟩
    have fp : Fits (pre ++ [x]) := f.pre (post := post) (by rw [e, List.append_assoc]; rfl)
    have l1 := setsOf_len fp
    rw [setsOf_snoc] at l1 ⊢
    simp only [ap_2, ap_C, ap_V, ap_andT, ap_andV, ap_asg, ap_call, ap_cb, ap_cmeth, ap_cmethK, ap_cons, ap_dGet, ap_dIn, ap_dc, ap_drop, ap_enum, ap_eqRef, ap_extend, ap_fld, ap_fldM, ap_for, ap_gV, ap_if, ap_ifS, ap_isi, ap_it, ap_kget, ap_lc, ap_lc2, ap_lst, ap_lstL, ap_make, ap_makeK, ap_makeL, ap_meth, ap_methK, ap_moInt, ap_moNo, ap_next, ap_nil, ap_notT, ap_notV, ap_orT, ap_ownEq, ap_ownIn, ap_par, ap_prop, ap_put, ap_ret, ap_seq, ap_set, ap_sl, ap_strO, ap_tru, ap_tst, ap_tup, ap_tupOf, ap_yes, ap_zip, bnd_some, List.getElem?_cons_zero, List.getElem?_cons_succ, List.set_cons_zero, List.set_cons_succ, List.map_cons, List.map_nil, List.cons_append, List.nil_append, List.replicate_succ, List.replicate_zero, if_true, if_false, Bool.false_eq_true, reduceIte, List.length_cons, List.length_nil, sz_is, Nat.reduceAdd, lz0, lz1, lz2, lz3, lz4, lz5, lz6, lz7, lz8, lz9, lz10, lz11, lz12, lz13, lz14, lz15, Nat.zero_add, itemsOf, eq_self, Bool.not_true, Bool.not_false, Bool.true_and, Bool.and_true, true_and, and_true, decide_true, decide_false, wipeE, asQ, fTupOf]
    rw [lc2Go_map (f := Dv.str) (e1 := fun s => [some (Dv.tup (zs.map .str)), some (.lst ((setsOf pre).map .str)), some (.str x), some (.str s), none]) (f1 := Dv.str) (ys := fun _ => chars x) (zs := fun s => ((chars x).map fun c => Dv.str (s ++ c))) (setsOf pre) fun s hs => ⟨rfl, rfl, rfl, ?_⟩]
    · have e2 : List.flatMap (fun s => List.map (fun c => Dv.str (s ++ c)) (chars x)) (setsOf pre) = (sets1 (setsOf pre) x).map .str := by
        unfold sets1
        rw [List.map_flatMap]
        simp only [List.map_map]
        rfl
      simp only [ap_2, ap_C, ap_V, ap_andT, ap_andV, ap_asg, ap_call, ap_cb, ap_cmeth, ap_cmethK, ap_cons, ap_dGet, ap_dIn, ap_dc, ap_drop, ap_enum, ap_eqRef, ap_extend, ap_fld, ap_fldM, ap_for, ap_gV, ap_if, ap_ifS, ap_isi, ap_it, ap_kget, ap_lc, ap_lc2, ap_lst, ap_lstL, ap_make, ap_makeK, ap_makeL, ap_meth, ap_methK, ap_moInt, ap_moNo, ap_next, ap_nil, ap_notT, ap_notV, ap_orT, ap_ownEq, ap_ownIn, ap_par, ap_prop, ap_put, ap_ret, ap_seq, ap_set, ap_sl, ap_strO, ap_tru, ap_tst, ap_tup, ap_tupOf, ap_yes, ap_zip, bnd_some, List.getElem?_cons_zero, List.getElem?_cons_succ, List.set_cons_zero, List.set_cons_succ, List.map_cons, List.map_nil, List.cons_append, List.nil_append, List.replicate_succ, List.replicate_zero, if_true, if_false, Bool.false_eq_true, reduceIte, List.length_cons, List.length_nil, sz_is, Nat.reduceAdd, lz0, lz1, lz2, lz3, lz4, lz5, lz6, lz7, lz8, lz9, lz10, lz11, lz12, lz13, lz14, lz15, Nat.zero_add, itemsOf, eq_self, Bool.not_true, Bool.not_false, Bool.true_and, Bool.and_true, true_and, and_true, decide_true, decide_false, wipeE, asQ, fTupOf, e2]
      rw [bnd_if (by rw [List.length_map]; omega)]
    · rw [lcGo_all (f := Dv.str) (e1 := fun c => [some (Dv.tup (zs.map .str)), some (.lst ((setsOf pre).map .str)), some (.str x), some (.str s), some (.str c)]) (h := fun c => Dv.str (s ++ c))]
      intro c hc
      refine ⟨rfl, rfl, ?_⟩
      have s1 := setsOf_each s hs
      have c1 := chars_one c hc
      have := fp.many
      rw [List.length_append] at this
      simp only [ap_2, ap_C, ap_V, ap_andT, ap_andV, ap_asg, ap_call, ap_cb, ap_cmeth, ap_cmethK, ap_cons, ap_dGet, ap_dIn, ap_dc, ap_drop, ap_enum, ap_eqRef, ap_extend, ap_fld, ap_fldM, ap_for, ap_gV, ap_if, ap_ifS, ap_isi, ap_it, ap_kget, ap_lc, ap_lc2, ap_lst, ap_lstL, ap_make, ap_makeK, ap_makeL, ap_meth, ap_methK, ap_moInt, ap_moNo, ap_next, ap_nil, ap_notT, ap_notV, ap_orT, ap_ownEq, ap_ownIn, ap_par, ap_prop, ap_put, ap_ret, ap_seq, ap_set, ap_sl, ap_strO, ap_tru, ap_tst, ap_tup, ap_tupOf, ap_yes, ap_zip, bnd_some, List.getElem?_cons_zero, List.getElem?_cons_succ, List.set_cons_zero, List.set_cons_succ, List.map_cons, List.map_nil, List.cons_append, List.nil_append, List.replicate_succ, List.replicate_zero, if_true, if_false, Bool.false_eq_true, reduceIte, List.length_cons, List.length_nil, sz_is, Nat.reduceAdd, lz0, lz1, lz2, lz3, lz4, lz5, lz6, lz7, lz8, lz9, lz10, lz11, lz12, lz13, lz14, lz15, Nat.zero_add, itemsOf, eq_self, Bool.not_true, Bool.not_false, Bool.true_and, Bool.and_true, true_and, and_true, decide_true, decide_false, wipeE, asQ, fTupOf, add_str (S := S1) (a := s) (b := c) (by rw [sz_is]; simp at this; omega)]
def inB (MI : MA) : MS := sSet 3 (m2 fAdd (mV 3) (mLc [5] MI (gV 5) mYes (m2 fAdd (mV 4) (mV 5))))
/-- one switch more -/
theorem r_in {S : Sto} {MI : MA} {p d x2 : Dv} {R : List Str} {x : Str} {n : Nat} (hm : ∀ a b c, MI [some p, some (.lst (R.map .str)), some x2, a, b, c] S = some ((chars x).map .str, S)) (h1 : (sets1 R x).length ≤ 1000) (h2 : ∀ s ∈ R, s.length ≤ 1000) (h3 : (chars x).length ≤ 3) {a b c : Option Dv} :
    ∃ b' c', forGo (gV 4) (inB MI) (R.map .str) [some p, some (.lst (R.map .str)), some x2, some (.lst []), b, c] S = some (.nx [some p, some (.lst (R.map .str)), some x2, some (.lst ((sets1 R x).map .str)), b', c'], S) := by
  have h := forGo_ind (g := gV 4) (b := inB MI) Dv.str (fun pre ev1 S1 => (∃ b c, ev1 = [some p, some (.lst (R.map .str)), some x2, some (.lst ((sets1 pre x).map .str)), b, c]) ∧ S1 = S) R ?_ R [] [some p, some (.lst (R.map .str)), some x2, some (.lst []), b, c] S rfl ⟨⟨_, _, rfl⟩, rfl⟩
  · obtain ⟨ev', S', e, ⟨b', c', rfl⟩, rfl⟩ := h
    exact ⟨b', c', e⟩
  · rintro pre s post ev1 S1 e ⟨⟨b, c, rfl⟩, rfl⟩
    refine ⟨_, [some p, some (.lst (R.map .str)), some x2, some (.lst ((sets1 (pre ++ [s]) x).map .str)), some (.str s), c], S1, ap_gV, ?_, ⟨_, _, rfl⟩, rfl⟩
    have e3 : sets1 (pre ++ [s]) x = sets1 pre x ++ (chars x).map fun c => s ++ c := by
      unfold sets1
      rw [List.flatMap_append]
      simp
    have l1 : (sets1 pre x).length + (chars x).length ≤ 1000 := by
      have : sets1 R x = sets1 pre x ++ ((chars x).map fun c => s ++ c) ++ sets1 post x := by
        rw [e]
        unfold sets1
        rw [List.flatMap_append, List.flatMap_cons, List.append_assoc]
      rw [this] at h1
      simp only [List.length_append, List.length_map] at h1
      omega
    unfold inB
    simp only [ap_2, ap_C, ap_V, ap_andT, ap_andV, ap_asg, ap_call, ap_cb, ap_cmeth, ap_cmethK, ap_cons, ap_dGet, ap_dIn, ap_dc, ap_drop, ap_enum, ap_eqRef, ap_extend, ap_fld, ap_fldM, ap_for, ap_gV, ap_if, ap_ifS, ap_isi, ap_it, ap_kget, ap_lc, ap_lc2, ap_lst, ap_lstL, ap_make, ap_makeK, ap_makeL, ap_meth, ap_methK, ap_moInt, ap_moNo, ap_next, ap_nil, ap_notT, ap_notV, ap_orT, ap_ownEq, ap_ownIn, ap_par, ap_prop, ap_put, ap_ret, ap_seq, ap_set, ap_sl, ap_strO, ap_tru, ap_tst, ap_tup, ap_tupOf, ap_yes, ap_zip, bnd_some, List.getElem?_cons_zero, List.getElem?_cons_succ, List.set_cons_zero, List.set_cons_succ, List.map_cons, List.map_nil, List.cons_append, List.nil_append, List.replicate_succ, List.replicate_zero, if_true, if_false, Bool.false_eq_true, reduceIte, List.length_cons, List.length_nil, sz_is, Nat.reduceAdd, lz0, lz1, lz2, lz3, lz4, lz5, lz6, lz7, lz8, lz9, lz10, lz11, lz12, lz13, lz14, lz15, Nat.zero_add, itemsOf, eq_self, Bool.not_true, Bool.not_false, Bool.true_and, Bool.and_true, true_and, and_true, decide_true, decide_false, wipeE, asQ, fTupOf, hm]
    rw [lcGo_all (f := Dv.str) (e1 := fun k => [some p, some (.lst (R.map .str)), some x2, some (.lst ((sets1 pre x).map .str)), some (.str s), some (.str k)]) (h := fun k => Dv.str (s ++ k))]
    · simp only [ap_2, ap_C, ap_V, ap_andT, ap_andV, ap_asg, ap_call, ap_cb, ap_cmeth, ap_cmethK, ap_cons, ap_dGet, ap_dIn, ap_dc, ap_drop, ap_enum, ap_eqRef, ap_extend, ap_fld, ap_fldM, ap_for, ap_gV, ap_if, ap_ifS, ap_isi, ap_it, ap_kget, ap_lc, ap_lc2, ap_lst, ap_lstL, ap_make, ap_makeK, ap_makeL, ap_meth, ap_methK, ap_moInt, ap_moNo, ap_next, ap_nil, ap_notT, ap_notV, ap_orT, ap_ownEq, ap_ownIn, ap_par, ap_prop, ap_put, ap_ret, ap_seq, ap_set, ap_sl, ap_strO, ap_tru, ap_tst, ap_tup, ap_tupOf, ap_yes, ap_zip, bnd_some, List.getElem?_cons_zero, List.getElem?_cons_succ, List.set_cons_zero, List.set_cons_succ, List.map_cons, List.map_nil, List.cons_append, List.nil_append, List.replicate_succ, List.replicate_zero, if_true, if_false, Bool.false_eq_true, reduceIte, List.length_cons, List.length_nil, sz_is, Nat.reduceAdd, lz0, lz1, lz2, lz3, lz4, lz5, lz6, lz7, lz8, lz9, lz10, lz11, lz12, lz13, lz14, lz15, Nat.zero_add, itemsOf, eq_self, Bool.not_true, Bool.not_false, Bool.true_and, Bool.and_true, true_and, and_true, decide_true, decide_false, wipeE, asQ, fTupOf]
      rw [bnd_if (by rw [List.length_map]; omega)]
      have e4 : (sets1 pre x).map Dv.str ++ (chars x).map (fun k => Dv.str (s ++ k)) = (sets1 (pre ++ [s]) x).map .str := by
        rw [e3, List.map_append, List.map_map]
        rfl
      simp only [ap_2, ap_C, ap_V, ap_andT, ap_andV, ap_asg, ap_call, ap_cb, ap_cmeth, ap_cmethK, ap_cons, ap_dGet, ap_dIn, ap_dc, ap_drop, ap_enum, ap_eqRef, ap_extend, ap_fld, ap_fldM, ap_for, ap_gV, ap_if, ap_ifS, ap_isi, ap_it, ap_kget, ap_lc, ap_lc2, ap_lst, ap_lstL, ap_make, ap_makeK, ap_makeL, ap_meth, ap_methK, ap_moInt, ap_moNo, ap_next, ap_nil, ap_notT, ap_notV, ap_orT, ap_ownEq, ap_ownIn, ap_par, ap_prop, ap_put, ap_ret, ap_seq, ap_set, ap_sl, ap_strO, ap_tru, ap_tst, ap_tup, ap_tupOf, ap_yes, ap_zip, bnd_some, List.getElem?_cons_zero, List.getElem?_cons_succ, List.set_cons_zero, List.set_cons_succ, List.map_cons, List.map_nil, List.cons_append, List.nil_append, List.replicate_succ, List.replicate_zero, if_true, if_false, Bool.false_eq_true, reduceIte, List.length_cons, List.length_nil, sz_is, Nat.reduceAdd, lz0, lz1, lz2, lz3, lz4, lz5, lz6, lz7, lz8, lz9, lz10, lz11, lz12, lz13, lz14, lz15, Nat.zero_add, itemsOf, eq_self, Bool.not_true, Bool.not_false, Bool.true_and, Bool.and_true, true_and, and_true, decide_true, decide_false, wipeE, asQ, fTupOf, add_lst (S := S1) (a := (sets1 pre x).map .str) (b := (chars x).map fun k => Dv.str (s ++ k)) (by rw [List.length_map, List.length_map, sz_is]; omega), e4]
    · intro k hk
      refine ⟨rfl, rfl, ?_⟩
      have s1 := h2 s (by rw [e]; exact List.mem_append_right _ (.head _))
      have c1 := chars_one k hk
      simp only [ap_2, ap_C, ap_V, ap_andT, ap_andV, ap_asg, ap_call, ap_cb, ap_cmeth, ap_cmethK, ap_cons, ap_dGet, ap_dIn, ap_dc, ap_drop, ap_enum, ap_eqRef, ap_extend, ap_fld, ap_fldM, ap_for, ap_gV, ap_if, ap_ifS, ap_isi, ap_it, ap_kget, ap_lc, ap_lc2, ap_lst, ap_lstL, ap_make, ap_makeK, ap_makeL, ap_meth, ap_methK, ap_moInt, ap_moNo, ap_next, ap_nil, ap_notT, ap_notV, ap_orT, ap_ownEq, ap_ownIn, ap_par, ap_prop, ap_put, ap_ret, ap_seq, ap_set, ap_sl, ap_strO, ap_tru, ap_tst, ap_tup, ap_tupOf, ap_yes, ap_zip, bnd_some, List.getElem?_cons_zero, List.getElem?_cons_succ, List.set_cons_zero, List.set_cons_succ, List.map_cons, List.map_nil, List.cons_append, List.nil_append, List.replicate_succ, List.replicate_zero, if_true, if_false, Bool.false_eq_true, reduceIte, List.length_cons, List.length_nil, sz_is, Nat.reduceAdd, lz0, lz1, lz2, lz3, lz4, lz5, lz6, lz7, lz8, lz9, lz10, lz11, lz12, lz13, lz14, lz15, Nat.zero_add, itemsOf, eq_self, Bool.not_true, Bool.not_false, Bool.true_and, Bool.and_true, true_and, and_true, decide_true, decide_false, wipeE, asQ, fTupOf, add_str (S := S1) (a := s) (b := k) (by rw [sz_is]; omega)]
theorem r_inside {S : Sto} {zs : List Str} (o : OkS S) (f : Fits zs) : F__law_inside [.tup (zs.map .str)] S = some (.lst ((setsOf zs).map .str), S) := by
  unfold F__law_inside mDef
  simp only [ap_2, ap_C, ap_V, ap_andT, ap_andV, ap_asg, ap_call, ap_cb, ap_cmeth, ap_cmethK, ap_cons, ap_dGet, ap_dIn, ap_dc, ap_drop, ap_enum, ap_eqRef, ap_extend, ap_fld, ap_fldM, ap_for, ap_gV, ap_if, ap_ifS, ap_isi, ap_it, ap_kget, ap_lc, ap_lc2, ap_lst, ap_lstL, ap_make, ap_makeK, ap_makeL, ap_meth, ap_methK, ap_moInt, ap_moNo, ap_next, ap_nil, ap_notT, ap_notV, ap_orT, ap_ownEq, ap_ownIn, ap_par, ap_prop, ap_put, ap_ret, ap_seq, ap_set, ap_sl, ap_strO, ap_tru, ap_tst, ap_tup, ap_tupOf, ap_yes, ap_zip, bnd_some, List.getElem?_cons_zero, List.getElem?_cons_succ, List.set_cons_zero, List.set_cons_succ, List.map_cons, List.map_nil, List.cons_append, List.nil_append, List.replicate_succ, List.replicate_zero, if_true, if_false, Bool.false_eq_true, reduceIte, List.length_cons, List.length_nil, sz_is, Nat.reduceAdd, lz0, lz1, lz2, lz3, lz4, lz5, lz6, lz7, lz8, lz9, lz10, lz11, lz12, lz13, lz14, lz15, Nat.zero_add, itemsOf, eq_self, Bool.not_true, Bool.not_false, Bool.true_and, Bool.and_true, true_and, and_true, decide_true, decide_false, wipeE, asQ, fTupOf]
  have h := forGo_ind (g := gV 2) (b := (sSeq (sSet 3 (mLst maNil)) (sSeq (sFor (mIt (mV 1)) (gV 4) (inB (mIt (mV 2)))) (sSet 1 (mV 3))))) Dv.str
    (fun pre ev1 S1 => (∃ a b c d, ev1 = [some (Dv.tup (zs.map .str)), some (.lst ((setsOf pre).map .str)), a, b, c, d]) ∧ S1 = S) zs ?_ zs [] [some (Dv.tup (List.map Dv.str zs)), some (Dv.lst [Dv.str (Str.ofString "")]), none, none, none, none] S rfl ⟨⟨none, none, none, none, rfl⟩, rfl⟩
  · obtain ⟨ev', S', e, ⟨a, b, c, d, rfl⟩, rfl⟩ := h
    unfold inB at e
    rw [e]
    simp only [ap_2, ap_C, ap_V, ap_andT, ap_andV, ap_asg, ap_call, ap_cb, ap_cmeth, ap_cmethK, ap_cons, ap_dGet, ap_dIn, ap_dc, ap_drop, ap_enum, ap_eqRef, ap_extend, ap_fld, ap_fldM, ap_for, ap_gV, ap_if, ap_ifS, ap_isi, ap_it, ap_kget, ap_lc, ap_lc2, ap_lst, ap_lstL, ap_make, ap_makeK, ap_makeL, ap_meth, ap_methK, ap_moInt, ap_moNo, ap_next, ap_nil, ap_notT, ap_notV, ap_orT, ap_ownEq, ap_ownIn, ap_par, ap_prop, ap_put, ap_ret, ap_seq, ap_set, ap_sl, ap_strO, ap_tru, ap_tst, ap_tup, ap_tupOf, ap_yes, ap_zip, bnd_some, List.getElem?_cons_zero, List.getElem?_cons_succ, List.set_cons_zero, List.set_cons_succ, List.map_cons, List.map_nil, List.cons_append, List.nil_append, List.replicate_succ, List.replicate_zero, if_true, if_false, Bool.false_eq_true, reduceIte, List.length_cons, List.length_nil, sz_is, Nat.reduceAdd, lz0, lz1, lz2, lz3, lz4, lz5, lz6, lz7, lz8, lz9, lz10, lz11, lz12, lz13, lz14, lz15, Nat.zero_add, itemsOf, eq_self, Bool.not_true, Bool.not_false, Bool.true_and, Bool.and_true, true_and, and_true, decide_true, decide_false, wipeE, asQ, fTupOf]
    rw [fin_clean o (by rw [clean]; exact cl_strs _)]
  · rintro pre x post ev1 S1 e ⟨⟨a, b, c, d, rfl⟩, rfl⟩
    have fp : Fits (pre ++ [x]) := f.pre (post := post) (by rw [e, List.append_assoc]; rfl)
    have l1 := setsOf_len fp
    have l2 := fp.many
    rw [List.length_append] at l2
    rw [setsOf_snoc] at l1
    obtain ⟨b', c', h2⟩ := r_in (S := S1) (MI := mIt (mV 2)) (p := Dv.tup (zs.map .str)) (d := .non) (x2 := .str x) (R := setsOf pre) (x := x) (n := 0) (fun _ _ _ => rfl) (by omega) (fun s hs => by have := setsOf_each s hs; omega) (fp.each x (List.mem_append_right _ (.head _))) (a := none) (b := c) (c := d)
    refine ⟨_, [some (Dv.tup (zs.map .str)), some (.lst ((setsOf (pre ++ [x])).map .str)), some (.str x), some (.lst ((setsOf (pre ++ [x])).map .str)), b', c'], S1, ap_gV, ?_, ⟨_, _, _, _, rfl⟩, rfl⟩
    rw [setsOf_snoc]
    simp only [ap_2, ap_C, ap_V, ap_andT, ap_andV, ap_asg, ap_call, ap_cb, ap_cmeth, ap_cmethK, ap_cons, ap_dGet, ap_dIn, ap_dc, ap_drop, ap_enum, ap_eqRef, ap_extend, ap_fld, ap_fldM, ap_for, ap_gV, ap_if, ap_ifS, ap_isi, ap_it, ap_kget, ap_lc, ap_lc2, ap_lst, ap_lstL, ap_make, ap_makeK, ap_makeL, ap_meth, ap_methK, ap_moInt, ap_moNo, ap_next, ap_nil, ap_notT, ap_notV, ap_orT, ap_ownEq, ap_ownIn, ap_par, ap_prop, ap_put, ap_ret, ap_seq, ap_set, ap_sl, ap_strO, ap_tru, ap_tst, ap_tup, ap_tupOf, ap_yes, ap_zip, bnd_some, List.getElem?_cons_zero, List.getElem?_cons_succ, List.set_cons_zero, List.set_cons_succ, List.map_cons, List.map_nil, List.cons_append, List.nil_append, List.replicate_succ, List.replicate_zero, if_true, if_false, Bool.false_eq_true, reduceIte, List.length_cons, List.length_nil, sz_is, Nat.reduceAdd, lz0, lz1, lz2, lz3, lz4, lz5, lz6, lz7, lz8, lz9, lz10, lz11, lz12, lz13, lz14, lz15, Nat.zero_add, itemsOf, eq_self, Bool.not_true, Bool.not_false, Bool.true_and, Bool.and_true, true_and, and_true, decide_true, decide_false, wipeE, asQ, fTupOf, h2]
theorem sl_012 {S : Sto} {n : Int} : fSl S (.str "012") none (some n) = some (.str (cutS "012" none (some n))) := by
  show (if (Str.ofString "012").length ≤ sizeLine then some (Dv.str (cutS "012" none (some n))) else none) = _
  exact if_pos (by decide +kernel)
theorem whole_app (a b : List Int) : wholeOf (a ++ b) = wholeOf a ++ wholeOf b := List.map_append
theorem r_all {S : Sto} {ns : List Int} (o : OkS S) (f : Fits (wholeOf ns)) : F__law_all [.tup (ns.map .int)] S = some (.lst ((setsOf (wholeOf ns)).map .str), S) := by
  unfold F__law_all mDef
  simp only [ap_2, ap_C, ap_V, ap_andT, ap_andV, ap_asg, ap_call, ap_cb, ap_cmeth, ap_cmethK, ap_cons, ap_dGet, ap_dIn, ap_dc, ap_drop, ap_enum, ap_eqRef, ap_extend, ap_fld, ap_fldM, ap_for, ap_gV, ap_if, ap_ifS, ap_isi, ap_it, ap_kget, ap_lc, ap_lc2, ap_lst, ap_lstL, ap_make, ap_makeK, ap_makeL, ap_meth, ap_methK, ap_moInt, ap_moNo, ap_next, ap_nil, ap_notT, ap_notV, ap_orT, ap_ownEq, ap_ownIn, ap_par, ap_prop, ap_put, ap_ret, ap_seq, ap_set, ap_sl, ap_strO, ap_tru, ap_tst, ap_tup, ap_tupOf, ap_yes, ap_zip, bnd_some, List.getElem?_cons_zero, List.getElem?_cons_succ, List.set_cons_zero, List.set_cons_succ, List.map_cons, List.map_nil, List.cons_append, List.nil_append, List.replicate_succ, List.replicate_zero, if_true, if_false, Bool.false_eq_true, reduceIte, List.length_cons, List.length_nil, sz_is, Nat.reduceAdd, lz0, lz1, lz2, lz3, lz4, lz5, lz6, lz7, lz8, lz9, lz10, lz11, lz12, lz13, lz14, lz15, Nat.zero_add, itemsOf, eq_self, Bool.not_true, Bool.not_false, Bool.true_and, Bool.and_true, true_and, and_true, decide_true, decide_false, wipeE, asQ, fTupOf]
  have h := forGo_ind (g := gV 2) (b := (sSeq (sSet 3 (mLst maNil)) (sSeq (sFor (mIt (mV 1)) (gV 4) (inB (mIt (mSl (mC (.str "012")) moNo (moInt (mV 2)))))) (sSet 1 (mV 3))))) Dv.int
    (fun pre ev1 S1 => (∃ a b c d, ev1 = [some (Dv.tup (ns.map .int)), some (.lst ((setsOf (wholeOf pre)).map .str)), a, b, c, d]) ∧ S1 = S) ns ?_ ns [] [some (Dv.tup (List.map Dv.int ns)), some (Dv.lst [Dv.str (Str.ofString "")]), none, none, none, none] S rfl ⟨⟨none, none, none, none, rfl⟩, rfl⟩
  · obtain ⟨ev', S', e, ⟨a, b, c, d, rfl⟩, rfl⟩ := h
    unfold inB at e
    rw [e]
    simp only [ap_2, ap_C, ap_V, ap_andT, ap_andV, ap_asg, ap_call, ap_cb, ap_cmeth, ap_cmethK, ap_cons, ap_dGet, ap_dIn, ap_dc, ap_drop, ap_enum, ap_eqRef, ap_extend, ap_fld, ap_fldM, ap_for, ap_gV, ap_if, ap_ifS, ap_isi, ap_it, ap_kget, ap_lc, ap_lc2, ap_lst, ap_lstL, ap_make, ap_makeK, ap_makeL, ap_meth, ap_methK, ap_moInt, ap_moNo, ap_next, ap_nil, ap_notT, ap_notV, ap_orT, ap_ownEq, ap_ownIn, ap_par, ap_prop, ap_put, ap_ret, ap_seq, ap_set, ap_sl, ap_strO, ap_tru, ap_tst, ap_tup, ap_tupOf, ap_yes, ap_zip, bnd_some, List.getElem?_cons_zero, List.getElem?_cons_succ, List.set_cons_zero, List.set_cons_succ, List.map_cons, List.map_nil, List.cons_append, List.nil_append, List.replicate_succ, List.replicate_zero, if_true, if_false, Bool.false_eq_true, reduceIte, List.length_cons, List.length_nil, sz_is, Nat.reduceAdd, lz0, lz1, lz2, lz3, lz4, lz5, lz6, lz7, lz8, lz9, lz10, lz11, lz12, lz13, lz14, lz15, Nat.zero_add, itemsOf, eq_self, Bool.not_true, Bool.not_false, Bool.true_and, Bool.and_true, true_and, and_true, decide_true, decide_false, wipeE, asQ, fTupOf]
    rw [fin_clean o (by rw [clean]; exact cl_strs _)]
  · rintro pre x post ev1 S1 e ⟨⟨a, b, c, d, rfl⟩, rfl⟩
    have fp : Fits (wholeOf (pre ++ [x])) := f.pre (post := wholeOf post) (by rw [e, ← whole_app, List.append_assoc]; rfl)
    rw [whole_app] at fp
    have e5 : setsOf (wholeOf (pre ++ [x])) = sets1 (setsOf (wholeOf pre)) (cutS "012" none (some x)) := by
      rw [whole_app]
      exact setsOf_snoc _ _
    have l1 := setsOf_len fp
    have l2 := fp.many
    rw [List.length_append] at l2
    rw [← whole_app, e5] at l1
    obtain ⟨b', c', h2⟩ := r_in (S := S1) (MI := mIt (mSl (mC (.str "012")) moNo (moInt (mV 2)))) (p := Dv.tup (ns.map .int)) (d := .non) (x2 := .int x) (R := setsOf (wholeOf pre)) (x := cutS "012" none (some x)) (n := 0) (fun _ _ _ => by simp only [ap_2, ap_C, ap_V, ap_andT, ap_andV, ap_asg, ap_call, ap_cb, ap_cmeth, ap_cmethK, ap_cons, ap_dGet, ap_dIn, ap_dc, ap_drop, ap_enum, ap_eqRef, ap_extend, ap_fld, ap_fldM, ap_for, ap_gV, ap_if, ap_ifS, ap_isi, ap_it, ap_kget, ap_lc, ap_lc2, ap_lst, ap_lstL, ap_make, ap_makeK, ap_makeL, ap_meth, ap_methK, ap_moInt, ap_moNo, ap_next, ap_nil, ap_notT, ap_notV, ap_orT, ap_ownEq, ap_ownIn, ap_par, ap_prop, ap_put, ap_ret, ap_seq, ap_set, ap_sl, ap_strO, ap_tru, ap_tst, ap_tup, ap_tupOf, ap_yes, ap_zip, bnd_some, List.getElem?_cons_zero, List.getElem?_cons_succ, List.set_cons_zero, List.set_cons_succ, List.map_cons, List.map_nil, List.cons_append, List.nil_append, List.replicate_succ, List.replicate_zero, if_true, if_false, Bool.false_eq_true, reduceIte, List.length_cons, List.length_nil, sz_is, Nat.reduceAdd, lz0, lz1, lz2, lz3, lz4, lz5, lz6, lz7, lz8, lz9, lz10, lz11, lz12, lz13, lz14, lz15, Nat.zero_add, itemsOf, eq_self, Bool.not_true, Bool.not_false, Bool.true_and, Bool.and_true, true_and, and_true, decide_true, decide_false, wipeE, asQ, fTupOf, sl_012]) (by omega) (fun s hs => by have := setsOf_each s hs; omega) (fp.each _ (List.mem_append_right _ (.head _))) (a := none) (b := c) (c := d)
    refine ⟨_, [some (Dv.tup (ns.map .int)), some (.lst ((setsOf (wholeOf (pre ++ [x]))).map .str)), some (.int x), some (.lst ((setsOf (wholeOf (pre ++ [x]))).map .str)), b', c'], S1, ap_gV, ?_, ⟨_, _, _, _, rfl⟩, rfl⟩
    rw [e5]
    simp only [ap_2, ap_C, ap_V, ap_andT, ap_andV, ap_asg, ap_call, ap_cb, ap_cmeth, ap_cmethK, ap_cons, ap_dGet, ap_dIn, ap_dc, ap_drop, ap_enum, ap_eqRef, ap_extend, ap_fld, ap_fldM, ap_for, ap_gV, ap_if, ap_ifS, ap_isi, ap_it, ap_kget, ap_lc, ap_lc2, ap_lst, ap_lstL, ap_make, ap_makeK, ap_makeL, ap_meth, ap_methK, ap_moInt, ap_moNo, ap_next, ap_nil, ap_notT, ap_notV, ap_orT, ap_ownEq, ap_ownIn, ap_par, ap_prop, ap_put, ap_ret, ap_seq, ap_set, ap_sl, ap_strO, ap_tru, ap_tst, ap_tup, ap_tupOf, ap_yes, ap_zip, bnd_some, List.getElem?_cons_zero, List.getElem?_cons_succ, List.set_cons_zero, List.set_cons_succ, List.map_cons, List.map_nil, List.cons_append, List.nil_append, List.replicate_succ, List.replicate_zero, if_true, if_false, Bool.false_eq_true, reduceIte, List.length_cons, List.length_nil, sz_is, Nat.reduceAdd, lz0, lz1, lz2, lz3, lz4, lz5, lz6, lz7, lz8, lz9, lz10, lz11, lz12, lz13, lz14, lz15, Nat.zero_add, itemsOf, eq_self, Bool.not_true, Bool.not_false, Bool.true_and, Bool.and_true, true_and, and_true, decide_true, decide_false, wipeE, asQ, fTupOf, h2]
/-- the places at which two texts differ -/
theorem r_apart {S : Sto} {ev : Ev} {i j v : Nat} {s z : Str} {n : Nat} (hi : ev[i]? = some (some (.str s))) (hj : ev[j]? = some (some (.str z))) (iv : v ≠ i) (jv : v ≠ j) (hv : v < ev.length) (hs : okT s = true) (hz : okT z = true) (ls : s.length = n) (lz : z.length = n) (h : n ≤ 1000000) :
    lcGo (gV v) (mTst (m2 fNe (m2 fIx (mV i) (mV v)) (m2 fIx (mV j) (mV v)))) (mV v) ev ((List.range n).map fun (k : Nat) => Dv.int (k : Int)) S = some ((apartOf s z n).map fun (k : Nat) => Dv.int (k : Int), S) := by
  unfold apartOf
  refine lcGo_map (f := fun (k : Nat) => Dv.int (k : Int)) (e1 := fun k => ev.set v (some (.int (k : Nat)))) (p := fun k => !decide (ch s k = ch z k)) (h := fun (k : Nat) => Dv.int (k : Int)) _ fun k hk => ⟨rfl, ?_, fun _ => ?_⟩
  · have hk := List.mem_range.mp hk
    have e1 : (ev.set v (some (.int (k : Nat))))[i]? = some (some (.str s)) := by rw [List.getElem?_set_ne iv, hi]
    have e2 : (ev.set v (some (.int (k : Nat))))[j]? = some (some (.str z)) := by rw [List.getElem?_set_ne jv, hj]
    have e3 : (ev.set v (some (.int (k : Nat))))[v]? = some (some (.int (k : Nat))) := by rw [List.getElem?_set_self hv]
    simp only [ap_2, ap_C, ap_V, ap_andT, ap_andV, ap_asg, ap_call, ap_cb, ap_cmeth, ap_cmethK, ap_cons, ap_dGet, ap_dIn, ap_dc, ap_drop, ap_enum, ap_eqRef, ap_extend, ap_fld, ap_fldM, ap_for, ap_gV, ap_if, ap_ifS, ap_isi, ap_it, ap_kget, ap_lc, ap_lc2, ap_lst, ap_lstL, ap_make, ap_makeK, ap_makeL, ap_meth, ap_methK, ap_moInt, ap_moNo, ap_next, ap_nil, ap_notT, ap_notV, ap_orT, ap_ownEq, ap_ownIn, ap_par, ap_prop, ap_put, ap_ret, ap_seq, ap_set, ap_sl, ap_strO, ap_tru, ap_tst, ap_tup, ap_tupOf, ap_yes, ap_zip, bnd_some, List.getElem?_cons_zero, List.getElem?_cons_succ, List.set_cons_zero, List.set_cons_succ, List.map_cons, List.map_nil, List.cons_append, List.nil_append, List.replicate_succ, List.replicate_zero, if_true, if_false, Bool.false_eq_true, reduceIte, List.length_cons, List.length_nil, sz_is, Nat.reduceAdd, lz0, lz1, lz2, lz3, lz4, lz5, lz6, lz7, lz8, lz9, lz10, lz11, lz12, lz13, lz14, lz15, Nat.zero_add, itemsOf, eq_self, Bool.not_true, Bool.not_false, Bool.true_and, Bool.and_true, true_and, and_true, decide_true, decide_false, wipeE, asQ, fTupOf, e1, e2, e3, ix_str (S := S) (a := s) (k := k) (by omega) (by omega), ix_str (S := S) (a := z) (k := k) (by omega) (by omega), ne_str]
  · have e3 : (ev.set v (some (.int (k : Nat))))[v]? = some (some (.int (k : Nat))) := by rw [List.getElem?_set_self hv]
    simp only [ap_2, ap_C, ap_V, ap_andT, ap_andV, ap_asg, ap_call, ap_cb, ap_cmeth, ap_cmethK, ap_cons, ap_dGet, ap_dIn, ap_dc, ap_drop, ap_enum, ap_eqRef, ap_extend, ap_fld, ap_fldM, ap_for, ap_gV, ap_if, ap_ifS, ap_isi, ap_it, ap_kget, ap_lc, ap_lc2, ap_lst, ap_lstL, ap_make, ap_makeK, ap_makeL, ap_meth, ap_methK, ap_moInt, ap_moNo, ap_next, ap_nil, ap_notT, ap_notV, ap_orT, ap_ownEq, ap_ownIn, ap_par, ap_prop, ap_put, ap_ret, ap_seq, ap_set, ap_sl, ap_strO, ap_tru, ap_tst, ap_tup, ap_tupOf, ap_yes, ap_zip, bnd_some, List.getElem?_cons_zero, List.getElem?_cons_succ, List.set_cons_zero, List.set_cons_succ, List.map_cons, List.map_nil, List.cons_append, List.nil_append, List.replicate_succ, List.replicate_zero, if_true, if_false, Bool.false_eq_true, reduceIte, List.length_cons, List.length_nil, sz_is, Nat.reduceAdd, lz0, lz1, lz2, lz3, lz4, lz5, lz6, lz7, lz8, lz9, lz10, lz11, lz12, lz13, lz14, lz15, Nat.zero_add, itemsOf, eq_self, Bool.not_true, Bool.not_false, Bool.true_and, Bool.and_true, true_and, and_true, decide_true, decide_false, wipeE, asQ, fTupOf, e3]
/-- the text of a board -/
def txt (ns : List Int) : Str := Txt.join "" (ns.map fun n => Str.ofString (toString n))
/-- the boards that are let -/
structure Brd (ns : List Int) : Prop where
  fit : Fits (wholeOf ns)
  ok : ∀ z ∈ wholeOf ns, okT z = true
  two : ∀ n ∈ ns, n = 2 ∨ n = 3
  some_ : ns ≠ []
  tx : okT (txt ns) = true ∧ (txt ns).length ≤ 5
  ct : chars (txt ns) = ns.map fun n => Str.ofString (toString n)
  no3 : repS "3" ns.length ∉ setsOf (wholeOf ns)
  nd : (setsOf (wholeOf ns)).Nodup
  fws : ∀ S : Sto, OkS S → F_first_wrong_size [.tup (ns.map .int)] S = some (.non, S)
  pos : 0 < (setsOf (wholeOf ns)).length
  nbr : ∀ z ∈ setsOf (wholeOf ns), isortS (nbrN z (wholeOf ns) (wholeOf ns).length) = nearOf (setsOf (wholeOf ns)) z ns.length
theorem Brd.few {ns : List Int} (b : Brd ns) : ns.length ≤ 5 := by
  have := b.fit.many
  unfold wholeOf at this
  rw [List.length_map] at this
  exact this
theorem Brd.len {ns : List Int} (b : Brd ns) {z : Str} (h : z ∈ setsOf (wholeOf ns)) : z.length = ns.length := by
  rw [setsOf_each z h]
  unfold wholeOf
  rw [List.length_map]
theorem Brd.okT {ns : List Int} (b : Brd ns) {z : Str} (h : z ∈ setsOf (wholeOf ns)) : okT z = true :=
  okT_sets (zs := []) _ [""] b.ok (fun s hs => by rw [List.mem_singleton.mp hs]; decide +kernel) z h
theorem r_near {S : Sto} {ns : List Int} {z : Str} (o : OkS S) (b : Brd ns) (hz : z ∈ setsOf (wholeOf ns)) : F__law_near [.tup (ns.map .int), .str z] S = some (.lst ((nearOf (setsOf (wholeOf ns)) z ns.length).map .str), S) := by
  have few := setsOf_len b.fit
  have n5 := b.few
  have zl := b.len hz
  have zo := b.okT hz
  unfold F__law_near mDef
  simp only [ap_2, ap_C, ap_V, ap_andT, ap_andV, ap_asg, ap_call, ap_cb, ap_cmeth, ap_cmethK, ap_cons, ap_dGet, ap_dIn, ap_dc, ap_drop, ap_enum, ap_eqRef, ap_extend, ap_fld, ap_fldM, ap_for, ap_gV, ap_if, ap_ifS, ap_isi, ap_it, ap_kget, ap_lc, ap_lc2, ap_lst, ap_lstL, ap_make, ap_makeK, ap_makeL, ap_meth, ap_methK, ap_moInt, ap_moNo, ap_next, ap_nil, ap_notT, ap_notV, ap_orT, ap_ownEq, ap_ownIn, ap_par, ap_prop, ap_put, ap_ret, ap_seq, ap_set, ap_sl, ap_strO, ap_tru, ap_tst, ap_tup, ap_tupOf, ap_yes, ap_zip, bnd_some, List.getElem?_cons_zero, List.getElem?_cons_succ, List.set_cons_zero, List.set_cons_succ, List.map_cons, List.map_nil, List.cons_append, List.nil_append, List.replicate_succ, List.replicate_zero, if_true, if_false, Bool.false_eq_true, reduceIte, List.length_cons, List.length_nil, sz_is, Nat.reduceAdd, lz0, lz1, lz2, lz3, lz4, lz5, lz6, lz7, lz8, lz9, lz10, lz11, lz12, lz13, lz14, lz15, Nat.zero_add, itemsOf, eq_self, Bool.not_true, Bool.not_false, Bool.true_and, Bool.and_true, true_and, and_true, decide_true, decide_false, wipeE, asQ, fTupOf, r_all o b.fit]
  rw [lcGo_map (f := Dv.str) (e1 := fun s => [some (.tup (ns.map .int)), some (.str z), none, some (.str s), none]) (p := fun s => decide (((s.length : Nat) : Int) = ((z.length : Nat) : Int))) (h := Dv.str)]
  rotate_left
  · intro s hs
    have sl := b.len hs
    refine ⟨rfl, ?_, fun _ => rfl⟩
    simp only [ap_2, ap_C, ap_V, ap_andT, ap_andV, ap_asg, ap_call, ap_cb, ap_cmeth, ap_cmethK, ap_cons, ap_dGet, ap_dIn, ap_dc, ap_drop, ap_enum, ap_eqRef, ap_extend, ap_fld, ap_fldM, ap_for, ap_gV, ap_if, ap_ifS, ap_isi, ap_it, ap_kget, ap_lc, ap_lc2, ap_lst, ap_lstL, ap_make, ap_makeK, ap_makeL, ap_meth, ap_methK, ap_moInt, ap_moNo, ap_next, ap_nil, ap_notT, ap_notV, ap_orT, ap_ownEq, ap_ownIn, ap_par, ap_prop, ap_put, ap_ret, ap_seq, ap_set, ap_sl, ap_strO, ap_tru, ap_tst, ap_tup, ap_tupOf, ap_yes, ap_zip, bnd_some, List.getElem?_cons_zero, List.getElem?_cons_succ, List.set_cons_zero, List.set_cons_succ, List.map_cons, List.map_nil, List.cons_append, List.nil_append, List.replicate_succ, List.replicate_zero, if_true, if_false, Bool.false_eq_true, reduceIte, List.length_cons, List.length_nil, sz_is, Nat.reduceAdd, lz0, lz1, lz2, lz3, lz4, lz5, lz6, lz7, lz8, lz9, lz10, lz11, lz12, lz13, lz14, lz15, Nat.zero_add, itemsOf, eq_self, Bool.not_true, Bool.not_false, Bool.true_and, Bool.and_true, true_and, and_true, decide_true, decide_false, wipeE, asQ, fTupOf, len_str (S := S) (a := s) (by omega), len_str (S := S) (a := z) (by omega), eq_int]
  have e1 : (setsOf (wholeOf ns)).filter (fun s => decide (((s.length : Nat) : Int) = ((z.length : Nat) : Int))) = setsOf (wholeOf ns) := List.filter_eq_self.mpr fun s hs => by
    rw [b.len hs, zl]
    exact decide_eq_true rfl
  rw [e1, bnd_some, bnd_if (by rw [List.length_map]; omega)]
  simp only [ap_2, ap_C, ap_V, ap_andT, ap_andV, ap_asg, ap_call, ap_cb, ap_cmeth, ap_cmethK, ap_cons, ap_dGet, ap_dIn, ap_dc, ap_drop, ap_enum, ap_eqRef, ap_extend, ap_fld, ap_fldM, ap_for, ap_gV, ap_if, ap_ifS, ap_isi, ap_it, ap_kget, ap_lc, ap_lc2, ap_lst, ap_lstL, ap_make, ap_makeK, ap_makeL, ap_meth, ap_methK, ap_moInt, ap_moNo, ap_next, ap_nil, ap_notT, ap_notV, ap_orT, ap_ownEq, ap_ownIn, ap_par, ap_prop, ap_put, ap_ret, ap_seq, ap_set, ap_sl, ap_strO, ap_tru, ap_tst, ap_tup, ap_tupOf, ap_yes, ap_zip, bnd_some, List.getElem?_cons_zero, List.getElem?_cons_succ, List.set_cons_zero, List.set_cons_succ, List.map_cons, List.map_nil, List.cons_append, List.nil_append, List.replicate_succ, List.replicate_zero, if_true, if_false, Bool.false_eq_true, reduceIte, List.length_cons, List.length_nil, sz_is, Nat.reduceAdd, lz0, lz1, lz2, lz3, lz4, lz5, lz6, lz7, lz8, lz9, lz10, lz11, lz12, lz13, lz14, lz15, Nat.zero_add, itemsOf, eq_self, Bool.not_true, Bool.not_false, Bool.true_and, Bool.and_true, true_and, and_true, decide_true, decide_false, wipeE, asQ, fTupOf]
  rw [lcGo_map (f := Dv.str) (e1 := fun s => [some (.tup (ns.map .int)), some (.str z), some (.lst ((setsOf (wholeOf ns)).map .str)), some (.str s), none]) (p := fun s => decide ((apartOf s z ns.length).length = 1)) (h := Dv.str)]
  · have e2 : ((setsOf (wholeOf ns)).filter fun s => decide ((apartOf s z ns.length).length = 1)) = nearOf (setsOf (wholeOf ns)) z ns.length := rfl
    have l2 : (nearOf (setsOf (wholeOf ns)) z ns.length).length ≤ 243 := Nat.le_trans (List.length_filter_le _ _) few
    rw [e2, bnd_some, bnd_if (by rw [List.length_map]; omega)]
    simp only [ap_2, ap_C, ap_V, ap_andT, ap_andV, ap_asg, ap_call, ap_cb, ap_cmeth, ap_cmethK, ap_cons, ap_dGet, ap_dIn, ap_dc, ap_drop, ap_enum, ap_eqRef, ap_extend, ap_fld, ap_fldM, ap_for, ap_gV, ap_if, ap_ifS, ap_isi, ap_it, ap_kget, ap_lc, ap_lc2, ap_lst, ap_lstL, ap_make, ap_makeK, ap_makeL, ap_meth, ap_methK, ap_moInt, ap_moNo, ap_next, ap_nil, ap_notT, ap_notV, ap_orT, ap_ownEq, ap_ownIn, ap_par, ap_prop, ap_put, ap_ret, ap_seq, ap_set, ap_sl, ap_strO, ap_tru, ap_tst, ap_tup, ap_tupOf, ap_yes, ap_zip, bnd_some, List.getElem?_cons_zero, List.getElem?_cons_succ, List.set_cons_zero, List.set_cons_succ, List.map_cons, List.map_nil, List.cons_append, List.nil_append, List.replicate_succ, List.replicate_zero, if_true, if_false, Bool.false_eq_true, reduceIte, List.length_cons, List.length_nil, sz_is, Nat.reduceAdd, lz0, lz1, lz2, lz3, lz4, lz5, lz6, lz7, lz8, lz9, lz10, lz11, lz12, lz13, lz14, lz15, Nat.zero_add, itemsOf, eq_self, Bool.not_true, Bool.not_false, Bool.true_and, Bool.and_true, true_and, and_true, decide_true, decide_false, wipeE, asQ, fTupOf]
    rw [fin_clean o (by rw [clean]; exact cl_strs _)]
  · intro s hs
    have sl := b.len hs
    have so := b.okT hs
    refine ⟨rfl, ?_, fun _ => rfl⟩
    simp only [ap_2, ap_C, ap_V, ap_andT, ap_andV, ap_asg, ap_call, ap_cb, ap_cmeth, ap_cmethK, ap_cons, ap_dGet, ap_dIn, ap_dc, ap_drop, ap_enum, ap_eqRef, ap_extend, ap_fld, ap_fldM, ap_for, ap_gV, ap_if, ap_ifS, ap_isi, ap_it, ap_kget, ap_lc, ap_lc2, ap_lst, ap_lstL, ap_make, ap_makeK, ap_makeL, ap_meth, ap_methK, ap_moInt, ap_moNo, ap_next, ap_nil, ap_notT, ap_notV, ap_orT, ap_ownEq, ap_ownIn, ap_par, ap_prop, ap_put, ap_ret, ap_seq, ap_set, ap_sl, ap_strO, ap_tru, ap_tst, ap_tup, ap_tupOf, ap_yes, ap_zip, bnd_some, List.getElem?_cons_zero, List.getElem?_cons_succ, List.set_cons_zero, List.set_cons_succ, List.map_cons, List.map_nil, List.cons_append, List.nil_append, List.replicate_succ, List.replicate_zero, if_true, if_false, Bool.false_eq_true, reduceIte, List.length_cons, List.length_nil, sz_is, Nat.reduceAdd, lz0, lz1, lz2, lz3, lz4, lz5, lz6, lz7, lz8, lz9, lz10, lz11, lz12, lz13, lz14, lz15, Nat.zero_add, itemsOf, eq_self, Bool.not_true, Bool.not_false, Bool.true_and, Bool.and_true, true_and, and_true, decide_true, decide_false, wipeE, asQ, fTupOf, len_str (S := S) (a := z) (by omega), rng1_at (S := S) (n := z.length) (by omega)]
    rw [zl, r_apart (s := s) (z := z) rfl rfl (by decide) (by decide) (by simp) so zo sl zl (by omega), bnd_some, bnd_if (by
      have := List.length_filter_le (fun k => !decide (ch s k = ch z k)) (List.range ns.length)
      rw [List.length_range] at this
      rw [List.length_map]
      unfold apartOf
      omega)]
    simp only [ap_2, ap_C, ap_V, ap_andT, ap_andV, ap_asg, ap_call, ap_cb, ap_cmeth, ap_cmethK, ap_cons, ap_dGet, ap_dIn, ap_dc, ap_drop, ap_enum, ap_eqRef, ap_extend, ap_fld, ap_fldM, ap_for, ap_gV, ap_if, ap_ifS, ap_isi, ap_it, ap_kget, ap_lc, ap_lc2, ap_lst, ap_lstL, ap_make, ap_makeK, ap_makeL, ap_meth, ap_methK, ap_moInt, ap_moNo, ap_next, ap_nil, ap_notT, ap_notV, ap_orT, ap_ownEq, ap_ownIn, ap_par, ap_prop, ap_put, ap_ret, ap_seq, ap_set, ap_sl, ap_strO, ap_tru, ap_tst, ap_tup, ap_tupOf, ap_yes, ap_zip, bnd_some, List.getElem?_cons_zero, List.getElem?_cons_succ, List.set_cons_zero, List.set_cons_succ, List.map_cons, List.map_nil, List.cons_append, List.nil_append, List.replicate_succ, List.replicate_zero, if_true, if_false, Bool.false_eq_true, reduceIte, List.length_cons, List.length_nil, sz_is, Nat.reduceAdd, lz0, lz1, lz2, lz3, lz4, lz5, lz6, lz7, lz8, lz9, lz10, lz11, lz12, lz13, lz14, lz15, Nat.zero_add, itemsOf, eq_self, Bool.not_true, Bool.not_false, Bool.true_and, Bool.and_true, true_and, and_true, decide_true, decide_false, wipeE, asQ, fTupOf, len_lst, List.length_map, eq_int]
    congr 2
    rw [decide_eq_decide]
    omega
end Mi

set_option Elab.async false
set_option linter.all false
set_option maxRecDepth 100000
set_option maxHeartbeats 400000
namespace Mi
open PySem PySem.Spec PyProof.Rows L2 Sw
def St (ns : List Int) : List Str := setsOf (wholeOf ns)
def Nr (ns : List Int) (z : Str) : List Str := nearOf (St ns) z ns.length
def besD (ns : List Int) : List (Key × Dv) := (St ns).map fun z => (.inr z, .tup ((Nr ns z).map .str))
def fsB (ns : List Int) : List (Str × Dv) := [("_sizes", .tup (ns.map .int)), ("_whole", .tup ((wholeOf ns).map .str)), ("_settings", .tup ((St ns).map .str)), ("_beside", .dic (besD ns))]
def boardD (ns : List Int) : Dv := .obj "Board" (fsB ns)
section
variable {S : Sto} {ev : Ev} {ns : List Int}
theorem b_asO : asO S (boardD ns) = some (Str.ofString "Board", fsB ns) := rfl
theorem b_cls : classes.contains (Str.ofString "Board") = true := by decide +kernel
theorem b_ty : tyD S (boardD ns) = some (.own (Str.ofString "Board")) := rfl
theorem b_sizes : lookD (fsB ns) (Str.ofString "_sizes") = some (.tup (ns.map .int)) := by kernel_rfl
theorem b_whole : lookD (fsB ns) (Str.ofString "_whole") = some (.tup ((wholeOf ns).map .str)) := by kernel_rfl
theorem b_settings : lookD (fsB ns) (Str.ofString "_settings") = some (.tup ((St ns).map .str)) := by kernel_rfl
theorem b_beside : lookD (fsB ns) (Str.ofString "_beside") = some (.dic (besD ns)) := by kernel_rfl
theorem cl_bes : cleanK (besD ns) = true := by
  rw [cleanK_map]
  unfold besD
  rw [List.map_map]
  exact cl_of _ fun z _ => by
    show clean (.tup ((Nr ns z).map .str)) = true
    rw [clean]
    exact cl_strs _
theorem cl_board : clean (boardD ns) = true := by
  unfold boardD fsB
  simp [clean, cleanF, cl_strs, cl_ints, cl_bes]
theorem r_whole (o : OkS S) : F_Board_whole [boardD ns] S = some (.tup ((wholeOf ns).map .str), S) := by
  unfold F_Board_whole mDef
  simp only [ap_2, ap_C, ap_V, ap_andT, ap_andV, ap_asg, ap_call, ap_cb, ap_cmeth, ap_cmethK, ap_cons, ap_dGet, ap_dIn, ap_dc, ap_drop, ap_enum, ap_eqRef, ap_extend, ap_fld, ap_fldM, ap_for, ap_gV, ap_if, ap_ifS, ap_isi, ap_it, ap_kget, ap_lc, ap_lc2, ap_lst, ap_lstL, ap_make, ap_makeK, ap_makeL, ap_meth, ap_methK, ap_moInt, ap_moNo, ap_next, ap_nil, ap_notT, ap_notV, ap_orT, ap_ownEq, ap_ownIn, ap_par, ap_prop, ap_put, ap_ret, ap_seq, ap_set, ap_sl, ap_strO, ap_tru, ap_tst, ap_tup, ap_tupOf, ap_yes, ap_zip, bnd_some, List.getElem?_cons_zero, List.getElem?_cons_succ, List.set_cons_zero, List.set_cons_succ, List.map_cons, List.map_nil, List.cons_append, List.nil_append, List.replicate_succ, List.replicate_zero, if_true, if_false, Bool.false_eq_true, reduceIte, List.length_cons, List.length_nil, sz_is, Nat.reduceAdd, lz0, lz1, lz2, lz3, lz4, lz5, lz6, lz7, lz8, lz9, lz10, lz11, lz12, lz13, lz14, lz15, Nat.zero_add, itemsOf, eq_self, Bool.not_true, Bool.not_false, Bool.true_and, Bool.and_true, true_and, and_true, decide_true, decide_false, wipeE, asQ, fTupOf, tru_bl, t_str, t_int, t_tup, i_ss, i_ii, i_tt, len_tup, len_lst, eq_int, ne_int, eq_str, ne_str, d_dic, k_str, k_int, List.length_map, ib_b, b_asO, b_cls, b_ty, b_sizes, b_whole, b_settings, b_beside]
  rw [fin_clean o (by rw [clean]; exact cl_strs _)]
theorem r_len (o : OkS S) : F_Board___len__ [boardD ns] S = some (.int ((St ns).length : Nat), S) := by
  unfold F_Board___len__ mDef
  simp only [ap_2, ap_C, ap_V, ap_andT, ap_andV, ap_asg, ap_call, ap_cb, ap_cmeth, ap_cmethK, ap_cons, ap_dGet, ap_dIn, ap_dc, ap_drop, ap_enum, ap_eqRef, ap_extend, ap_fld, ap_fldM, ap_for, ap_gV, ap_if, ap_ifS, ap_isi, ap_it, ap_kget, ap_lc, ap_lc2, ap_lst, ap_lstL, ap_make, ap_makeK, ap_makeL, ap_meth, ap_methK, ap_moInt, ap_moNo, ap_next, ap_nil, ap_notT, ap_notV, ap_orT, ap_ownEq, ap_ownIn, ap_par, ap_prop, ap_put, ap_ret, ap_seq, ap_set, ap_sl, ap_strO, ap_tru, ap_tst, ap_tup, ap_tupOf, ap_yes, ap_zip, bnd_some, List.getElem?_cons_zero, List.getElem?_cons_succ, List.set_cons_zero, List.set_cons_succ, List.map_cons, List.map_nil, List.cons_append, List.nil_append, List.replicate_succ, List.replicate_zero, if_true, if_false, Bool.false_eq_true, reduceIte, List.length_cons, List.length_nil, sz_is, Nat.reduceAdd, lz0, lz1, lz2, lz3, lz4, lz5, lz6, lz7, lz8, lz9, lz10, lz11, lz12, lz13, lz14, lz15, Nat.zero_add, itemsOf, eq_self, Bool.not_true, Bool.not_false, Bool.true_and, Bool.and_true, true_and, and_true, decide_true, decide_false, wipeE, asQ, fTupOf, tru_bl, t_str, t_int, t_tup, i_ss, i_ii, i_tt, len_tup, len_lst, eq_int, ne_int, eq_str, ne_str, d_dic, k_str, k_int, List.length_map, ib_b, b_asO, b_cls, b_ty, b_sizes, b_whole, b_settings, b_beside, len_tup, List.length_map]
  rw [fin_clean o c_int]
theorem r_full (o : OkS S) (h : ns.length ≤ 1000) : F__law_full [.tup (ns.map .int)] S = some (.tup ((wholeOf ns).map .str), S) := by
  unfold F__law_full mDef
  simp only [ap_2, ap_C, ap_V, ap_andT, ap_andV, ap_asg, ap_call, ap_cb, ap_cmeth, ap_cmethK, ap_cons, ap_dGet, ap_dIn, ap_dc, ap_drop, ap_enum, ap_eqRef, ap_extend, ap_fld, ap_fldM, ap_for, ap_gV, ap_if, ap_ifS, ap_isi, ap_it, ap_kget, ap_lc, ap_lc2, ap_lst, ap_lstL, ap_make, ap_makeK, ap_makeL, ap_meth, ap_methK, ap_moInt, ap_moNo, ap_next, ap_nil, ap_notT, ap_notV, ap_orT, ap_ownEq, ap_ownIn, ap_par, ap_prop, ap_put, ap_ret, ap_seq, ap_set, ap_sl, ap_strO, ap_tru, ap_tst, ap_tup, ap_tupOf, ap_yes, ap_zip, bnd_some, List.getElem?_cons_zero, List.getElem?_cons_succ, List.set_cons_zero, List.set_cons_succ, List.map_cons, List.map_nil, List.cons_append, List.nil_append, List.replicate_succ, List.replicate_zero, if_true, if_false, Bool.false_eq_true, reduceIte, List.length_cons, List.length_nil, sz_is, Nat.reduceAdd, lz0, lz1, lz2, lz3, lz4, lz5, lz6, lz7, lz8, lz9, lz10, lz11, lz12, lz13, lz14, lz15, Nat.zero_add, itemsOf, eq_self, Bool.not_true, Bool.not_false, Bool.true_and, Bool.and_true, true_and, and_true, decide_true, decide_false, wipeE, asQ, fTupOf, tru_bl, t_str, t_int, t_tup, i_ss, i_ii, i_tt, len_tup, len_lst, eq_int, ne_int, eq_str, ne_str, d_dic, k_str, k_int, List.length_map, ib_b, b_asO, b_cls, b_ty, b_sizes, b_whole, b_settings, b_beside]
  rw [lcGo_all (f := Dv.int) (e1 := fun n => [some (.tup (ns.map .int)), some (.int n)]) (h := fun n => Dv.str (cutS "012" none (some n)))]
  · have e : ns.map (fun n => Dv.str (cutS "012" none (some n))) = (wholeOf ns).map .str := by
      unfold wholeOf
      rw [List.map_map]
      rfl
    rw [e, bnd_some, bnd_if (by unfold wholeOf; rw [List.length_map, List.length_map]; omega)]
    simp only [ap_2, ap_C, ap_V, ap_andT, ap_andV, ap_asg, ap_call, ap_cb, ap_cmeth, ap_cmethK, ap_cons, ap_dGet, ap_dIn, ap_dc, ap_drop, ap_enum, ap_eqRef, ap_extend, ap_fld, ap_fldM, ap_for, ap_gV, ap_if, ap_ifS, ap_isi, ap_it, ap_kget, ap_lc, ap_lc2, ap_lst, ap_lstL, ap_make, ap_makeK, ap_makeL, ap_meth, ap_methK, ap_moInt, ap_moNo, ap_next, ap_nil, ap_notT, ap_notV, ap_orT, ap_ownEq, ap_ownIn, ap_par, ap_prop, ap_put, ap_ret, ap_seq, ap_set, ap_sl, ap_strO, ap_tru, ap_tst, ap_tup, ap_tupOf, ap_yes, ap_zip, bnd_some, List.getElem?_cons_zero, List.getElem?_cons_succ, List.set_cons_zero, List.set_cons_succ, List.map_cons, List.map_nil, List.cons_append, List.nil_append, List.replicate_succ, List.replicate_zero, if_true, if_false, Bool.false_eq_true, reduceIte, List.length_cons, List.length_nil, sz_is, Nat.reduceAdd, lz0, lz1, lz2, lz3, lz4, lz5, lz6, lz7, lz8, lz9, lz10, lz11, lz12, lz13, lz14, lz15, Nat.zero_add, itemsOf, eq_self, Bool.not_true, Bool.not_false, Bool.true_and, Bool.and_true, true_and, and_true, decide_true, decide_false, wipeE, asQ, fTupOf, tru_bl, t_str, t_int, t_tup, i_ss, i_ii, i_tt, len_tup, len_lst, eq_int, ne_int, eq_str, ne_str, d_dic, k_str, k_int, List.length_map, ib_b, b_asO, b_cls, b_ty, b_sizes, b_whole, b_settings, b_beside]
    rw [fin_clean o (by rw [clean]; exact cl_strs _)]
  · exact fun n _ => ⟨rfl, rfl, by simp only [ap_2, ap_C, ap_V, ap_andT, ap_andV, ap_asg, ap_call, ap_cb, ap_cmeth, ap_cmethK, ap_cons, ap_dGet, ap_dIn, ap_dc, ap_drop, ap_enum, ap_eqRef, ap_extend, ap_fld, ap_fldM, ap_for, ap_gV, ap_if, ap_ifS, ap_isi, ap_it, ap_kget, ap_lc, ap_lc2, ap_lst, ap_lstL, ap_make, ap_makeK, ap_makeL, ap_meth, ap_methK, ap_moInt, ap_moNo, ap_next, ap_nil, ap_notT, ap_notV, ap_orT, ap_ownEq, ap_ownIn, ap_par, ap_prop, ap_put, ap_ret, ap_seq, ap_set, ap_sl, ap_strO, ap_tru, ap_tst, ap_tup, ap_tupOf, ap_yes, ap_zip, bnd_some, List.getElem?_cons_zero, List.getElem?_cons_succ, List.set_cons_zero, List.set_cons_succ, List.map_cons, List.map_nil, List.cons_append, List.nil_append, List.replicate_succ, List.replicate_zero, if_true, if_false, Bool.false_eq_true, reduceIte, List.length_cons, List.length_nil, sz_is, Nat.reduceAdd, lz0, lz1, lz2, lz3, lz4, lz5, lz6, lz7, lz8, lz9, lz10, lz11, lz12, lz13, lz14, lz15, Nat.zero_add, itemsOf, eq_self, Bool.not_true, Bool.not_false, Bool.true_and, Bool.and_true, true_and, and_true, decide_true, decide_false, wipeE, asQ, fTupOf, tru_bl, t_str, t_int, t_tup, i_ss, i_ii, i_tt, len_tup, len_lst, eq_int, ne_int, eq_str, ne_str, d_dic, k_str, k_int, List.length_map, ib_b, b_asO, b_cls, b_ty, b_sizes, b_whole, b_settings, b_beside, sl_012]⟩
/-! ### what is in a board -/
theorem val_bes {z : Str} : ∀ (xs : List Str) (f : Str → Dv), valD (xs.map fun z => ((.inr z : Key), f z)) (.inr z) = if z ∈ xs then some (f z) else none
  | [], f => rfl
  | x :: xs, f => by
    have ih := val_bes (z := z) xs f
    unfold valD at ih ⊢
    rw [List.map_cons, List.find?_cons]
    by_cases h : x = z
    · subst h
      have : decide ((((.inr x : Key), f x).1) = (.inr x : Key)) = true := decide_eq_true rfl
      rw [this]
      simp
    · have : decide ((((.inr x : Key), f x).1) = (.inr z : Key)) = false := decide_eq_false fun e => h (by cases e; rfl)
      rw [this]
      simp only
      rw [ih]
      have h' : ¬ z = x := fun e => h e.symm
      simp [h']
theorem bes_val {z : Str} : valD (besD ns) (.inr z) = if z ∈ St ns then some (.tup ((Nr ns z).map .str)) else none := val_bes _ _
theorem r_has {z : Str} (o : OkS S) : F_Board___contains__ [boardD ns, .str z] S = some (.bl (decide (z ∈ St ns)), S) := by
  unfold F_Board___contains__ mDef
  simp only [ap_2, ap_C, ap_V, ap_andT, ap_andV, ap_asg, ap_call, ap_cb, ap_cmeth, ap_cmethK, ap_cons, ap_dGet, ap_dIn, ap_dc, ap_drop, ap_enum, ap_eqRef, ap_extend, ap_fld, ap_fldM, ap_for, ap_gV, ap_if, ap_ifS, ap_isi, ap_it, ap_kget, ap_lc, ap_lc2, ap_lst, ap_lstL, ap_make, ap_makeK, ap_makeL, ap_meth, ap_methK, ap_moInt, ap_moNo, ap_next, ap_nil, ap_notT, ap_notV, ap_orT, ap_ownEq, ap_ownIn, ap_par, ap_prop, ap_put, ap_ret, ap_seq, ap_set, ap_sl, ap_strO, ap_tru, ap_tst, ap_tup, ap_tupOf, ap_yes, ap_zip, bnd_some, List.getElem?_cons_zero, List.getElem?_cons_succ, List.set_cons_zero, List.set_cons_succ, List.map_cons, List.map_nil, List.cons_append, List.nil_append, List.replicate_succ, List.replicate_zero, if_true, if_false, Bool.false_eq_true, reduceIte, List.length_cons, List.length_nil, sz_is, Nat.reduceAdd, lz0, lz1, lz2, lz3, lz4, lz5, lz6, lz7, lz8, lz9, lz10, lz11, lz12, lz13, lz14, lz15, Nat.zero_add, itemsOf, eq_self, Bool.not_true, Bool.not_false, Bool.true_and, Bool.and_true, true_and, and_true, decide_true, decide_false, wipeE, asQ, fTupOf, tru_bl, t_str, t_int, t_tup, i_ss, i_ii, i_tt, len_tup, len_lst, eq_int, ne_int, eq_str, ne_str, d_dic, k_str, k_int, List.length_map, ib_b, b_asO, b_cls, b_ty, b_sizes, b_whole, b_settings, b_beside, t_str, i_ss, d_dic, k_str, bes_val]
  rw [fin_clean o c_bl]
  congr 2
  by_cases h : z ∈ St ns
  · rw [if_pos h, decide_eq_true h]
    rfl
  · rw [if_neg h, decide_eq_false h]
    rfl
theorem r_check {z : Str} (o : OkS S) (hz : z ∈ St ns) : F_check_setting [boardD ns, .str z] S = some (.non, S) := by
  unfold F_check_setting mDef
  simp only [ap_2, ap_C, ap_V, ap_andT, ap_andV, ap_asg, ap_call, ap_cb, ap_cmeth, ap_cmethK, ap_cons, ap_dGet, ap_dIn, ap_dc, ap_drop, ap_enum, ap_eqRef, ap_extend, ap_fld, ap_fldM, ap_for, ap_gV, ap_if, ap_ifS, ap_isi, ap_it, ap_kget, ap_lc, ap_lc2, ap_lst, ap_lstL, ap_make, ap_makeK, ap_makeL, ap_meth, ap_methK, ap_moInt, ap_moNo, ap_next, ap_nil, ap_notT, ap_notV, ap_orT, ap_ownEq, ap_ownIn, ap_par, ap_prop, ap_put, ap_ret, ap_seq, ap_set, ap_sl, ap_strO, ap_tru, ap_tst, ap_tup, ap_tupOf, ap_yes, ap_zip, bnd_some, List.getElem?_cons_zero, List.getElem?_cons_succ, List.set_cons_zero, List.set_cons_succ, List.map_cons, List.map_nil, List.cons_append, List.nil_append, List.replicate_succ, List.replicate_zero, if_true, if_false, Bool.false_eq_true, reduceIte, List.length_cons, List.length_nil, sz_is, Nat.reduceAdd, lz0, lz1, lz2, lz3, lz4, lz5, lz6, lz7, lz8, lz9, lz10, lz11, lz12, lz13, lz14, lz15, Nat.zero_add, itemsOf, eq_self, Bool.not_true, Bool.not_false, Bool.true_and, Bool.and_true, true_and, and_true, decide_true, decide_false, wipeE, asQ, fTupOf, tru_bl, t_str, t_int, t_tup, i_ss, i_ii, i_tt, len_tup, len_lst, eq_int, ne_int, eq_str, ne_str, d_dic, k_str, k_int, List.length_map, ib_b, b_asO, b_cls, b_ty, b_sizes, b_whole, b_settings, b_beside, r_has (S := S) o, hz]
  rw [fin_clean o c_non]
theorem r_beside {z : Str} (o : OkS S) (hz : z ∈ St ns) : F_Board_beside [boardD ns, .str z] S = some (.tup ((Nr ns z).map .str), S) := by
  unfold F_Board_beside mDef
  simp only [ap_2, ap_C, ap_V, ap_andT, ap_andV, ap_asg, ap_call, ap_cb, ap_cmeth, ap_cmethK, ap_cons, ap_dGet, ap_dIn, ap_dc, ap_drop, ap_enum, ap_eqRef, ap_extend, ap_fld, ap_fldM, ap_for, ap_gV, ap_if, ap_ifS, ap_isi, ap_it, ap_kget, ap_lc, ap_lc2, ap_lst, ap_lstL, ap_make, ap_makeK, ap_makeL, ap_meth, ap_methK, ap_moInt, ap_moNo, ap_next, ap_nil, ap_notT, ap_notV, ap_orT, ap_ownEq, ap_ownIn, ap_par, ap_prop, ap_put, ap_ret, ap_seq, ap_set, ap_sl, ap_strO, ap_tru, ap_tst, ap_tup, ap_tupOf, ap_yes, ap_zip, bnd_some, List.getElem?_cons_zero, List.getElem?_cons_succ, List.set_cons_zero, List.set_cons_succ, List.map_cons, List.map_nil, List.cons_append, List.nil_append, List.replicate_succ, List.replicate_zero, if_true, if_false, Bool.false_eq_true, reduceIte, List.length_cons, List.length_nil, sz_is, Nat.reduceAdd, lz0, lz1, lz2, lz3, lz4, lz5, lz6, lz7, lz8, lz9, lz10, lz11, lz12, lz13, lz14, lz15, Nat.zero_add, itemsOf, eq_self, Bool.not_true, Bool.not_false, Bool.true_and, Bool.and_true, true_and, and_true, decide_true, decide_false, wipeE, asQ, fTupOf, tru_bl, t_str, t_int, t_tup, i_ss, i_ii, i_tt, len_tup, len_lst, eq_int, ne_int, eq_str, ne_str, d_dic, k_str, k_int, List.length_map, ib_b, b_asO, b_cls, b_ty, b_sizes, b_whole, b_settings, b_beside, r_check (S := S) o hz, d_dic, k_str, bes_val, hz]
  rw [fin_clean o c_tups]
theorem stri {n : Int} (h : n = 2 ∨ n = 3) : fStrI S [.int n] = some (.str (Str.ofString (toString n))) := by
  rcases h with rfl | rfl <;> rfl
theorem dig_len {n : Int} (h : n = 2 ∨ n = 3) : (Str.ofString (toString n)).length = 1 := by
  rcases h with rfl | rfl <;> decide +kernel
theorem sum_one : ∀ xs : List Int, (∀ n ∈ xs, n = 2 ∨ n = 3) → ((xs.map fun n => Str.ofString (toString n)).map (·.length)).sum = xs.length
  | [], _ => rfl
  | n :: xs, h => by
    rw [List.map_cons, List.map_cons, List.sum_cons, sum_one xs fun m k => h m (.tail _ k), dig_len (h n (.head _)), List.length_cons, Nat.add_comm]
theorem e_len : (Str.ofString "").length = 0 := by decide +kernel
/-- the text of numbers, made anywhere -/
theorem r_txt {mi : MA} {i : Nat} (b : Brd ns) (h : mi ev S = some (ns.map .int, S)) (hi : i < ev.length) :
    mJoin (mC (.str "")) (maCons (mLc [i] mi (gV i) mYes (mCB fStrI (maCons (mV i) maNil))) maNil) ev S = some (.str (txt ns), S) := by
  have n5 := b.few
  simp only [ap_2, ap_C, ap_V, ap_andT, ap_andV, ap_asg, ap_call, ap_cb, ap_cmeth, ap_cmethK, ap_cons, ap_dGet, ap_dIn, ap_dc, ap_drop, ap_enum, ap_eqRef, ap_extend, ap_fld, ap_fldM, ap_for, ap_gV, ap_if, ap_ifS, ap_isi, ap_it, ap_kget, ap_lc, ap_lc2, ap_lst, ap_lstL, ap_make, ap_makeK, ap_makeL, ap_meth, ap_methK, ap_moInt, ap_moNo, ap_next, ap_nil, ap_notT, ap_notV, ap_orT, ap_ownEq, ap_ownIn, ap_par, ap_prop, ap_put, ap_ret, ap_seq, ap_set, ap_sl, ap_strO, ap_tru, ap_tst, ap_tup, ap_tupOf, ap_yes, ap_zip, bnd_some, List.getElem?_cons_zero, List.getElem?_cons_succ, List.set_cons_zero, List.set_cons_succ, List.map_cons, List.map_nil, List.cons_append, List.nil_append, List.replicate_succ, List.replicate_zero, if_true, if_false, Bool.false_eq_true, reduceIte, List.length_cons, List.length_nil, sz_is, Nat.reduceAdd, lz0, lz1, lz2, lz3, lz4, lz5, lz6, lz7, lz8, lz9, lz10, lz11, lz12, lz13, lz14, lz15, Nat.zero_add, itemsOf, eq_self, Bool.not_true, Bool.not_false, Bool.true_and, Bool.and_true, true_and, and_true, decide_true, decide_false, wipeE, asQ, fTupOf, ap_join, h]
  rw [lcGo_all (f := Dv.int) (e1 := fun n => (ev.set i none).set i (some (.int n))) (h := fun n => Dv.str (Str.ofString (toString n)))]
  · have e : ns.map (fun n => Dv.str (Str.ofString (toString n))) = (ns.map fun n => Str.ofString (toString n)).map .str := by
      rw [List.map_map]
      rfl
    rw [e, bnd_some, bnd_if (by rw [List.length_map, List.length_map]; omega)]
    simp only [ap_2, ap_C, ap_V, ap_andT, ap_andV, ap_asg, ap_call, ap_cb, ap_cmeth, ap_cmethK, ap_cons, ap_dGet, ap_dIn, ap_dc, ap_drop, ap_enum, ap_eqRef, ap_extend, ap_fld, ap_fldM, ap_for, ap_gV, ap_if, ap_ifS, ap_isi, ap_it, ap_kget, ap_lc, ap_lc2, ap_lst, ap_lstL, ap_make, ap_makeK, ap_makeL, ap_meth, ap_methK, ap_moInt, ap_moNo, ap_next, ap_nil, ap_notT, ap_notV, ap_orT, ap_ownEq, ap_ownIn, ap_par, ap_prop, ap_put, ap_ret, ap_seq, ap_set, ap_sl, ap_strO, ap_tru, ap_tst, ap_tup, ap_tupOf, ap_yes, ap_zip, bnd_some, List.getElem?_cons_zero, List.getElem?_cons_succ, List.set_cons_zero, List.set_cons_succ, List.map_cons, List.map_nil, List.cons_append, List.nil_append, List.replicate_succ, List.replicate_zero, if_true, if_false, Bool.false_eq_true, reduceIte, List.length_cons, List.length_nil, sz_is, Nat.reduceAdd, lz0, lz1, lz2, lz3, lz4, lz5, lz6, lz7, lz8, lz9, lz10, lz11, lz12, lz13, lz14, lz15, Nat.zero_add, itemsOf, eq_self, Bool.not_true, Bool.not_false, Bool.true_and, Bool.and_true, true_and, and_true, decide_true, decide_false, wipeE, asQ, fTupOf, asStrs_map, sum_one ns b.two, e_len, List.length_map, Nat.mul_zero, Nat.add_zero]
    rw [if_pos (by omega)]
    rfl
  · intro n hn
    have e3 : ((ev.set i none).set i (some (Dv.int n)))[i]? = some (some (.int n)) := by rw [List.getElem?_set_self (by rw [List.length_set]; exact hi)]
    refine ⟨rfl, rfl, ?_⟩
    simp only [ap_2, ap_C, ap_V, ap_andT, ap_andV, ap_asg, ap_call, ap_cb, ap_cmeth, ap_cmethK, ap_cons, ap_dGet, ap_dIn, ap_dc, ap_drop, ap_enum, ap_eqRef, ap_extend, ap_fld, ap_fldM, ap_for, ap_gV, ap_if, ap_ifS, ap_isi, ap_it, ap_kget, ap_lc, ap_lc2, ap_lst, ap_lstL, ap_make, ap_makeK, ap_makeL, ap_meth, ap_methK, ap_moInt, ap_moNo, ap_next, ap_nil, ap_notT, ap_notV, ap_orT, ap_ownEq, ap_ownIn, ap_par, ap_prop, ap_put, ap_ret, ap_seq, ap_set, ap_sl, ap_strO, ap_tru, ap_tst, ap_tup, ap_tupOf, ap_yes, ap_zip, bnd_some, List.getElem?_cons_zero, List.getElem?_cons_succ, List.set_cons_zero, List.set_cons_succ, List.map_cons, List.map_nil, List.cons_append, List.nil_append, List.replicate_succ, List.replicate_zero, if_true, if_false, Bool.false_eq_true, reduceIte, List.length_cons, List.length_nil, sz_is, Nat.reduceAdd, lz0, lz1, lz2, lz3, lz4, lz5, lz6, lz7, lz8, lz9, lz10, lz11, lz12, lz13, lz14, lz15, Nat.zero_add, itemsOf, eq_self, Bool.not_true, Bool.not_false, Bool.true_and, Bool.and_true, true_and, and_true, decide_true, decide_false, wipeE, asQ, fTupOf, e3, stri (S := S) (b.two n hn)]
/-! ### parts -/
theorem whole_len : (wholeOf ns).length = ns.length := by
  unfold wholeOf
  rw [List.length_map]
/-- a pair of stands that fits -/
def okP (p w : Str) : Prop := ∀ S : Sto, OkS S → F_are_stands [.str p, .str w] S = some (.bl true, S)
theorem asBls_true {α : Type} : ∀ xs : List α, asBls (xs.map fun _ => Dv.bl true) = some (xs.map fun _ => true)
  | [] => rfl
  | x :: xs => by
    rw [List.map_cons, asBls, asBls_true xs]
    rfl
theorem zip_strs : ∀ xs ys : List Str, zipD (xs.map .str) (ys.map .str) = (xs.zip ys).map fun p => .tup [.str p.1, .str p.2]
  | [], ys => by cases ys <;> rfl
  | x :: xs, [] => rfl
  | x :: xs, y :: ys => by
    rw [List.map_cons, List.map_cons, zipD, zip_strs xs ys, List.zip_cons_cons, List.map_cons]
theorem r_part {zs : List Str} (o : OkS S) (b : Brd ns) (h : zs.length = ns.length) (hp : ∀ p ∈ zs.zip (wholeOf ns), okP p.1 p.2) : F_is_part [.tup (zs.map .str), .tup ((wholeOf ns).map .str)] S = some (.bl true, S) := by
  have n5 := b.few
  unfold F_is_part mDef
  simp only [ap_2, ap_C, ap_V, ap_andT, ap_andV, ap_asg, ap_call, ap_cb, ap_cmeth, ap_cmethK, ap_cons, ap_dGet, ap_dIn, ap_dc, ap_drop, ap_enum, ap_eqRef, ap_extend, ap_fld, ap_fldM, ap_for, ap_gV, ap_if, ap_ifS, ap_isi, ap_it, ap_kget, ap_lc, ap_lc2, ap_lst, ap_lstL, ap_make, ap_makeK, ap_makeL, ap_meth, ap_methK, ap_moInt, ap_moNo, ap_next, ap_nil, ap_notT, ap_notV, ap_orT, ap_ownEq, ap_ownIn, ap_par, ap_prop, ap_put, ap_ret, ap_seq, ap_set, ap_sl, ap_strO, ap_tru, ap_tst, ap_tup, ap_tupOf, ap_yes, ap_zip, bnd_some, List.getElem?_cons_zero, List.getElem?_cons_succ, List.set_cons_zero, List.set_cons_succ, List.map_cons, List.map_nil, List.cons_append, List.nil_append, List.replicate_succ, List.replicate_zero, if_true, if_false, Bool.false_eq_true, reduceIte, List.length_cons, List.length_nil, sz_is, Nat.reduceAdd, lz0, lz1, lz2, lz3, lz4, lz5, lz6, lz7, lz8, lz9, lz10, lz11, lz12, lz13, lz14, lz15, Nat.zero_add, itemsOf, eq_self, Bool.not_true, Bool.not_false, Bool.true_and, Bool.and_true, true_and, and_true, decide_true, decide_false, wipeE, asQ, fTupOf, tru_bl, t_str, t_int, t_tup, i_ss, i_ii, i_tt, len_tup, len_lst, eq_int, ne_int, eq_str, ne_str, d_dic, k_str, k_int, List.length_map, ib_b, b_asO, b_cls, b_ty, b_sizes, b_whole, b_settings, b_beside, h, whole_len (ns := ns)]
  rw [zip_strs, lcGo_all (f := fun p : Str × Str => Dv.tup [.str p.1, .str p.2]) (e1 := fun p => [some (Dv.tup (zs.map .str)), some (Dv.tup ((wholeOf ns).map .str)), some (.str p.1), some (.str p.2)]) (h := fun _ => .bl true)]
  · have l : ((zs.zip (wholeOf ns)).map fun _ => Dv.bl true).length ≤ 16777216 := by
      rw [List.length_map, List.length_zip, h, whole_len]
      omega
    rw [bnd_some, bnd_if l]
    simp only [ap_2, ap_C, ap_V, ap_andT, ap_andV, ap_asg, ap_call, ap_cb, ap_cmeth, ap_cmethK, ap_cons, ap_dGet, ap_dIn, ap_dc, ap_drop, ap_enum, ap_eqRef, ap_extend, ap_fld, ap_fldM, ap_for, ap_gV, ap_if, ap_ifS, ap_isi, ap_it, ap_kget, ap_lc, ap_lc2, ap_lst, ap_lstL, ap_make, ap_makeK, ap_makeL, ap_meth, ap_methK, ap_moInt, ap_moNo, ap_next, ap_nil, ap_notT, ap_notV, ap_orT, ap_ownEq, ap_ownIn, ap_par, ap_prop, ap_put, ap_ret, ap_seq, ap_set, ap_sl, ap_strO, ap_tru, ap_tst, ap_tup, ap_tupOf, ap_yes, ap_zip, bnd_some, List.getElem?_cons_zero, List.getElem?_cons_succ, List.set_cons_zero, List.set_cons_succ, List.map_cons, List.map_nil, List.cons_append, List.nil_append, List.replicate_succ, List.replicate_zero, if_true, if_false, Bool.false_eq_true, reduceIte, List.length_cons, List.length_nil, sz_is, Nat.reduceAdd, lz0, lz1, lz2, lz3, lz4, lz5, lz6, lz7, lz8, lz9, lz10, lz11, lz12, lz13, lz14, lz15, Nat.zero_add, itemsOf, eq_self, Bool.not_true, Bool.not_false, Bool.true_and, Bool.and_true, true_and, and_true, decide_true, decide_false, wipeE, asQ, fTupOf, tru_bl, t_str, t_int, t_tup, i_ss, i_ii, i_tt, len_tup, len_lst, eq_int, ne_int, eq_str, ne_str, d_dic, k_str, k_int, List.length_map, ib_b, b_asO, b_cls, b_ty, b_sizes, b_whole, b_settings, b_beside, all_true (S := S) (zs.zip (wholeOf ns))]
    rw [fin_clean o c_bl]
  · intro p hp2
    refine ⟨rfl, rfl, ?_⟩
    simp only [ap_2, ap_C, ap_V, ap_andT, ap_andV, ap_asg, ap_call, ap_cb, ap_cmeth, ap_cmethK, ap_cons, ap_dGet, ap_dIn, ap_dc, ap_drop, ap_enum, ap_eqRef, ap_extend, ap_fld, ap_fldM, ap_for, ap_gV, ap_if, ap_ifS, ap_isi, ap_it, ap_kget, ap_lc, ap_lc2, ap_lst, ap_lstL, ap_make, ap_makeK, ap_makeL, ap_meth, ap_methK, ap_moInt, ap_moNo, ap_next, ap_nil, ap_notT, ap_notV, ap_orT, ap_ownEq, ap_ownIn, ap_par, ap_prop, ap_put, ap_ret, ap_seq, ap_set, ap_sl, ap_strO, ap_tru, ap_tst, ap_tup, ap_tupOf, ap_yes, ap_zip, bnd_some, List.getElem?_cons_zero, List.getElem?_cons_succ, List.set_cons_zero, List.set_cons_succ, List.map_cons, List.map_nil, List.cons_append, List.nil_append, List.replicate_succ, List.replicate_zero, if_true, if_false, Bool.false_eq_true, reduceIte, List.length_cons, List.length_nil, sz_is, Nat.reduceAdd, lz0, lz1, lz2, lz3, lz4, lz5, lz6, lz7, lz8, lz9, lz10, lz11, lz12, lz13, lz14, lz15, Nat.zero_add, itemsOf, eq_self, Bool.not_true, Bool.not_false, Bool.true_and, Bool.and_true, true_and, and_true, decide_true, decide_false, wipeE, asQ, fTupOf, tru_bl, t_str, t_int, t_tup, i_ss, i_ii, i_tt, len_tup, len_lst, eq_int, ne_int, eq_str, ne_str, d_dic, k_str, k_int, List.length_map, ib_b, b_asO, b_cls, b_ty, b_sizes, b_whole, b_settings, b_beside, hp p hp2 S o]
theorem r_insN (o : OkS S) : F_Board_inside [boardD ns, .non] S = some (.tup ((St ns).map .str), S) := by
  unfold F_Board_inside mDef
  simp only [ap_2, ap_C, ap_V, ap_andT, ap_andV, ap_asg, ap_call, ap_cb, ap_cmeth, ap_cmethK, ap_cons, ap_dGet, ap_dIn, ap_dc, ap_drop, ap_enum, ap_eqRef, ap_extend, ap_fld, ap_fldM, ap_for, ap_gV, ap_if, ap_ifS, ap_isi, ap_it, ap_kget, ap_lc, ap_lc2, ap_lst, ap_lstL, ap_make, ap_makeK, ap_makeL, ap_meth, ap_methK, ap_moInt, ap_moNo, ap_next, ap_nil, ap_notT, ap_notV, ap_orT, ap_ownEq, ap_ownIn, ap_par, ap_prop, ap_put, ap_ret, ap_seq, ap_set, ap_sl, ap_strO, ap_tru, ap_tst, ap_tup, ap_tupOf, ap_yes, ap_zip, bnd_some, List.getElem?_cons_zero, List.getElem?_cons_succ, List.set_cons_zero, List.set_cons_succ, List.map_cons, List.map_nil, List.cons_append, List.nil_append, List.replicate_succ, List.replicate_zero, if_true, if_false, Bool.false_eq_true, reduceIte, List.length_cons, List.length_nil, sz_is, Nat.reduceAdd, lz0, lz1, lz2, lz3, lz4, lz5, lz6, lz7, lz8, lz9, lz10, lz11, lz12, lz13, lz14, lz15, Nat.zero_add, itemsOf, eq_self, Bool.not_true, Bool.not_false, Bool.true_and, Bool.and_true, true_and, and_true, decide_true, decide_false, wipeE, asQ, fTupOf, tru_bl, t_str, t_int, t_tup, i_ss, i_ii, i_tt, len_tup, len_lst, eq_int, ne_int, eq_str, ne_str, d_dic, k_str, k_int, List.length_map, ib_b, b_asO, b_cls, b_ty, b_sizes, b_whole, b_settings, b_beside, isn_non]
  rw [fin_clean o c_tups]
theorem r_ins {zs : List Str} (o : OkS S) (b : Brd ns) (f : Fits zs) (h : zs.length = ns.length) (hp : ∀ p ∈ zs.zip (wholeOf ns), okP p.1 p.2) : F_Board_inside [boardD ns, .tup (zs.map .str)] S = some (.tup ((setsOf zs).map .str), S) := by
  unfold F_Board_inside mDef
  simp only [ap_2, ap_C, ap_V, ap_andT, ap_andV, ap_asg, ap_call, ap_cb, ap_cmeth, ap_cmethK, ap_cons, ap_dGet, ap_dIn, ap_dc, ap_drop, ap_enum, ap_eqRef, ap_extend, ap_fld, ap_fldM, ap_for, ap_gV, ap_if, ap_ifS, ap_isi, ap_it, ap_kget, ap_lc, ap_lc2, ap_lst, ap_lstL, ap_make, ap_makeK, ap_makeL, ap_meth, ap_methK, ap_moInt, ap_moNo, ap_next, ap_nil, ap_notT, ap_notV, ap_orT, ap_ownEq, ap_ownIn, ap_par, ap_prop, ap_put, ap_ret, ap_seq, ap_set, ap_sl, ap_strO, ap_tru, ap_tst, ap_tup, ap_tupOf, ap_yes, ap_zip, bnd_some, List.getElem?_cons_zero, List.getElem?_cons_succ, List.set_cons_zero, List.set_cons_succ, List.map_cons, List.map_nil, List.cons_append, List.nil_append, List.replicate_succ, List.replicate_zero, if_true, if_false, Bool.false_eq_true, reduceIte, List.length_cons, List.length_nil, sz_is, Nat.reduceAdd, lz0, lz1, lz2, lz3, lz4, lz5, lz6, lz7, lz8, lz9, lz10, lz11, lz12, lz13, lz14, lz15, Nat.zero_add, itemsOf, eq_self, Bool.not_true, Bool.not_false, Bool.true_and, Bool.and_true, true_and, and_true, decide_true, decide_false, wipeE, asQ, fTupOf, tru_bl, t_str, t_int, t_tup, i_ss, i_ii, i_tt, len_tup, len_lst, eq_int, ne_int, eq_str, ne_str, d_dic, k_str, k_int, List.length_map, ib_b, b_asO, b_cls, b_ty, b_sizes, b_whole, b_settings, b_beside, isn_tup, r_part (S := S) o b h hp, r_settings (S := S) o f]
  rw [fin_clean o c_tups]
end
end Mi

set_option Elab.async false
set_option linter.all false
set_option maxRecDepth 100000
set_option maxHeartbeats 400000
namespace Mi
open PySem PySem.Spec PyProof.Rows L2 Sw
section
variable {S : Sto} {ev : Ev} {ns : List Int}
def cDv (ns : List Int) : List Dv := [.tup (ns.map .int), .tup ((St ns).map .str), .tup ((wholeOf ns).map .str), .int ((St ns).length : Nat), .str (txt ns), .bl true, .lst ((St ns).map fun _ => .bl true)]
def cPd (ns : List Int) : List PyData := [.tuple (ns.map .int), .tuple ((St ns).map .str), .tuple ((wholeOf ns).map .str), .int ((St ns).length : Nat), .str (txt ns), .bool true, .list ((St ns).map fun _ => .bool true)]
theorem toPL_tr {α : Type} : ∀ xs : List α, toPL (xs.map fun _ => .bl true) = some (xs.map fun _ => .bool true)
  | [] => by simp [toPL]
  | n :: ns => by simp [toPL, toP, toPL_tr ns]
theorem c_toP : toPS S (.lst (cDv ns)) = some (.list (cPd ns)) := by
  show toP (.lst (cDv ns)) = _
  unfold cDv cPd
  simp [toP, toPL, toPL_ints, toPL_strs, toPL_tr]
theorem sz_ints {xs : List Int} {k : Nat} (h : ∀ n ∈ xs, n.natAbs < 10 ^ 12) (l : xs.length ≤ k) : Sz (k * 1) 1 (.tuple (xs.map .int)) :=
  Sz.tuple (b := 0) (d := 0) (fun x m => by
    obtain ⟨n, hn, rfl⟩ := List.mem_map.mp m
    exact Sz.int (h n hn)) (by rw [List.length_map]; exact l)
theorem sz_strs {xs : List Str} {k m : Nat} (h : ∀ z ∈ xs, okT z = true ∧ z.length ≤ m) (l : xs.length ≤ k) : Sz (k * (m + 1)) 1 (.tuple (xs.map .str)) :=
  Sz.tuple (b := m) (d := 0) (fun x mm => by
    obtain ⟨n, hn, rfl⟩ := List.mem_map.mp mm
    exact Sz.str (h n hn).1 (h n hn).2) (by rw [List.length_map]; exact l)
theorem sz_St (b : Brd ns) : Sz 1458 1 (.tuple ((St ns).map .str)) :=
  sz_strs (k := 243) (m := 5) (fun z hz => ⟨b.okT hz, by have := b.few; have := b.len hz; omega⟩) (setsOf_len b.fit)
theorem c_sz (b : Brd ns) : Sz 100000 60 (.list (cPd ns)) := by
  have n5 := b.few
  have few : (St ns).length ≤ 243 := setsOf_len b.fit
  have h : ∀ x ∈ cPd ns, Sz 2000 2 x := by
    intro x hx
    unfold cPd at hx
    simp only [List.mem_cons, List.not_mem_nil, or_false] at hx
    rcases hx with rfl | rfl | rfl | rfl | rfl | rfl | rfl
    · exact (sz_ints (k := 5) (fun n hn => by rcases b.two n hn with rfl | rfl <;> decide) n5).up (by omega) (by omega)
    · exact (sz_St b).up (by omega) (by omega)
    · exact (sz_strs (k := 5) (m := 3) (fun z hz => ⟨b.ok z hz, by have := b.fit.each z hz; rw [chars_len] at this; exact this⟩) b.fit.many).up (by omega) (by omega)
    · exact Sz.int (by omega)
    · exact Sz.str b.tx.1 (by have := b.tx.2; omega)
    · exact Sz.bool
    · exact (Sz.list (b := 0) (d := 0) (k := 243) (fun y hy => by obtain ⟨_, _, rfl⟩ := List.mem_map.mp hy; exact Sz.bool) (by rw [List.length_map]; exact few)).up (by omega) (by omega)
  exact (Sz.list (k := 7) h (by unfold cPd; simp)).up (by omega) (by omega)
theorem sz_two {p : PyData} {b : Nat} (h : Sz b 1 p) (hb : b ≤ 10000) : Sz 100000 60 (.list [p, p]) := by
  refine (Sz.list (b := b) (d := 1) (k := 2) (fun x hx => ?_) (by simp)).up (by omega) (by omega)
  simp only [List.mem_cons, List.not_mem_nil, or_false, or_self] at hx
  rw [hx]
  exact h
theorem two_toP {xs : List Str} : toPS S (.lst [.tup (xs.map .str), .tup (xs.map .str)]) = some (.list [.tuple (xs.map .str), .tuple (xs.map .str)]) := by
  show toP (.lst [.tup (xs.map .str), .tup (xs.map .str)]) = _
  simp [toP, toPL, toPL_strs]
theorem rep_tr {α : Type} : ∀ xs : List α, (List.replicate xs.length [Dv.bl true]).flatten = xs.map fun _ => .bl true
  | [] => rfl
  | x :: xs => by rw [List.length_cons, List.replicate_succ, List.flatten_cons, rep_tr xs]; rfl
theorem fMulL_at {ds : List Dv} {k : Int} (h1 : k.natAbs < 2 ^ 63) (h3 : ds.length * k.toNat ≤ sizeLine) : fMulL S (.lst ds) (.int k) = some (.lst (List.replicate k.toNat ds).flatten) := by
  unfold fMulL asL
  exact if_pos ⟨h1, h3⟩
theorem fMul_lst {ds : List Dv} {k : Int} {c : Dv} (h : fMulL S (.lst ds) (.int k) = some c) : fMul S (.lst ds) (.int k) = some c := by
  have e : fMulI S (.lst ds) (.int k) = none := rfl
  unfold fMul
  rw [e, h]
theorem mul_tr {α : Type} {xs : List α} (h : xs.length ≤ 1000) : fMul S (.lst [.bl true]) (.int (xs.length : Nat)) = some (.lst (xs.map fun _ => .bl true)) := by
  refine fMul_lst ?_
  rw [fMulL_at (by omega) (by rw [sz_is, Int.toNat_natCast, List.length_singleton]; omega), Int.toNat_natCast, rep_tr]
theorem u_len {g : Nat → Dv} {mo : ME} (o : OkS S) (b : Brd ns) (h : mo ev S = some (boardD ns, S)) : mLenO (Str.ofString "Board") F_Board___len__ g mo ev S = some (g (St ns).length, S) := by
  have few : (St ns).length ≤ 243 := setsOf_len b.fit
  rw [ap_lenO, h, bnd_some, b_asO]
  dsimp only
  rw [if_pos rfl, r_len o]
  dsimp only
  rw [if_pos (by omega), Int.toNat_natCast]
theorem u_len0 {g : Nat → Dv} {rest : Ev} (o : OkS S) (b : Brd ns) : mLenO (Str.ofString "Board") F_Board___len__ g (mV 0) (some (boardD ns) :: rest) S = some (g (St ns).length, S) := u_len o b rfl
theorem okP2a : okP "01" (cutS "012" none (some 2)) := fun S o => mDef_of (by kernel_rfl) o c_bl
theorem okP2b : okP "0" (cutS "012" none (some 2)) := fun S o => mDef_of (by kernel_rfl) o c_bl
theorem okP2c : okP "1" (cutS "012" none (some 2)) := fun S o => mDef_of (by kernel_rfl) o c_bl
theorem okP3a : okP "012" (cutS "012" none (some 3)) := fun S o => mDef_of (by kernel_rfl) o c_bl
theorem okP3b : okP "01" (cutS "012" none (some 3)) := fun S o => mDef_of (by kernel_rfl) o c_bl
theorem okP3c : okP "02" (cutS "012" none (some 3)) := fun S o => mDef_of (by kernel_rfl) o c_bl
theorem okP3d : okP "12" (cutS "012" none (some 3)) := fun S o => mDef_of (by kernel_rfl) o c_bl
theorem okP3e : okP "2" (cutS "012" none (some 3)) := fun S o => mDef_of (by kernel_rfl) o c_bl
theorem okP3f : okP "1" (cutS "012" none (some 3)) := fun S o => mDef_of (by kernel_rfl) o c_bl
theorem cut2 : cutS "012" none (some 2) = "01" := by decide +kernel
theorem cut3 : cutS "012" none (some 3) = "012" := by decide +kernel
/-- what a switch of n stands can be kept to -/
def menu (n : Int) : List Str := if n = 2 then ["01", "0", "1", "01"] else ["012", "012", "01", "02", "12", "2", "1"]
theorem okP_menu {n : Int} (h : n = 2 ∨ n = 3) {p : Str} (hp : p ∈ menu n) : okP p (cutS "012" none (some n)) := by
  rcases h with rfl | rfl
  · unfold menu at hp
    rw [if_pos rfl] at hp
    simp only [List.mem_cons, List.not_mem_nil, or_false] at hp
    rcases hp with rfl | rfl | rfl | rfl
    · exact okP2a
    · exact okP2b
    · exact okP2c
    · exact okP2a
  · unfold menu at hp
    rw [if_neg (by decide)] at hp
    simp only [List.mem_cons, List.not_mem_nil, or_false] at hp
    rcases hp with rfl | rfl | rfl | rfl | rfl | rfl | rfl
    · exact okP3a
    · exact okP3a
    · exact okP3b
    · exact okP3c
    · exact okP3d
    · exact okP3e
    · exact okP3f
/-- a part of a board: one of the menu for each switch -/
def PartOf (ns : List Int) (zs : List Str) : Prop := All2 (fun n z => z ∈ menu n) ns zs
theorem PartOf.len : ∀ {ns : List Int} {zs : List Str}, PartOf ns zs → zs.length = ns.length
  | _, _, .nil => rfl
  | _, _, .cons _ r => by rw [List.length_cons, List.length_cons, PartOf.len r]
theorem PartOf.okP : ∀ {ns : List Int} {zs : List Str}, (∀ n ∈ ns, n = 2 ∨ n = 3) → PartOf ns zs → ∀ p ∈ zs.zip (wholeOf ns), okP p.1 p.2
  | _, _, _, .nil, p, hp => by cases hp
  | n :: ns, z :: zs, h, .cons a r, p, hp => by
    have e : wholeOf (n :: ns) = cutS "012" none (some n) :: wholeOf ns := rfl
    rw [e, List.zip_cons_cons] at hp
    rcases List.mem_cons.mp hp with rfl | hp
    · exact okP_menu (h n (.head _)) a
    · exact PartOf.okP (fun m k => h m (.tail _ k)) r p hp
theorem menu_ok {n : Int} {z : Str} (h : z ∈ menu n) : okT z = true ∧ (chars z).length ≤ 3 := by
  have all : ((menu 2 ++ menu 3).all fun z => okT z && decide ((chars z).length ≤ 3)) = true := by decide +kernel
  have m : z ∈ menu 2 ++ menu 3 := by
    unfold menu at h ⊢
    rw [if_pos rfl, if_neg (by decide)]
    split at h
    · exact List.mem_append_left _ h
    · exact List.mem_append_right _ h
  have := List.all_eq_true.mp all z m
  rw [Bool.and_eq_true] at this
  exact ⟨this.1, of_decide_eq_true this.2⟩
theorem PartOf.mem : ∀ {ns : List Int} {zs : List Str}, PartOf ns zs → ∀ z ∈ zs, ∃ n, z ∈ menu n
  | _, _, .nil, z, h => by cases h
  | n :: _, _, .cons a r, z, h => by
    rcases List.mem_cons.mp h with rfl | h
    · exact ⟨n, a⟩
    · exact PartOf.mem r z h
theorem PartOf.fits {zs : List Str} (b : Brd ns) (p : PartOf ns zs) : Fits zs :=
  ⟨by rw [p.len]; exact b.few, fun z hz => by obtain ⟨n, h⟩ := p.mem z hz; exact (menu_ok h).2⟩
theorem PartOf.okT {zs : List Str} (p : PartOf ns zs) : ∀ z ∈ zs, okT z = true := fun z hz => by obtain ⟨n, h⟩ := p.mem z hz; exact (menu_ok h).1
theorem part_whole : ∀ {ns : List Int}, (∀ n ∈ ns, n = 2 ∨ n = 3) → PartOf ns (wholeOf ns)
  | [], _ => .nil
  | n :: ns, h => .cons (by
      rcases h n (.head _) with rfl | rfl
      · show cutS "012" none (some 2) ∈ _
        rw [cut2]
        exact .head _
      · show cutS "012" none (some 3) ∈ _
        rw [cut3]
        exact .head _) (part_whole fun m k => h m (.tail _ k))
end
end Mi

set_option Elab.async false
set_option linter.all false
set_option maxRecDepth 100000
set_option maxHeartbeats 1000000
namespace Mi
open PySem PySem.Spec PyProof.Rows L2 Sw
section
variable {S : Sto} {ns : List Int}
theorem fin_app {m : List Mo} {d : Dv} (o : OkS S) (c : clean d = true) : fin S.length (S ++ m) d = some (d, S) := by
  unfold fin
  rw [List.take_left, if_pos (show S.all okMo = true from o)]
  have : frz S.length (S ++ m) d = some d := by
    cases d
    case «mut» l => rw [clean] at c; exact absurd c (by decide)
    all_goals
      unfold frz
      simp only [c, if_true]
  rw [this]
theorem new_at {m : Mo} : (S ++ [m])[S.length]? = some m := by simp
theorem new_set {m k : Mo} : (S ++ [m]).set S.length k = S ++ [k] := by simp
theorem new_isL {xs : List Dv} : isLstAt (S ++ [.lst xs]) S.length = true := by
  unfold isLstAt
  rw [new_at]
theorem new_asS {xs : List Dv} : asS (S ++ [.lst xs]) (.mut S.length) = some xs := by
  show asL (S ++ [.lst xs]) (.mut S.length) = some xs
  unfold asL
  dsimp only
  rw [new_at]
theorem ok_app {m : Mo} (o : OkS S) (h : okMo m = true) : OkS (S ++ [m]) := by
  unfold OkS at *
  rw [List.all_append, o, List.all_cons, h]
  rfl
end
end Mi

set_option Elab.async false
set_option linter.all false
set_option maxRecDepth 100000
set_option maxHeartbeats 400000
namespace Mi
open PySem PySem.Spec PyProof.Rows L2 Sw
def jarM (d s c : Int) : Mo := .lst [.int d, .int s, .int c]
section
variable {d s c : Int} {A : Sto}
theorem j_ok (oA : OkS A) : OkS (A ++ [jarM d s c]) := ok_app oA (by simp [jarM, okMo, cleanL, clean])
theorem fin_j {x : Mo} {v : Dv} (oA : OkS A) (h : clean v = true) : fin (A ++ [x]).length (A ++ [jarM d s c]) v = some (v, A ++ [jarM d s c]) := by
  rw [show (A ++ [x]).length = (A ++ [jarM d s c]).length by simp]
  exact fin_clean (j_ok oA) h
theorem j_m : jarM d s c = .lst [.int d, .int s, .int c] := rfl
theorem asQ_new {xs : List Dv} : asQ (A ++ [.lst xs]) (.mut A.length) = some xs := by
  unfold asQ
  dsimp only
  rw [new_at]
theorem j_0 : fIx (A ++ [.lst [.int d, .int s, .int c]]) (.mut A.length) (.int 0) = some (.int d) := by
  show (match asQ (A ++ [.lst [.int d, .int s, .int c]]) (.mut A.length) with | some ds => atI ds 0 | none => none) = _
  rw [asQ_new]
  rfl
theorem j_1 : fIx (A ++ [.lst [.int d, .int s, .int c]]) (.mut A.length) (.int 1) = some (.int s) := by
  show (match asQ (A ++ [.lst [.int d, .int s, .int c]]) (.mut A.length) with | some ds => atI ds 1 | none => none) = _
  rw [asQ_new]
  rfl
theorem j_2 : fIx (A ++ [.lst [.int d, .int s, .int c]]) (.mut A.length) (.int 2) = some (.int c) := by
  show (match asQ (A ++ [.lst [.int d, .int s, .int c]]) (.mut A.length) with | some ds => atI ds 2 | none => none) = _
  rw [asQ_new]
  rfl
theorem ix30 : ixN 3 0 = some 0 := rfl
theorem ix31 : ixN 3 1 = some 1 := rfl
theorem ix32 : ixN 3 2 = some 2 := rfl
theorem a_int {S : Sto} {a b : Int} : fAdd S (.int a) (.int b) = some (.int (a + b)) := rfl
theorem gt_int {S : Sto} {a b : Int} : fGt S (.int a) (.int b) = some (.bl (decide (b < a))) := rfl
theorem int_int {S : Sto} {a : Int} : fInt1 S [.int a] = some (.int a) := rfl
theorem mod_int {S : Sto} {a b : Int} (h : b ≠ 0) : fMod S (.int a) (.int b) = some (.int (a.fmod b)) := if_pos (decide_eq_true h)
theorem div_int {S : Sto} {a b : Int} (h : b ≠ 0) (h2 : b.natAbs < 1073741824) : fDiv S (.int a) (.int b) = some (.int (a.fdiv b)) := if_pos (decide_eq_true ⟨h, h2⟩)
theorem mul_int {S : Sto} {a b : Int} (h : b.natAbs < 2 ^ 64) : fMul S (.int a) (.int b) = some (.int (a * b)) := fMul_int (.inr h)
theorem r_dip (oA : OkS A) {n : Int} (h1 : 0 < n) (h2 : n < 1000000) : ∃ r d' s' c', F__law_dip [.mut A.length, .int n] (A ++ [jarM d s c]) = some (.int r, (A ++ [jarM d' s' c'])) ∧ 0 ≤ r ∧ r < n := by
  have n0 : n ≠ 0 := by omega
  by_cases hd : 0 < d
  · refine ⟨d.fmod n, d.fdiv n, s, c + 1, ?_, Int.fmod_nonneg_of_pos _ h1, Int.fmod_lt_of_pos _ h1⟩
    unfold F__law_dip mDef
    simp only [ap_2, ap_C, ap_V, ap_andT, ap_andV, ap_asg, ap_call, ap_cb, ap_cmeth, ap_cmethK, ap_cons, ap_dGet, ap_dIn, ap_dc, ap_drop, ap_enum, ap_eqRef, ap_extend, ap_fld, ap_fldM, ap_for, ap_gV, ap_if, ap_ifS, ap_isi, ap_it, ap_kget, ap_lc, ap_lc2, ap_lst, ap_lstL, ap_make, ap_makeK, ap_makeL, ap_meth, ap_methK, ap_moInt, ap_moNo, ap_next, ap_nil, ap_notT, ap_notV, ap_orT, ap_ownEq, ap_ownIn, ap_par, ap_prop, ap_put, ap_ret, ap_seq, ap_set, ap_sl, ap_strO, ap_tru, ap_tst, ap_tup, ap_tupOf, ap_yes, ap_zip, bnd_some, List.getElem?_cons_zero, List.getElem?_cons_succ, List.set_cons_zero, List.set_cons_succ, List.map_cons, List.map_nil, List.cons_append, List.nil_append, List.replicate_succ, List.replicate_zero, if_true, if_false, Bool.false_eq_true, reduceIte, List.length_cons, List.length_nil, sz_is, Nat.reduceAdd, lz0, lz1, lz2, lz3, lz4, lz5, lz6, lz7, lz8, lz9, lz10, lz11, lz12, lz13, lz14, lz15, Nat.zero_add, itemsOf, eq_self, Bool.not_true, Bool.not_false, Bool.true_and, Bool.and_true, true_and, and_true, decide_true, decide_false, wipeE, asQ, fTupOf, new_at, new_set, j_m, j_0, j_1, j_2, ix30, ix31, ix32, a_int, gt_int, int_int, mod_int n0, div_int n0 (by omega : n.natAbs < 1073741824), hd]
    exact fin_j oA c_int
  · refine ⟨(((s * 40692 + (c + 1) * 52021 + 31).fmod 2147483399).fdiv 2048).fmod n, d, (s * 40692 + (c + 1) * 52021 + 31).fmod 2147483399, c + 1, ?_, Int.fmod_nonneg_of_pos _ h1, Int.fmod_lt_of_pos _ h1⟩
    unfold F__law_dip mDef
    simp only [ap_2, ap_C, ap_V, ap_andT, ap_andV, ap_asg, ap_call, ap_cb, ap_cmeth, ap_cmethK, ap_cons, ap_dGet, ap_dIn, ap_dc, ap_drop, ap_enum, ap_eqRef, ap_extend, ap_fld, ap_fldM, ap_for, ap_gV, ap_if, ap_ifS, ap_isi, ap_it, ap_kget, ap_lc, ap_lc2, ap_lst, ap_lstL, ap_make, ap_makeK, ap_makeL, ap_meth, ap_methK, ap_moInt, ap_moNo, ap_next, ap_nil, ap_notT, ap_notV, ap_orT, ap_ownEq, ap_ownIn, ap_par, ap_prop, ap_put, ap_ret, ap_seq, ap_set, ap_sl, ap_strO, ap_tru, ap_tst, ap_tup, ap_tupOf, ap_yes, ap_zip, bnd_some, List.getElem?_cons_zero, List.getElem?_cons_succ, List.set_cons_zero, List.set_cons_succ, List.map_cons, List.map_nil, List.cons_append, List.nil_append, List.replicate_succ, List.replicate_zero, if_true, if_false, Bool.false_eq_true, reduceIte, List.length_cons, List.length_nil, sz_is, Nat.reduceAdd, lz0, lz1, lz2, lz3, lz4, lz5, lz6, lz7, lz8, lz9, lz10, lz11, lz12, lz13, lz14, lz15, Nat.zero_add, itemsOf, eq_self, Bool.not_true, Bool.not_false, Bool.true_and, Bool.and_true, true_and, and_true, decide_true, decide_false, wipeE, asQ, fTupOf, new_at, new_set, j_m, j_0, j_1, j_2, ix30, ix31, ix32, a_int, gt_int, int_int, mod_int n0, hd, mul_int (S := A ++ [.lst [.int d, .int s, .int (c + 1)]]) (a := s) (b := 40692) (by decide), mul_int (S := A ++ [.lst [.int d, .int s, .int (c + 1)]]) (a := c + 1) (b := 52021) (by decide), mod_int (b := 2147483399) (by decide), div_int (b := 2048) (by decide) (by decide)]
    exact fin_j oA c_int
/-- a list or a tuple -/
def SeqD (Q : Dv) (ds : List Dv) : Prop := Q = .lst ds ∨ Q = .tup ds
theorem at_nat {α : Type} {ds : List α} {k : Nat} {x : α} (h : ds[k]? = some x) : atI ds (k : Int) = some x := by
  have hk : k < ds.length := (List.getElem?_eq_some_iff.mp h).1
  unfold atI ixN
  rw [if_pos (by omega), if_pos (by omega)]
  exact h
theorem r_pick (oA : OkS A) {Q : Dv} {ds : List Dv} (q : SeqD Q ds) (h1 : 0 < ds.length) (h2 : ds.length < 1000000) (cl : ∀ x ∈ ds, clean x = true) : ∃ x ∈ ds, ∃ d' s' c', F__law_pick [.mut A.length, Q] (A ++ [jarM d s c]) = some (x, (A ++ [jarM d' s' c'])) := by
  obtain ⟨r, d', s', c', e, r0, r1⟩ := r_dip oA (d := d) (s := s) (c := c) (n := (ds.length : Nat)) (by omega) (by omega)
  obtain ⟨k, rfl⟩ := Int.eq_ofNat_of_zero_le r0
  have hk : k < ds.length := by omega
  obtain ⟨x, hx⟩ : ∃ x, ds[k]? = some x := ⟨ds[k], List.getElem?_eq_getElem hk⟩
  have m := List.mem_of_getElem? hx
  refine ⟨x, m, d', s', c', ?_⟩
  have ha := at_nat hx
  have e2 : ∀ S, fLen S [Q] = some (.int (ds.length : Nat)) := fun S => by rcases q with rfl | rfl <;> rfl
  have e3 : ∀ S, fIx S Q (.int (k : Nat)) = some x := fun S => by
    rcases q with rfl | rfl
    · show (match asQ S (.lst ds) with | some ds => atI ds (k : Int) | none => none) = _
      exact ha
    · show (match asQ S (.tup ds) with | some ds => atI ds (k : Int) | none => none) = _
      exact ha
  unfold F__law_pick mDef
  simp only [ap_2, ap_C, ap_V, ap_andT, ap_andV, ap_asg, ap_call, ap_cb, ap_cmeth, ap_cmethK, ap_cons, ap_dGet, ap_dIn, ap_dc, ap_drop, ap_enum, ap_eqRef, ap_extend, ap_fld, ap_fldM, ap_for, ap_gV, ap_if, ap_ifS, ap_isi, ap_it, ap_kget, ap_lc, ap_lc2, ap_lst, ap_lstL, ap_make, ap_makeK, ap_makeL, ap_meth, ap_methK, ap_moInt, ap_moNo, ap_next, ap_nil, ap_notT, ap_notV, ap_orT, ap_ownEq, ap_ownIn, ap_par, ap_prop, ap_put, ap_ret, ap_seq, ap_set, ap_sl, ap_strO, ap_tru, ap_tst, ap_tup, ap_tupOf, ap_yes, ap_zip, bnd_some, List.getElem?_cons_zero, List.getElem?_cons_succ, List.set_cons_zero, List.set_cons_succ, List.map_cons, List.map_nil, List.cons_append, List.nil_append, List.replicate_succ, List.replicate_zero, if_true, if_false, Bool.false_eq_true, reduceIte, List.length_cons, List.length_nil, sz_is, Nat.reduceAdd, lz0, lz1, lz2, lz3, lz4, lz5, lz6, lz7, lz8, lz9, lz10, lz11, lz12, lz13, lz14, lz15, Nat.zero_add, itemsOf, eq_self, Bool.not_true, Bool.not_false, Bool.true_and, Bool.and_true, true_and, and_true, decide_true, decide_false, wipeE, asQ, fTupOf, e2, e, e3]
  exact fin_j oA (cl x m)
/-! ### sizes -/
def prodL : List Int → Int
  | [] => 1
  | n :: ns => n * prodL ns
theorem prod_snoc : ∀ (ns : List Int) (n : Int), prodL (ns ++ [n]) = prodL ns * n
  | [], n => by simp [prodL]
  | m :: ns, n => by simp [prodL, prod_snoc ns n, Int.mul_assoc]
/-- what can be drawn -/
structure Drawn (ns : List Int) : Prop where
  two : ∀ n ∈ ns, n = 2 ∨ n = 3
  few : ns.length ≤ 5
  prod : prodL ns ≤ 48
  some_ : ns ≠ []
theorem le_int {S : Sto} {a b : Int} : fLe S (.int a) (.int b) = some (.bl (decide (a ≤ b))) := rfl
theorem rng1_to {S S1 : Sto} {ev : Ev} {m : MA} {n : Nat} (h : n ≤ 1000000) (e : m ev S = some ([.int (n : Nat)], S1)) : mRng1 m ev S = some ((List.range n).map fun (k : Nat) => Dv.int (k : Int), S1) := by
  have e2 : rangeD 0 ((n : Int).toNat) = (List.range n).map fun (k : Nat) => Dv.int (k : Int) := by
    rw [Int.toNat_natCast]
    unfold rangeD
    congr 1
    funext k
    rw [Int.zero_add]
  unfold mRng1
  rw [e, bnd_some]
  dsimp only
  rw [if_pos (by omega), e2]
theorem ne_tupi {S : Sto} {ns ms : List Int} (h1 : ns.length ≤ 1000000) (h2 : ms.length ≤ 1000000) : fNe S (.tup (ns.map .int)) (.tup (ms.map .int)) = some (.bl (!decide (ns = ms))) := by
  have e1 : ∀ ns : List Int, toPS S (.tup (ns.map .int)) = some (.tuple (ns.map .int)) := fun ns => by
    show toP (.tup (ns.map .int)) = _
    rw [toP, toPL_ints]
    rfl
  show fNeD S _ _ = _
  unfold fNeD
  rw [e1, e1]
  dsimp only
  rw [sh_tupi h1, sh_tupi h2, Bool.and_true, if_pos rfl, PyData.eqv, eqvAll_ints]
def spB : MS := (sSeq (sSet 5 (mCall F__law_pick (maCons (mV 0) (maCons (mLst (maCons (mC (.int 2)) (maCons (mC (.int 2)) (maCons (mC (.int 3)) maNil)))) maNil))))
      (sIf (mTst (m2 fLe (m2 fMul (mV 3) (mV 5)) (mV 1))) (sPar 2 3 (maCons (m2 fAdd (mV 2) (mTup (maCons (mV 5) maNil))) (maCons (m2 fMul (mV 3) (mV 5)) maNil)) ) sNext))
def SpI (A : Sto) (pre : List Nat) (ev : Ev) (S : Sto) : Prop := ∃ ns a b d s c, ev = [some (.mut A.length), some (.int 36), some (.tup (ns.map .int)), some (.int (prodL ns)), a, b] ∧ S = (A ++ [jarM d s c]) ∧ (∀ n ∈ ns, n = 2 ∨ n = 3) ∧ ns.length ≤ pre.length ∧ prodL ns ≤ 36
theorem sp_step (oA : OkS A) (k : Nat) {pre : List Nat} {ev : Ev} {S : Sto} (hp : pre.length ≤ 100) (i : SpI A pre ev S) : ∃ ev1 ev2 S', gV 4 (Dv.int (k : Nat)) ev = some ev1 ∧ spB ev1 S = some (.nx ev2, S') ∧ SpI A (pre ++ [k]) ev2 S' := by
  obtain ⟨ns, a, b, d, s, c, rfl, rfl, h1, h2, h3⟩ := i
  obtain ⟨x, hx, d', s', c', e⟩ := r_pick oA (d := d) (s := s) (c := c) (Q := .lst [.int 2, .int 2, .int 3]) (.inl rfl) (by simp) (by simp) (fun x hx => by
    simp only [List.mem_cons, List.not_mem_nil, or_false] at hx
    rcases hx with rfl | rfl | rfl <;> exact c_int)
  obtain ⟨n, rfl, hn⟩ : ∃ n, x = .int n ∧ (n = 2 ∨ n = 3) := by
    simp only [List.mem_cons, List.not_mem_nil, or_false] at hx
    rcases hx with rfl | rfl | rfl
    · exact ⟨2, rfl, .inl rfl⟩
    · exact ⟨2, rfl, .inl rfl⟩
    · exact ⟨3, rfl, .inr rfl⟩
  have en : n.natAbs < 2 ^ 64 := by rcases hn with rfl | rfl <;> decide
  by_cases hl : prodL ns * n ≤ 36
  · refine ⟨_, [some (.mut A.length), some (.int 36), some (.tup ((ns ++ [n]).map .int)), some (.int (prodL (ns ++ [n]))), some (.int k), some (.int n)], (A ++ [jarM d' s' c']), rfl, ?_, ⟨ns ++ [n], _, _, d', s', c', rfl, rfl, ?_, ?_, ?_⟩⟩
    · have ea : ∀ S, fAdd S (.tup (ns.map .int)) (.tup [.int n]) = some (.tup ((ns ++ [n]).map .int)) := fun S => by
        rw [add_tup (by rw [List.length_map, List.length_singleton, sz_is]; omega), List.map_append]
        rfl
      unfold spB
      simp only [ap_2, ap_C, ap_V, ap_andT, ap_andV, ap_asg, ap_call, ap_cb, ap_cmeth, ap_cmethK, ap_cons, ap_dGet, ap_dIn, ap_dc, ap_drop, ap_enum, ap_eqRef, ap_extend, ap_fld, ap_fldM, ap_for, ap_gV, ap_if, ap_ifS, ap_isi, ap_it, ap_kget, ap_lc, ap_lc2, ap_lst, ap_lstL, ap_make, ap_makeK, ap_makeL, ap_meth, ap_methK, ap_moInt, ap_moNo, ap_next, ap_nil, ap_notT, ap_notV, ap_orT, ap_ownEq, ap_ownIn, ap_par, ap_prop, ap_put, ap_ret, ap_seq, ap_set, ap_sl, ap_strO, ap_tru, ap_tst, ap_tup, ap_tupOf, ap_yes, ap_zip, bnd_some, List.getElem?_cons_zero, List.getElem?_cons_succ, List.set_cons_zero, List.set_cons_succ, List.map_cons, List.map_nil, List.cons_append, List.nil_append, List.replicate_succ, List.replicate_zero, if_true, if_false, Bool.false_eq_true, reduceIte, List.length_cons, List.length_nil, sz_is, Nat.reduceAdd, lz0, lz1, lz2, lz3, lz4, lz5, lz6, lz7, lz8, lz9, lz10, lz11, lz12, lz13, lz14, lz15, Nat.zero_add, itemsOf, eq_self, Bool.not_true, Bool.not_false, Bool.true_and, Bool.and_true, true_and, and_true, decide_true, decide_false, wipeE, asQ, fTupOf, e, mul_int en, le_int, hl, ea, prod_snoc]
    · intro m hm
      rcases List.mem_append.mp hm with hm | hm
      · exact h1 m hm
      · rw [List.mem_singleton.mp hm]; exact hn
    · rw [List.length_append, List.length_append, List.length_singleton, List.length_singleton]; omega
    · rw [prod_snoc]; exact hl
  · refine ⟨_, [some (.mut A.length), some (.int 36), some (.tup (ns.map .int)), some (.int (prodL ns)), some (.int k), some (.int n)], (A ++ [jarM d' s' c']), rfl, ?_, ⟨ns, _, _, d', s', c', rfl, rfl, h1, ?_, h3⟩⟩
    · unfold spB
      simp only [ap_2, ap_C, ap_V, ap_andT, ap_andV, ap_asg, ap_call, ap_cb, ap_cmeth, ap_cmethK, ap_cons, ap_dGet, ap_dIn, ap_dc, ap_drop, ap_enum, ap_eqRef, ap_extend, ap_fld, ap_fldM, ap_for, ap_gV, ap_if, ap_ifS, ap_isi, ap_it, ap_kget, ap_lc, ap_lc2, ap_lst, ap_lstL, ap_make, ap_makeK, ap_makeL, ap_meth, ap_methK, ap_moInt, ap_moNo, ap_next, ap_nil, ap_notT, ap_notV, ap_orT, ap_ownEq, ap_ownIn, ap_par, ap_prop, ap_put, ap_ret, ap_seq, ap_set, ap_sl, ap_strO, ap_tru, ap_tst, ap_tup, ap_tupOf, ap_yes, ap_zip, bnd_some, List.getElem?_cons_zero, List.getElem?_cons_succ, List.set_cons_zero, List.set_cons_succ, List.map_cons, List.map_nil, List.cons_append, List.nil_append, List.replicate_succ, List.replicate_zero, if_true, if_false, Bool.false_eq_true, reduceIte, List.length_cons, List.length_nil, sz_is, Nat.reduceAdd, lz0, lz1, lz2, lz3, lz4, lz5, lz6, lz7, lz8, lz9, lz10, lz11, lz12, lz13, lz14, lz15, Nat.zero_add, itemsOf, eq_self, Bool.not_true, Bool.not_false, Bool.true_and, Bool.and_true, true_and, and_true, decide_true, decide_false, wipeE, asQ, fTupOf, e, mul_int en, le_int, hl]
    · rw [List.length_append]; omega
theorem r_spans (oA : OkS A) : ∃ ns d' s' c', F__law_spans [.mut A.length, .int 36] (A ++ [jarM d s c]) = some (.tup (ns.map .int), (A ++ [jarM d' s' c'])) ∧ Drawn ns := by
  obtain ⟨r, d1, s1, c1, e1, r0, r1⟩ := r_dip oA (d := d) (s := s) (c := c) (n := 5) (by omega) (by omega)
  obtain ⟨k, rfl⟩ := Int.eq_ofNat_of_zero_le r0
  have hr : mRng1 (maCons (m2 fAdd (mC (Dv.int 1)) (mCall F__law_dip (maCons (mV 0) (maCons (mC (Dv.int 5)) maNil)))) maNil) [some (.mut A.length), some (.int 36), some (.tup []), some (.int 1), none, none] (A ++ [jarM d s c]) = some ((List.range (1 + k)).map fun (k : Nat) => Dv.int (k : Int), (A ++ [jarM d1 s1 c1])) := rng1_to (by omega) (by
    simp only [ap_2, ap_C, ap_V, ap_andT, ap_andV, ap_asg, ap_call, ap_cb, ap_cmeth, ap_cmethK, ap_cons, ap_dGet, ap_dIn, ap_dc, ap_drop, ap_enum, ap_eqRef, ap_extend, ap_fld, ap_fldM, ap_for, ap_gV, ap_if, ap_ifS, ap_isi, ap_it, ap_kget, ap_lc, ap_lc2, ap_lst, ap_lstL, ap_make, ap_makeK, ap_makeL, ap_meth, ap_methK, ap_moInt, ap_moNo, ap_next, ap_nil, ap_notT, ap_notV, ap_orT, ap_ownEq, ap_ownIn, ap_par, ap_prop, ap_put, ap_ret, ap_seq, ap_set, ap_sl, ap_strO, ap_tru, ap_tst, ap_tup, ap_tupOf, ap_yes, ap_zip, bnd_some, List.getElem?_cons_zero, List.getElem?_cons_succ, List.set_cons_zero, List.set_cons_succ, List.map_cons, List.map_nil, List.cons_append, List.nil_append, List.replicate_succ, List.replicate_zero, if_true, if_false, Bool.false_eq_true, reduceIte, List.length_cons, List.length_nil, sz_is, Nat.reduceAdd, lz0, lz1, lz2, lz3, lz4, lz5, lz6, lz7, lz8, lz9, lz10, lz11, lz12, lz13, lz14, lz15, Nat.zero_add, itemsOf, eq_self, Bool.not_true, Bool.not_false, Bool.true_and, Bool.and_true, true_and, and_true, decide_true, decide_false, wipeE, asQ, fTupOf, e1, a_int]
    rw [Int.natCast_add]
    rfl)
  obtain ⟨ev', S', e, ns, a, b, d2, s2, c2, rfl, rfl, h1, h2, h3⟩ := forGo_ind (g := gV 4) (b := spB) (fun (k : Nat) => Dv.int (k : Nat)) (SpI A) (List.range (1 + k)) (fun pre x post ev S e i => sp_step oA x (by
    have := congrArg List.length e
    rw [List.length_range, List.length_append] at this
    omega) i) (List.range (1 + k)) [] [some (.mut A.length), some (.int 36), some (.tup []), some (.int 1), none, none] (A ++ [jarM d1 s1 c1]) rfl ⟨[], none, none, d1, s1, c1, rfl, rfl, (fun _ h => by cases h), Nat.le_refl _, by decide⟩
  unfold spB at e
  rw [List.length_range] at h2
  by_cases hn : ns = []
  · subst hn
    refine ⟨[2], d2, s2, c2, ?_, ⟨fun n h => .inl (List.mem_singleton.mp h), by simp, by decide, by simp⟩⟩
    have ne0 := ne_tupi (S := (A ++ [jarM d2 s2 c2])) (ns := []) (ms := []) (by simp) (by simp)
    rw [List.map_nil] at ne0
    unfold F__law_spans mDef
    simp only [ap_2, ap_C, ap_V, ap_andT, ap_andV, ap_asg, ap_call, ap_cb, ap_cmeth, ap_cmethK, ap_cons, ap_dGet, ap_dIn, ap_dc, ap_drop, ap_enum, ap_eqRef, ap_extend, ap_fld, ap_fldM, ap_for, ap_gV, ap_if, ap_ifS, ap_isi, ap_it, ap_kget, ap_lc, ap_lc2, ap_lst, ap_lstL, ap_make, ap_makeK, ap_makeL, ap_meth, ap_methK, ap_moInt, ap_moNo, ap_next, ap_nil, ap_notT, ap_notV, ap_orT, ap_ownEq, ap_ownIn, ap_par, ap_prop, ap_put, ap_ret, ap_seq, ap_set, ap_sl, ap_strO, ap_tru, ap_tst, ap_tup, ap_tupOf, ap_yes, ap_zip, bnd_some, List.getElem?_cons_zero, List.getElem?_cons_succ, List.set_cons_zero, List.set_cons_succ, List.map_cons, List.map_nil, List.cons_append, List.nil_append, List.replicate_succ, List.replicate_zero, if_true, if_false, Bool.false_eq_true, reduceIte, List.length_cons, List.length_nil, sz_is, Nat.reduceAdd, lz0, lz1, lz2, lz3, lz4, lz5, lz6, lz7, lz8, lz9, lz10, lz11, lz12, lz13, lz14, lz15, Nat.zero_add, itemsOf, eq_self, Bool.not_true, Bool.not_false, Bool.true_and, Bool.and_true, true_and, and_true, decide_true, decide_false, wipeE, asQ, fTupOf, hr, e, ne0, gT, gsCons, gsNil]
    exact fin_j (v := .tup ([2].map .int)) oA c_tupi
  · refine ⟨ns, d2, s2, c2, ?_, ⟨h1, by omega, by omega, hn⟩⟩
    have ne0 := ne_tupi (S := (A ++ [jarM d2 s2 c2])) (ns := ns) (ms := []) (by omega) (by simp)
    rw [List.map_nil] at ne0
    unfold F__law_spans mDef
    simp only [ap_2, ap_C, ap_V, ap_andT, ap_andV, ap_asg, ap_call, ap_cb, ap_cmeth, ap_cmethK, ap_cons, ap_dGet, ap_dIn, ap_dc, ap_drop, ap_enum, ap_eqRef, ap_extend, ap_fld, ap_fldM, ap_for, ap_gV, ap_if, ap_ifS, ap_isi, ap_it, ap_kget, ap_lc, ap_lc2, ap_lst, ap_lstL, ap_make, ap_makeK, ap_makeL, ap_meth, ap_methK, ap_moInt, ap_moNo, ap_next, ap_nil, ap_notT, ap_notV, ap_orT, ap_ownEq, ap_ownIn, ap_par, ap_prop, ap_put, ap_ret, ap_seq, ap_set, ap_sl, ap_strO, ap_tru, ap_tst, ap_tup, ap_tupOf, ap_yes, ap_zip, bnd_some, List.getElem?_cons_zero, List.getElem?_cons_succ, List.set_cons_zero, List.set_cons_succ, List.map_cons, List.map_nil, List.cons_append, List.nil_append, List.replicate_succ, List.replicate_zero, if_true, if_false, Bool.false_eq_true, reduceIte, List.length_cons, List.length_nil, sz_is, Nat.reduceAdd, lz0, lz1, lz2, lz3, lz4, lz5, lz6, lz7, lz8, lz9, lz10, lz11, lz12, lz13, lz14, lz15, Nat.zero_add, itemsOf, eq_self, Bool.not_true, Bool.not_false, Bool.true_and, Bool.and_true, true_and, and_true, decide_true, decide_false, wipeE, asQ, fTupOf, hr, e, ne0, hn, gT, gsCons, gsNil]
    exact fin_j oA c_tupi
/-! ### a drawn part -/
theorem all2_map {α : Type} {f : α → Dv} {R : α → Dv → Prop} {Q : α → Str → Prop} (h : ∀ a d, R a d → ∃ z, d = .str z ∧ Q a z) : ∀ {xs : List α} {ds : List Dv}, All2 R xs ds → ∃ zs : List Str, ds = zs.map .str ∧ All2 Q xs zs
  | _, _, .nil => ⟨[], rfl, .nil⟩
  | _, _, .cons a r => by
    obtain ⟨z, rfl, q⟩ := h _ _ a
    obtain ⟨zs, rfl, qs⟩ := all2_map (f := f) h r
    exact ⟨z :: zs, rfl, .cons q qs⟩
theorem r_room (oA : OkS A) {ns : List Int} (b : Brd ns) : ∃ zs d' s' c', F__law_room [.mut A.length, .tup (ns.map .int)] (A ++ [jarM d s c]) = some (.tup (zs.map .str), (A ++ [jarM d' s' c'])) ∧ PartOf ns zs := by
  have n5 := b.few
  unfold F__law_room mDef
  have hm : mDisp [((mC (.int 2)), (mLst (maCons (mC (.str "01")) (maCons (mC (.str "0")) (maCons (mC (.str "1")) (maCons (mC (.str "01")) maNil)))))), ((mC (.int 3)), (mLst (maCons (mC (.str "012")) (maCons (mC (.str "012")) (maCons (mC (.str "01")) (maCons (mC (.str "02")) (maCons (mC (.str "12")) (maCons (mC (.str "2")) (maCons (mC (.str "1")) maNil)))))))))] [some (.mut A.length), some (.tup (ns.map .int)), none, none] (A ++ [jarM d s c]) = some (.dic [(.inl 2, .lst ((menu 2).map .str)), (.inl 3, .lst ((menu 3).map .str))], (A ++ [jarM d s c])) := by kernel_rfl
  obtain ⟨ds, S', e, rr, d', s', c', rfl⟩ := lcGo_ind (ev := [some (.mut A.length), some (.tup (ns.map .int)), some (.dic [(.inl 2, .lst ((menu 2).map .str)), (.inl 3, .lst ((menu 3).map .str))]), none]) (g := gV 3) (tt := mYes) (me := mCall F__law_pick (maCons (mV 0) (maCons (mDGet (mV 2) (mV 3)) maNil))) Dv.int (fun S => ∃ d s c, S = (A ++ [jarM d s c])) (fun n x => ∃ z, x = .str z ∧ z ∈ menu n) ns (A ++ [jarM d s c]) ⟨d, s, c, rfl⟩ (by
    rintro n hn S ⟨d, s, c, rfl⟩
    have hv : valD [(.inl 2, .lst ((menu 2).map .str)), (.inl 3, .lst ((menu 3).map .str))] (.inl n) = some (.lst ((menu n).map .str)) := by
      rcases b.two n hn with rfl | rfl <;> kernel_rfl
    have l0 : 0 < (menu n).length ∧ (menu n).length < 1000 := by rcases b.two n hn with rfl | rfl <;> decide +kernel
    obtain ⟨x, hx, d', s', c', e⟩ := r_pick oA (d := d) (s := s) (c := c) (Q := .lst ((menu n).map .str)) (.inl rfl) (by rw [List.length_map]; exact l0.1) (by rw [List.length_map]; omega) (fun x hx => by
      obtain ⟨z, _, rfl⟩ := List.mem_map.mp hx
      exact c_str)
    obtain ⟨z, hz, rfl⟩ := List.mem_map.mp hx
    refine ⟨_, _, (A ++ [jarM d' s' c']), rfl, rfl, ?_, ⟨z, rfl, hz⟩, d', s', c', rfl⟩
    simp only [ap_2, ap_C, ap_V, ap_andT, ap_andV, ap_asg, ap_call, ap_cb, ap_cmeth, ap_cmethK, ap_cons, ap_dGet, ap_dIn, ap_dc, ap_drop, ap_enum, ap_eqRef, ap_extend, ap_fld, ap_fldM, ap_for, ap_gV, ap_if, ap_ifS, ap_isi, ap_it, ap_kget, ap_lc, ap_lc2, ap_lst, ap_lstL, ap_make, ap_makeK, ap_makeL, ap_meth, ap_methK, ap_moInt, ap_moNo, ap_next, ap_nil, ap_notT, ap_notV, ap_orT, ap_ownEq, ap_ownIn, ap_par, ap_prop, ap_put, ap_ret, ap_seq, ap_set, ap_sl, ap_strO, ap_tru, ap_tst, ap_tup, ap_tupOf, ap_yes, ap_zip, bnd_some, List.getElem?_cons_zero, List.getElem?_cons_succ, List.set_cons_zero, List.set_cons_succ, List.map_cons, List.map_nil, List.cons_append, List.nil_append, List.replicate_succ, List.replicate_zero, if_true, if_false, Bool.false_eq_true, reduceIte, List.length_cons, List.length_nil, sz_is, Nat.reduceAdd, lz0, lz1, lz2, lz3, lz4, lz5, lz6, lz7, lz8, lz9, lz10, lz11, lz12, lz13, lz14, lz15, Nat.zero_add, itemsOf, eq_self, Bool.not_true, Bool.not_false, Bool.true_and, Bool.and_true, true_and, and_true, decide_true, decide_false, wipeE, asQ, fTupOf, tru_bl, t_str, t_int, t_tup, i_ss, i_ii, i_tt, len_tup, len_lst, eq_int, ne_int, eq_str, ne_str, d_dic, k_str, k_int, List.length_map, hv, e])
  obtain ⟨zs, rfl, q⟩ := all2_map (f := Dv.int) (Q := fun n z => z ∈ menu n) (fun _ _ h => h) rr
  refine ⟨zs, d', s', c', ?_, q⟩
  have l := PartOf.len q
  simp only [ap_2, ap_C, ap_V, ap_andT, ap_andV, ap_asg, ap_call, ap_cb, ap_cmeth, ap_cmethK, ap_cons, ap_dGet, ap_dIn, ap_dc, ap_drop, ap_enum, ap_eqRef, ap_extend, ap_fld, ap_fldM, ap_for, ap_gV, ap_if, ap_ifS, ap_isi, ap_it, ap_kget, ap_lc, ap_lc2, ap_lst, ap_lstL, ap_make, ap_makeK, ap_makeL, ap_meth, ap_methK, ap_moInt, ap_moNo, ap_next, ap_nil, ap_notT, ap_notV, ap_orT, ap_ownEq, ap_ownIn, ap_par, ap_prop, ap_put, ap_ret, ap_seq, ap_set, ap_sl, ap_strO, ap_tru, ap_tst, ap_tup, ap_tupOf, ap_yes, ap_zip, bnd_some, List.getElem?_cons_zero, List.getElem?_cons_succ, List.set_cons_zero, List.set_cons_succ, List.map_cons, List.map_nil, List.cons_append, List.nil_append, List.replicate_succ, List.replicate_zero, if_true, if_false, Bool.false_eq_true, reduceIte, List.length_cons, List.length_nil, sz_is, Nat.reduceAdd, lz0, lz1, lz2, lz3, lz4, lz5, lz6, lz7, lz8, lz9, lz10, lz11, lz12, lz13, lz14, lz15, Nat.zero_add, itemsOf, eq_self, Bool.not_true, Bool.not_false, Bool.true_and, Bool.and_true, true_and, and_true, decide_true, decide_false, wipeE, asQ, fTupOf, hm, e]
  rw [bnd_if (by rw [List.length_map]; omega)]
  simp only [ap_2, ap_C, ap_V, ap_andT, ap_andV, ap_asg, ap_call, ap_cb, ap_cmeth, ap_cmethK, ap_cons, ap_dGet, ap_dIn, ap_dc, ap_drop, ap_enum, ap_eqRef, ap_extend, ap_fld, ap_fldM, ap_for, ap_gV, ap_if, ap_ifS, ap_isi, ap_it, ap_kget, ap_lc, ap_lc2, ap_lst, ap_lstL, ap_make, ap_makeK, ap_makeL, ap_meth, ap_methK, ap_moInt, ap_moNo, ap_next, ap_nil, ap_notT, ap_notV, ap_orT, ap_ownEq, ap_ownIn, ap_par, ap_prop, ap_put, ap_ret, ap_seq, ap_set, ap_sl, ap_strO, ap_tru, ap_tst, ap_tup, ap_tupOf, ap_yes, ap_zip, bnd_some, List.getElem?_cons_zero, List.getElem?_cons_succ, List.set_cons_zero, List.set_cons_succ, List.map_cons, List.map_nil, List.cons_append, List.nil_append, List.replicate_succ, List.replicate_zero, if_true, if_false, Bool.false_eq_true, reduceIte, List.length_cons, List.length_nil, sz_is, Nat.reduceAdd, lz0, lz1, lz2, lz3, lz4, lz5, lz6, lz7, lz8, lz9, lz10, lz11, lz12, lz13, lz14, lz15, Nat.zero_add, itemsOf, eq_self, Bool.not_true, Bool.not_false, Bool.true_and, Bool.and_true, true_and, and_true, decide_true, decide_false, wipeE, asQ, fTupOf]
  exact fin_j oA c_tups
end
end Mi

set_option Elab.async false
set_option linter.all false
set_option maxRecDepth 100000
set_option maxHeartbeats 1000000
namespace Mi
open PySem PySem.Spec PyProof.Rows L2 Sw
section
variable {d s c : Int} {ns : List Int} {A : Sto}
theorem p01 {a b : Dv} : permA [0, 1] [a] [b] = [a, b] := rfl
theorem p021 {a b x : Dv} : permA [0, 2, 1] [a] [b, x] = [a, x, b] := rfl
theorem nm_beside : (lookD (fsB ns) (Str.ofString "beside")).isNone = true := by kernel_rfl
theorem nm_distance : (lookD (fsB ns) (Str.ofString "distance")).isNone = true := by kernel_rfl
theorem nm_inside : (lookD (fsB ns) (Str.ofString "inside")).isNone = true := by kernel_rfl
theorem Nr_sub {z y : Str} (h : y ∈ Nr ns z) : y ∈ St ns := (List.mem_filter.mp h).1
theorem Nr_len {z : Str} (b : Brd ns) : (Nr ns z).length ≤ 243 := Nat.le_trans (List.length_filter_le _ _) (setsOf_len b.fit)
theorem sz_Nr {z : Str} (b : Brd ns) : Sz 1458 1 (.tuple ((Nr ns z).map .str)) :=
  sz_strs (k := 243) (m := 5) (fun y hy => ⟨b.okT (Nr_sub hy), by have := b.few; have := b.len (Nr_sub hy); omega⟩) (Nr_len b)
theorem ints_toP {S : Sto} {a : Int} : toPS S (.lst [.int a, .int a]) = some (.list [.int a, .int a]) := by
  show toP (.lst [.int a, .int a]) = _
  simp [toP, toPL]
theorem sz_ints2 {a : Int} (h : a.natAbs < 10 ^ 12) : Sz 100000 60 (.list [.int a, .int a]) := sz_two (b := 0) (Sz.int h) (by omega)
theorem set_one {ev : Ev} {i : Nat} : True := trivial
end
end Mi

set_option Elab.async false
set_option linter.all false
set_option maxRecDepth 100000
set_option maxHeartbeats 1000000
namespace Mi
open PySem PySem.Spec PyProof.Rows L2 Sw
section
variable {S : Sto} {ns : List Int}
theorem asL_lst {xs : List Dv} : asL S (.lst xs) = some xs := rfl
theorem enum_map {α : Type} {f : α → Dv} : ∀ (xs : List α) (i : Nat), enumD i (xs.map f) = (xs.zipIdx i).map fun p => .tup [.int (p.2 : Nat), f p.1]
  | [], _ => rfl
  | x :: xs, i => by
    rw [List.map_cons, enumD, enum_map xs (i + 1), List.zipIdx_cons, List.map_cons]
def nbB : MS := (sSeq (sSet 5 (mSl (mV 0) moNo (moInt (mV 3))))
      (sSeq (sSet 6 (mSl (mV 0) (moInt (m2 fAdd (mV 3) (mC (.int 1)))) moNo))
      (sDrop (mExtend (mV 2) (maCons (mLc [7] (mIt (mV 4)) (gV 7) (mTst (m2 fNe (mV 7) (m2 fIx (mV 0) (mV 3)))) (m2 fAdd (m2 fAdd (mV 5) (mV 7)) (mV 6))) maNil)))))
theorem sl_str {a b : Option Int} {z : Str} (h : z.length ≤ 1000000) : fSl S (.str z) a b = some (.str (cutS z a b)) := by
  show (if z.length ≤ sizeLine then some (Dv.str (cutS z a b)) else none) = _
  exact if_pos (by rw [sz_is]; omega)
theorem nbrN_len {s : Str} {zs : List Str} (f : Fits zs) : ∀ k, (nbrN s zs k).length ≤ k * 3
  | 0 => Nat.zero_le _
  | k + 1 => by
    have ih := nbrN_len (s := s) f k
    unfold nbrN
    rw [List.length_append]
    split
    · rename_i z c h _
      have g := f.each z (List.mem_of_getElem? h)
      have g2 := List.length_filter_le (neS c) (chars z)
      unfold nbr1
      rw [List.length_map]
      omega
    · simp only [List.length_nil]
      omega
theorem zip_at {α : Type} {xs : List α} {pre post : List (α × Nat)} {x : α × Nat} (e : xs.zipIdx = pre ++ x :: post) : x.2 = pre.length ∧ xs[pre.length]? = some x.1 := by
  have h : (xs.zipIdx)[pre.length]? = some x := by
    rw [e, List.getElem?_append_right (Nat.le_refl _), Nat.sub_self]
    rfl
  rw [List.getElem?_zipIdx] at h
  cases h2 : xs[pre.length]? with
  | none => rw [h2] at h; cases h
  | some y =>
    rw [h2] at h
    cases h
    exact ⟨by simp, rfl⟩
theorem r_nbr {z : Str} {zs : List Str} (o : OkS S) (f : Fits zs) (hz : z.length = zs.length) : F_neighbours_of [.str z, .tup (zs.map .str)] S = some (.tup ((isortS (nbrN z zs zs.length)).map .str), S) := by
  have z5 := f.many
  have h := forGo_ind (g := gT 2 (gsCons (gV 3) (gsCons (gV 4) gsNil))) (b := nbB) (fun p : Str × Nat => Dv.tup [.int (p.2 : Nat), .str p.1])
    (fun pre ev1 S1 => ∃ a b c e k, ev1 = [some (.str z), some (.tup (zs.map .str)), some (.mut S.length), a, b, c, e, k] ∧ S1 = S ++ [.lst ((nbrN z zs pre.length).map .str)]) zs.zipIdx ?_ zs.zipIdx [] [some (.str z), some (.tup (zs.map .str)), some (.mut S.length), none, none, none, none, none] (S ++ [.lst []]) rfl ⟨_, _, _, _, _, rfl, rfl⟩
  · obtain ⟨ev', S', e, a, b, c, u, k, rfl, rfl⟩ := h
    rw [List.length_zipIdx] at e
    unfold nbB at e
    have es : fSortS (S ++ [.lst ((nbrN z zs zs.length).map .str)]) [.mut S.length] = some (.lst ((isortS (nbrN z zs zs.length)).map .str)) := by
      unfold fSortS
      dsimp only
      rw [new_asS]
      dsimp only
      rw [asStrs_map]
    unfold F_neighbours_of mDef
    simp only [ap_2, ap_C, ap_V, ap_andT, ap_andV, ap_asg, ap_call, ap_cb, ap_cmeth, ap_cmethK, ap_cons, ap_dGet, ap_dIn, ap_dc, ap_drop, ap_enum, ap_eqRef, ap_extend, ap_fld, ap_fldM, ap_for, ap_gV, ap_if, ap_ifS, ap_isi, ap_it, ap_kget, ap_lc, ap_lc2, ap_lst, ap_lstL, ap_make, ap_makeK, ap_makeL, ap_meth, ap_methK, ap_moInt, ap_moNo, ap_next, ap_nil, ap_notT, ap_notV, ap_orT, ap_ownEq, ap_ownIn, ap_par, ap_prop, ap_put, ap_ret, ap_seq, ap_set, ap_sl, ap_strO, ap_tru, ap_tst, ap_tup, ap_tupOf, ap_yes, ap_zip, bnd_some, List.getElem?_cons_zero, List.getElem?_cons_succ, List.set_cons_zero, List.set_cons_succ, List.map_cons, List.map_nil, List.cons_append, List.nil_append, List.replicate_succ, List.replicate_zero, if_true, if_false, Bool.false_eq_true, reduceIte, List.length_cons, List.length_nil, sz_is, Nat.reduceAdd, lz0, lz1, lz2, lz3, lz4, lz5, lz6, lz7, lz8, lz9, lz10, lz11, lz12, lz13, lz14, lz15, Nat.zero_add, itemsOf, eq_self, Bool.not_true, Bool.not_false, Bool.true_and, Bool.and_true, true_and, and_true, decide_true, decide_false, wipeE, asQ, fTupOf, tru_bl, t_str, t_int, t_tup, i_ss, i_ii, i_tt, len_tup, len_lst, eq_int, ne_int, eq_str, ne_str, d_dic, k_str, k_int, List.length_map, enum_map, e, es]
    exact fin_app o c_tups
  · rintro pre ⟨x, i⟩ post ev1 S1 e ⟨a, b, c, u, k, rfl, rfl⟩
    obtain ⟨hi, hx⟩ := zip_at e
    dsimp only at hi hx
    subst hi
    have hk : pre.length < zs.length := (List.getElem?_eq_some_iff.mp hx).1
    obtain ⟨w, hw, hc⟩ := ch_at (s := z) (k := pre.length) (by omega)
    have c1 := cutS_length z none (some (pre.length : Int))
    have c2 := cutS_length z (some ((pre.length : Int) + 1)) none
    have cx := f.each x (List.mem_of_getElem? hx)
    have en : nbrN z zs (pre.length + 1) = nbrN z zs pre.length ++ nbr1 z x (ch z pre.length) pre.length := by
      show nbrN z zs pre.length ++ (match zs[pre.length]?, (chars z)[pre.length]? with | some z', some c => nbr1 z z' c pre.length | _, _ => []) = _
      rw [hx, chars_at hw, hc]
    have ll := nbrN_len (s := z) f (pre.length + 1)
    refine ⟨_, [some (.str z), some (.tup (zs.map .str)), some (.mut S.length), some (.int (pre.length : Nat)), some (.str x), some (.str (cutS z none (some (pre.length : Int)))), some (.str (cutS z (some ((pre.length : Int) + 1)) none)), k], S ++ [.lst ((nbrN z zs (pre ++ [(x, pre.length)]).length).map .str)], rfl, ?_, ⟨_, _, _, _, _, rfl, rfl⟩⟩
    rw [List.length_append, List.length_singleton, en]
    rw [en, List.length_append] at ll
    have el : (((chars x).filter fun b => !decide (b = ch z pre.length)).map fun b => Dv.str (cutS z none (some (pre.length : Int)) ++ b ++ cutS z (some ((pre.length : Int) + 1)) none)) = (nbr1 z x (ch z pre.length) pre.length).map .str := by
      unfold nbr1
      rw [List.map_map]
      have : (fun b => !decide (b = ch z pre.length)) = neS (ch z pre.length) := by
        funext b
        unfold neS
        cases h : (b == ch z pre.length) <;> simp_all
      rw [this]
      rfl
    unfold nbB
    simp only [ap_2, ap_C, ap_V, ap_andT, ap_andV, ap_asg, ap_call, ap_cb, ap_cmeth, ap_cmethK, ap_cons, ap_dGet, ap_dIn, ap_dc, ap_drop, ap_enum, ap_eqRef, ap_extend, ap_fld, ap_fldM, ap_for, ap_gV, ap_if, ap_ifS, ap_isi, ap_it, ap_kget, ap_lc, ap_lc2, ap_lst, ap_lstL, ap_make, ap_makeK, ap_makeL, ap_meth, ap_methK, ap_moInt, ap_moNo, ap_next, ap_nil, ap_notT, ap_notV, ap_orT, ap_ownEq, ap_ownIn, ap_par, ap_prop, ap_put, ap_ret, ap_seq, ap_set, ap_sl, ap_strO, ap_tru, ap_tst, ap_tup, ap_tupOf, ap_yes, ap_zip, bnd_some, List.getElem?_cons_zero, List.getElem?_cons_succ, List.set_cons_zero, List.set_cons_succ, List.map_cons, List.map_nil, List.cons_append, List.nil_append, List.replicate_succ, List.replicate_zero, if_true, if_false, Bool.false_eq_true, reduceIte, List.length_cons, List.length_nil, sz_is, Nat.reduceAdd, lz0, lz1, lz2, lz3, lz4, lz5, lz6, lz7, lz8, lz9, lz10, lz11, lz12, lz13, lz14, lz15, Nat.zero_add, itemsOf, eq_self, Bool.not_true, Bool.not_false, Bool.true_and, Bool.and_true, true_and, and_true, decide_true, decide_false, wipeE, asQ, fTupOf, tru_bl, t_str, t_int, t_tup, i_ss, i_ii, i_tt, len_tup, len_lst, eq_int, ne_int, eq_str, ne_str, d_dic, k_str, k_int, List.length_map, sl_str (S := S ++ [Mo.lst ((nbrN z zs pre.length).map .str)]) (z := z) (by omega), a_int, new_isL]
    rw [lcGo_map (f := Dv.str) (e1 := fun b => [some (.str z), some (.tup (zs.map .str)), some (.mut S.length), some (.int (pre.length : Nat)), some (.str x), some (.str (cutS z none (some (pre.length : Int)))), some (.str (cutS z (some ((pre.length : Int) + 1)) none)), some (.str b)]) (p := fun b => !decide (b = ch z pre.length)) (h := fun b => Dv.str (cutS z none (some (pre.length : Int)) ++ b ++ cutS z (some ((pre.length : Int) + 1)) none))]
    · rw [el, bnd_some, bnd_if (by rw [List.length_map]; omega)]
      simp only [ap_2, ap_C, ap_V, ap_andT, ap_andV, ap_asg, ap_call, ap_cb, ap_cmeth, ap_cmethK, ap_cons, ap_dGet, ap_dIn, ap_dc, ap_drop, ap_enum, ap_eqRef, ap_extend, ap_fld, ap_fldM, ap_for, ap_gV, ap_if, ap_ifS, ap_isi, ap_it, ap_kget, ap_lc, ap_lc2, ap_lst, ap_lstL, ap_make, ap_makeK, ap_makeL, ap_meth, ap_methK, ap_moInt, ap_moNo, ap_next, ap_nil, ap_notT, ap_notV, ap_orT, ap_ownEq, ap_ownIn, ap_par, ap_prop, ap_put, ap_ret, ap_seq, ap_set, ap_sl, ap_strO, ap_tru, ap_tst, ap_tup, ap_tupOf, ap_yes, ap_zip, bnd_some, List.getElem?_cons_zero, List.getElem?_cons_succ, List.set_cons_zero, List.set_cons_succ, List.map_cons, List.map_nil, List.cons_append, List.nil_append, List.replicate_succ, List.replicate_zero, if_true, if_false, Bool.false_eq_true, reduceIte, List.length_cons, List.length_nil, sz_is, Nat.reduceAdd, lz0, lz1, lz2, lz3, lz4, lz5, lz6, lz7, lz8, lz9, lz10, lz11, lz12, lz13, lz14, lz15, Nat.zero_add, itemsOf, eq_self, Bool.not_true, Bool.not_false, Bool.true_and, Bool.and_true, true_and, and_true, decide_true, decide_false, wipeE, asQ, fTupOf, tru_bl, t_str, t_int, t_tup, i_ss, i_ii, i_tt, len_tup, len_lst, eq_int, ne_int, eq_str, ne_str, d_dic, k_str, k_int, List.length_map, new_at, asL_lst]
      rw [if_pos (by omega)]
      simp only [ap_2, ap_C, ap_V, ap_andT, ap_andV, ap_asg, ap_call, ap_cb, ap_cmeth, ap_cmethK, ap_cons, ap_dGet, ap_dIn, ap_dc, ap_drop, ap_enum, ap_eqRef, ap_extend, ap_fld, ap_fldM, ap_for, ap_gV, ap_if, ap_ifS, ap_isi, ap_it, ap_kget, ap_lc, ap_lc2, ap_lst, ap_lstL, ap_make, ap_makeK, ap_makeL, ap_meth, ap_methK, ap_moInt, ap_moNo, ap_next, ap_nil, ap_notT, ap_notV, ap_orT, ap_ownEq, ap_ownIn, ap_par, ap_prop, ap_put, ap_ret, ap_seq, ap_set, ap_sl, ap_strO, ap_tru, ap_tst, ap_tup, ap_tupOf, ap_yes, ap_zip, bnd_some, List.getElem?_cons_zero, List.getElem?_cons_succ, List.set_cons_zero, List.set_cons_succ, List.map_cons, List.map_nil, List.cons_append, List.nil_append, List.replicate_succ, List.replicate_zero, if_true, if_false, Bool.false_eq_true, reduceIte, List.length_cons, List.length_nil, sz_is, Nat.reduceAdd, lz0, lz1, lz2, lz3, lz4, lz5, lz6, lz7, lz8, lz9, lz10, lz11, lz12, lz13, lz14, lz15, Nat.zero_add, itemsOf, eq_self, Bool.not_true, Bool.not_false, Bool.true_and, Bool.and_true, true_and, and_true, decide_true, decide_false, wipeE, asQ, fTupOf, tru_bl, t_str, t_int, t_tup, i_ss, i_ii, i_tt, len_tup, len_lst, eq_int, ne_int, eq_str, ne_str, d_dic, k_str, k_int, List.length_map, new_set, List.map_append]
    · intro b hb
      have b1 := chars_one b hb
      refine ⟨rfl, ?_, fun _ => ?_⟩
      · simp only [ap_2, ap_C, ap_V, ap_andT, ap_andV, ap_asg, ap_call, ap_cb, ap_cmeth, ap_cmethK, ap_cons, ap_dGet, ap_dIn, ap_dc, ap_drop, ap_enum, ap_eqRef, ap_extend, ap_fld, ap_fldM, ap_for, ap_gV, ap_if, ap_ifS, ap_isi, ap_it, ap_kget, ap_lc, ap_lc2, ap_lst, ap_lstL, ap_make, ap_makeK, ap_makeL, ap_meth, ap_methK, ap_moInt, ap_moNo, ap_next, ap_nil, ap_notT, ap_notV, ap_orT, ap_ownEq, ap_ownIn, ap_par, ap_prop, ap_put, ap_ret, ap_seq, ap_set, ap_sl, ap_strO, ap_tru, ap_tst, ap_tup, ap_tupOf, ap_yes, ap_zip, bnd_some, List.getElem?_cons_zero, List.getElem?_cons_succ, List.set_cons_zero, List.set_cons_succ, List.map_cons, List.map_nil, List.cons_append, List.nil_append, List.replicate_succ, List.replicate_zero, if_true, if_false, Bool.false_eq_true, reduceIte, List.length_cons, List.length_nil, sz_is, Nat.reduceAdd, lz0, lz1, lz2, lz3, lz4, lz5, lz6, lz7, lz8, lz9, lz10, lz11, lz12, lz13, lz14, lz15, Nat.zero_add, itemsOf, eq_self, Bool.not_true, Bool.not_false, Bool.true_and, Bool.and_true, true_and, and_true, decide_true, decide_false, wipeE, asQ, fTupOf, tru_bl, t_str, t_int, t_tup, i_ss, i_ii, i_tt, len_tup, len_lst, eq_int, ne_int, eq_str, ne_str, d_dic, k_str, k_int, List.length_map, ix_str (S := S ++ [Mo.lst ((nbrN z zs pre.length).map .str)]) (a := z) (k := pre.length) (by omega) (by omega)]
      · simp only [ap_2, ap_C, ap_V, ap_andT, ap_andV, ap_asg, ap_call, ap_cb, ap_cmeth, ap_cmethK, ap_cons, ap_dGet, ap_dIn, ap_dc, ap_drop, ap_enum, ap_eqRef, ap_extend, ap_fld, ap_fldM, ap_for, ap_gV, ap_if, ap_ifS, ap_isi, ap_it, ap_kget, ap_lc, ap_lc2, ap_lst, ap_lstL, ap_make, ap_makeK, ap_makeL, ap_meth, ap_methK, ap_moInt, ap_moNo, ap_next, ap_nil, ap_notT, ap_notV, ap_orT, ap_ownEq, ap_ownIn, ap_par, ap_prop, ap_put, ap_ret, ap_seq, ap_set, ap_sl, ap_strO, ap_tru, ap_tst, ap_tup, ap_tupOf, ap_yes, ap_zip, bnd_some, List.getElem?_cons_zero, List.getElem?_cons_succ, List.set_cons_zero, List.set_cons_succ, List.map_cons, List.map_nil, List.cons_append, List.nil_append, List.replicate_succ, List.replicate_zero, if_true, if_false, Bool.false_eq_true, reduceIte, List.length_cons, List.length_nil, sz_is, Nat.reduceAdd, lz0, lz1, lz2, lz3, lz4, lz5, lz6, lz7, lz8, lz9, lz10, lz11, lz12, lz13, lz14, lz15, Nat.zero_add, itemsOf, eq_self, Bool.not_true, Bool.not_false, Bool.true_and, Bool.and_true, true_and, and_true, decide_true, decide_false, wipeE, asQ, fTupOf, tru_bl, t_str, t_int, t_tup, i_ss, i_ii, i_tt, len_tup, len_lst, eq_int, ne_int, eq_str, ne_str, d_dic, k_str, k_int, List.length_map, add_str (S := S ++ [Mo.lst ((nbrN z zs pre.length).map .str)]) (a := cutS z none (some (pre.length : Int))) (b := b) (by rw [sz_is]; omega), add_str (S := S ++ [Mo.lst ((nbrN z zs pre.length).map .str)]) (a := cutS z none (some (pre.length : Int)) ++ b) (b := cutS z (some ((pre.length : Int) + 1)) none) (by rw [str_len_app, sz_is]; omega)]
end
end Mi

set_option Elab.async false
set_option linter.all false
set_option maxRecDepth 100000
set_option maxHeartbeats 1000000
namespace Mi
open PySem PySem.Spec PyProof.Rows L2 Sw
section
variable {S : Sto} {ns : List Int}
theorem new_asO {c : Str} {fs : List (Str × Dv)} : asO (S ++ [.ins c fs]) (.mut S.length) = some (c, fs) := by
  unfold asO
  dsimp only
  rw [new_at]
theorem putD_new {k : Key} {v : Dv} {acc : List (Key × Dv)} (h : ∀ p ∈ acc, p.1 ≠ k) : putD acc k v = acc ++ [(k, v)] := by
  unfold putD
  have : (acc.any fun kv => decide (kv.1 = k)) = false := by
    rw [List.any_eq_false]
    intro p hp
    simpa using h p hp
  rw [this]
  rfl
theorem dcGo_map {ev : Ev} {g : MG} {tt : MT} {mk mv : ME} (e1 : Str → Ev) (h : Str → Dv) : ∀ (xs : List Str) (acc : List (Key × Dv)), acc.length + xs.length ≤ 1000000 → xs.Nodup → (∀ p ∈ acc, ∀ x ∈ xs, p.1 ≠ .inr x) →
    (∀ x ∈ xs, g (.str x) ev = some (e1 x) ∧ tt (e1 x) S = some (true, S) ∧ mk (e1 x) S = some (.str x, S) ∧ mv (e1 x) S = some (h x, S)) →
    dcGo g tt mk mv ev (xs.map .str) acc S = some (acc ++ xs.map fun x => (.inr x, h x), S)
  | [], acc, _, _, _, _ => by
    show some (acc, S) = _
    rw [List.map_nil, List.append_nil]
  | x :: xs, acc, l, nd, ne, k => by
    obtain ⟨a, b, c, d⟩ := k x (.head _)
    rw [List.length_cons] at l
    have nd2 := List.nodup_cons.mp nd
    have ih := dcGo_map e1 h xs (acc ++ [(.inr x, h x)]) (by rw [List.length_append, List.length_singleton]; omega) nd2.2 (fun p hp y hy => by
      rcases List.mem_append.mp hp with hp | hp
      · exact ne p hp y (.tail _ hy)
      · rw [List.mem_singleton.mp hp]
        intro e
        cases e
        exact nd2.1 hy) fun y m => k y (.tail _ m)
    rw [List.map_cons, dcGo, a]
    dsimp only
    rw [b, bnd_some, if_pos rfl, c, bnd_some, d, bnd_some]
    dsimp only [keyOf]
    rw [if_pos (by rw [sz_is]; omega), putD_new (fun p hp => ne p hp x (.head _)), ih, List.append_assoc]
    rfl
def f1 (ns : List Int) : List (Str × Dv) := [("_sizes", .tup (ns.map .int))]
def f2 (ns : List Int) : List (Str × Dv) := [("_sizes", .tup (ns.map .int)), ("_whole", .tup ((wholeOf ns).map .str))]
def f3 (ns : List Int) : List (Str × Dv) := [("_sizes", .tup (ns.map .int)), ("_whole", .tup ((wholeOf ns).map .str)), ("_settings", .tup ((St ns).map .str))]
theorem pf1 : putFD (Str.ofString "_sizes") (.tup (ns.map .int)) [] = f1 ns := by kernel_rfl
theorem pf2 : putFD (Str.ofString "_whole") (.tup ((wholeOf ns).map .str)) (f1 ns) = f2 ns := by kernel_rfl
theorem pf3 : putFD (Str.ofString "_settings") (.tup ((St ns).map .str)) (f2 ns) = f3 ns := by kernel_rfl
theorem pf4 : putFD (Str.ofString "_beside") (.dic (besD ns)) (f3 ns) = fsB ns := by kernel_rfl
theorem lf2 : lookD (f2 ns) (Str.ofString "_whole") = some (.tup ((wholeOf ns).map .str)) := by kernel_rfl
theorem lf3 : lookD (f3 ns) (Str.ofString "_whole") = some (.tup ((wholeOf ns).map .str)) := by kernel_rfl
theorem lf3s : lookD (f3 ns) (Str.ofString "_settings") = some (.tup ((St ns).map .str)) := by kernel_rfl
theorem n0 : ((0 : Nat) < 1000) = True := eq_true (by decide)
theorem n1 : ((f1 ns).length < 1000) = True := eq_true (by unfold f1; simp)
theorem n2 : ((f2 ns).length < 1000) = True := eq_true (by unfold f2; simp)
theorem n3 : ((f3 ns).length < 1000) = True := eq_true (by unfold f3; simp)
theorem o0 (o : OkS S) : OkS (S ++ [.ins "Board" []]) := ok_app o (by simp [okMo, cleanF])
theorem o1 (o : OkS S) : OkS (S ++ [.ins "Board" (f1 ns)]) := ok_app o (by simp [okMo, f1, cleanF, clean, cl_ints])
theorem o2 (o : OkS S) : OkS (S ++ [.ins "Board" (f2 ns)]) := ok_app o (by simp [okMo, f2, cleanF, clean, cl_ints, cl_strs])
theorem o3 (o : OkS S) : OkS (S ++ [.ins "Board" (f3 ns)]) := ok_app o (by simp [okMo, f3, cleanF, clean, cl_ints, cl_strs])
theorem o4 (o : OkS S) : OkS (S ++ [.ins "Board" (fsB ns)]) := ok_app o (by simp [okMo, fsB, cleanF, clean, cl_ints, cl_strs, cl_bes])
theorem r_init (o : OkS S) (b : Brd ns) : F_Board___init__ [.mut S.length, .tup (ns.map .int)] (S ++ [.ins "Board" []]) = some (.non, S ++ [.ins "Board" (fsB ns)]) := by
  have n5 := b.few
  have few : (St ns).length ≤ 243 := setsOf_len b.fit
  have l0 : ns.length ≠ 0 := fun h => b.some_ (List.length_eq_zero_iff.mp h)
  have l1 : ((ns.length : Nat) : Int) ≠ 0 := by omega
  unfold F_Board___init__ mDef
  have o1' := o1 (S := S) (ns := ns) o
  have o2' := o2 (S := S) (ns := ns) o
  have o3' := o3 (S := S) (ns := ns) o
  have nn : ∀ S : Sto, fNotN S .non .non = some (.bl false) := fun _ => rfl
  simp only [ap_2, ap_C, ap_V, ap_andT, ap_andV, ap_asg, ap_call, ap_cb, ap_cmeth, ap_cmethK, ap_cons, ap_dGet, ap_dIn, ap_dc, ap_drop, ap_enum, ap_eqRef, ap_extend, ap_fld, ap_fldM, ap_for, ap_gV, ap_if, ap_ifS, ap_isi, ap_it, ap_kget, ap_lc, ap_lc2, ap_lst, ap_lstL, ap_make, ap_makeK, ap_makeL, ap_meth, ap_methK, ap_moInt, ap_moNo, ap_next, ap_nil, ap_notT, ap_notV, ap_orT, ap_ownEq, ap_ownIn, ap_par, ap_prop, ap_put, ap_ret, ap_seq, ap_set, ap_sl, ap_strO, ap_tru, ap_tst, ap_tup, ap_tupOf, ap_yes, ap_zip, bnd_some, List.getElem?_cons_zero, List.getElem?_cons_succ, List.set_cons_zero, List.set_cons_succ, List.map_cons, List.map_nil, List.cons_append, List.nil_append, List.replicate_succ, List.replicate_zero, if_true, if_false, Bool.false_eq_true, reduceIte, List.length_cons, List.length_nil, sz_is, Nat.reduceAdd, lz0, lz1, lz2, lz3, lz4, lz5, lz6, lz7, lz8, lz9, lz10, lz11, lz12, lz13, lz14, lz15, Nat.zero_add, itemsOf, eq_self, Bool.not_true, Bool.not_false, Bool.true_and, Bool.and_true, true_and, and_true, decide_true, decide_false, wipeE, asQ, fTupOf, tru_bl, t_str, t_int, t_tup, i_ss, i_ii, i_tt, len_tup, len_lst, eq_int, ne_int, eq_str, ne_str, d_dic, k_str, k_int, List.length_map, ib_b, b_asO, b_cls, b_ty, b_sizes, b_whole, b_settings, b_beside, l1, b.fws _ (o0 o), nn, new_at, new_set, n0, pf1, List.append_assoc]
  rw [lcGo_all (f := Dv.int) (e1 := fun n => [some (.mut S.length), some (.tup (ns.map .int)), some .non, none, some (.int n)]) (h := fun n => Dv.str (cutS "012" none (some n)))]
  rotate_left
  · exact fun n _ => ⟨rfl, rfl, by simp only [ap_2, ap_C, ap_V, ap_andT, ap_andV, ap_asg, ap_call, ap_cb, ap_cmeth, ap_cmethK, ap_cons, ap_dGet, ap_dIn, ap_dc, ap_drop, ap_enum, ap_eqRef, ap_extend, ap_fld, ap_fldM, ap_for, ap_gV, ap_if, ap_ifS, ap_isi, ap_it, ap_kget, ap_lc, ap_lc2, ap_lst, ap_lstL, ap_make, ap_makeK, ap_makeL, ap_meth, ap_methK, ap_moInt, ap_moNo, ap_next, ap_nil, ap_notT, ap_notV, ap_orT, ap_ownEq, ap_ownIn, ap_par, ap_prop, ap_put, ap_ret, ap_seq, ap_set, ap_sl, ap_strO, ap_tru, ap_tst, ap_tup, ap_tupOf, ap_yes, ap_zip, bnd_some, List.getElem?_cons_zero, List.getElem?_cons_succ, List.set_cons_zero, List.set_cons_succ, List.map_cons, List.map_nil, List.cons_append, List.nil_append, List.replicate_succ, List.replicate_zero, if_true, if_false, Bool.false_eq_true, reduceIte, List.length_cons, List.length_nil, sz_is, Nat.reduceAdd, lz0, lz1, lz2, lz3, lz4, lz5, lz6, lz7, lz8, lz9, lz10, lz11, lz12, lz13, lz14, lz15, Nat.zero_add, itemsOf, eq_self, Bool.not_true, Bool.not_false, Bool.true_and, Bool.and_true, true_and, and_true, decide_true, decide_false, wipeE, asQ, fTupOf, tru_bl, t_str, t_int, t_tup, i_ss, i_ii, i_tt, len_tup, len_lst, eq_int, ne_int, eq_str, ne_str, d_dic, k_str, k_int, List.length_map, ib_b, b_asO, b_cls, b_ty, b_sizes, b_whole, b_settings, b_beside, sl_012]⟩
  have e : ns.map (fun n => Dv.str (cutS "012" none (some n))) = (wholeOf ns).map .str := by
    unfold wholeOf
    rw [List.map_map]
    rfl
  have n5' : (ns.length ≤ 16777216) = True := eq_true (by omega)
  simp only [ap_2, ap_C, ap_V, ap_andT, ap_andV, ap_asg, ap_call, ap_cb, ap_cmeth, ap_cmethK, ap_cons, ap_dGet, ap_dIn, ap_dc, ap_drop, ap_enum, ap_eqRef, ap_extend, ap_fld, ap_fldM, ap_for, ap_gV, ap_if, ap_ifS, ap_isi, ap_it, ap_kget, ap_lc, ap_lc2, ap_lst, ap_lstL, ap_make, ap_makeK, ap_makeL, ap_meth, ap_methK, ap_moInt, ap_moNo, ap_next, ap_nil, ap_notT, ap_notV, ap_orT, ap_ownEq, ap_ownIn, ap_par, ap_prop, ap_put, ap_ret, ap_seq, ap_set, ap_sl, ap_strO, ap_tru, ap_tst, ap_tup, ap_tupOf, ap_yes, ap_zip, bnd_some, List.getElem?_cons_zero, List.getElem?_cons_succ, List.set_cons_zero, List.set_cons_succ, List.map_cons, List.map_nil, List.cons_append, List.nil_append, List.replicate_succ, List.replicate_zero, if_true, if_false, Bool.false_eq_true, reduceIte, List.length_cons, List.length_nil, sz_is, Nat.reduceAdd, lz0, lz1, lz2, lz3, lz4, lz5, lz6, lz7, lz8, lz9, lz10, lz11, lz12, lz13, lz14, lz15, Nat.zero_add, itemsOf, eq_self, Bool.not_true, Bool.not_false, Bool.true_and, Bool.and_true, true_and, and_true, decide_true, decide_false, wipeE, asQ, fTupOf, tru_bl, t_str, t_int, t_tup, i_ss, i_ii, i_tt, len_tup, len_lst, eq_int, ne_int, eq_str, ne_str, d_dic, k_str, k_int, List.length_map, ib_b, b_asO, b_cls, b_ty, b_sizes, b_whole, b_settings, b_beside, e, whole_len (ns := ns), n5', new_at, new_set, n1, n2, n3, pf2, new_asO, lf2, r_settings o2' b.fit, show setsOf (wholeOf ns) = St ns from rfl, pf3, lf3, lf3s]
  rw [dcGo_map (e1 := fun z => [some (.mut S.length), some (.tup (ns.map .int)), some .non, some (.str z), none]) (h := fun z => Dv.tup ((Nr ns z).map .str)) (St ns) [] (by simp; omega) b.nd (fun p hp => by cases hp)]
  rotate_left
  · intro z hz
    have hn : F_neighbours_of [.str z, .tup ((wholeOf ns).map .str)] (S ++ [.ins "Board" (f3 ns)]) = some (.tup ((Nr ns z).map .str), S ++ [.ins "Board" (f3 ns)]) := by
      rw [r_nbr o3' b.fit (by rw [b.len hz, whole_len]), b.nbr z hz]
      rfl
    refine ⟨rfl, rfl, rfl, ?_⟩
    simp only [ap_2, ap_C, ap_V, ap_andT, ap_andV, ap_asg, ap_call, ap_cb, ap_cmeth, ap_cmethK, ap_cons, ap_dGet, ap_dIn, ap_dc, ap_drop, ap_enum, ap_eqRef, ap_extend, ap_fld, ap_fldM, ap_for, ap_gV, ap_if, ap_ifS, ap_isi, ap_it, ap_kget, ap_lc, ap_lc2, ap_lst, ap_lstL, ap_make, ap_makeK, ap_makeL, ap_meth, ap_methK, ap_moInt, ap_moNo, ap_next, ap_nil, ap_notT, ap_notV, ap_orT, ap_ownEq, ap_ownIn, ap_par, ap_prop, ap_put, ap_ret, ap_seq, ap_set, ap_sl, ap_strO, ap_tru, ap_tst, ap_tup, ap_tupOf, ap_yes, ap_zip, bnd_some, List.getElem?_cons_zero, List.getElem?_cons_succ, List.set_cons_zero, List.set_cons_succ, List.map_cons, List.map_nil, List.cons_append, List.nil_append, List.replicate_succ, List.replicate_zero, if_true, if_false, Bool.false_eq_true, reduceIte, List.length_cons, List.length_nil, sz_is, Nat.reduceAdd, lz0, lz1, lz2, lz3, lz4, lz5, lz6, lz7, lz8, lz9, lz10, lz11, lz12, lz13, lz14, lz15, Nat.zero_add, itemsOf, eq_self, Bool.not_true, Bool.not_false, Bool.true_and, Bool.and_true, true_and, and_true, decide_true, decide_false, wipeE, asQ, fTupOf, tru_bl, t_str, t_int, t_tup, i_ss, i_ii, i_tt, len_tup, len_lst, eq_int, ne_int, eq_str, ne_str, d_dic, k_str, k_int, List.length_map, ib_b, b_asO, b_cls, b_ty, b_sizes, b_whole, b_settings, b_beside, new_asO, lf3, hn]
  have eb : [] ++ (St ns).map (fun z => ((.inr z : Key), Dv.tup ((Nr ns z).map .str))) = besD ns := rfl
  rw [eb]
  simp only [ap_2, ap_C, ap_V, ap_andT, ap_andV, ap_asg, ap_call, ap_cb, ap_cmeth, ap_cmethK, ap_cons, ap_dGet, ap_dIn, ap_dc, ap_drop, ap_enum, ap_eqRef, ap_extend, ap_fld, ap_fldM, ap_for, ap_gV, ap_if, ap_ifS, ap_isi, ap_it, ap_kget, ap_lc, ap_lc2, ap_lst, ap_lstL, ap_make, ap_makeK, ap_makeL, ap_meth, ap_methK, ap_moInt, ap_moNo, ap_next, ap_nil, ap_notT, ap_notV, ap_orT, ap_ownEq, ap_ownIn, ap_par, ap_prop, ap_put, ap_ret, ap_seq, ap_set, ap_sl, ap_strO, ap_tru, ap_tst, ap_tup, ap_tupOf, ap_yes, ap_zip, bnd_some, List.getElem?_cons_zero, List.getElem?_cons_succ, List.set_cons_zero, List.set_cons_succ, List.map_cons, List.map_nil, List.cons_append, List.nil_append, List.replicate_succ, List.replicate_zero, if_true, if_false, Bool.false_eq_true, reduceIte, List.length_cons, List.length_nil, sz_is, Nat.reduceAdd, lz0, lz1, lz2, lz3, lz4, lz5, lz6, lz7, lz8, lz9, lz10, lz11, lz12, lz13, lz14, lz15, Nat.zero_add, itemsOf, eq_self, Bool.not_true, Bool.not_false, Bool.true_and, Bool.and_true, true_and, and_true, decide_true, decide_false, wipeE, asQ, fTupOf, tru_bl, t_str, t_int, t_tup, i_ss, i_ii, i_tt, len_tup, len_lst, eq_int, ne_int, eq_str, ne_str, d_dic, k_str, k_int, List.length_map, ib_b, b_asO, b_cls, b_ty, b_sizes, b_whole, b_settings, b_beside, new_at, new_set, n3, pf4]
  have le : (S ++ [Mo.ins (Str.ofString "Board") []]).length = (S ++ [Mo.ins (Str.ofString "Board") (fsB ns)]).length := by simp
  rw [le]
  exact fin_clean (o4 o) c_non
theorem cl_fsB : cleanF (fsB ns) = true := by simp [fsB, cleanF, clean, cl_ints, cl_strs, cl_bes]
theorem fin_obj (o : OkS S) : fin S.length (S ++ [.ins "Board" (fsB ns)]) (.mut S.length) = some (boardD ns, S) := by
  unfold fin
  rw [List.take_left, if_pos (show S.all okMo = true from o)]
  have : frz S.length (S ++ [.ins "Board" (fsB ns)]) (.mut S.length) = some (boardD ns) := by
    unfold frz
    dsimp only
    rw [if_neg (Nat.lt_irrefl _), new_at]
    dsimp only
    rw [if_pos cl_fsB]
    rfl
  rw [this]
theorem r_new (o : OkS S) (b : Brd ns) : newO (Str.ofString "Board") F_Board___init__ [.tup (ns.map .int)] S = some (boardD ns, S) := by
  unfold newO
  have := r_init o b
  rw [show (S ++ [Mo.ins (Str.ofString "Board") []]) = S ++ [.ins "Board" []] from rfl, this]
  exact fin_obj o
end
end Mi

set_option Elab.async false
set_option linter.all false
set_option maxRecDepth 100000
set_option maxHeartbeats 2000000
namespace Mi
open PySem PySem.Spec PyProof.Rows L2 Sw
section
variable {S : Sto} {ns : List Int}
theorem kget_n {n : Int} (h : n = 2 ∨ n = 3) : lookD [(Str.ofString "2", Dv.int 2), (Str.ofString "3", .int 3)] (Str.ofString (toString n)) = some (.int n) := by
  rcases h with rfl | rfl <;> kernel_rfl
theorem r_hasno {v : Dv} {n : TyN} (o : OkS S) (h : tyD S v = some n) (h2 : isiT "str" n = some false) : F_Board___contains__ [boardD ns, v] S = some (.bl false, S) := by
  unfold F_Board___contains__ mDef
  simp only [ap_2, ap_C, ap_V, ap_andT, ap_andV, ap_asg, ap_call, ap_cb, ap_cmeth, ap_cmethK, ap_cons, ap_dGet, ap_dIn, ap_dc, ap_drop, ap_enum, ap_eqRef, ap_extend, ap_fld, ap_fldM, ap_for, ap_gV, ap_if, ap_ifS, ap_isi, ap_it, ap_kget, ap_lc, ap_lc2, ap_lst, ap_lstL, ap_make, ap_makeK, ap_makeL, ap_meth, ap_methK, ap_moInt, ap_moNo, ap_next, ap_nil, ap_notT, ap_notV, ap_orT, ap_ownEq, ap_ownIn, ap_par, ap_prop, ap_put, ap_ret, ap_seq, ap_set, ap_sl, ap_strO, ap_tru, ap_tst, ap_tup, ap_tupOf, ap_yes, ap_zip, bnd_some, List.getElem?_cons_zero, List.getElem?_cons_succ, List.set_cons_zero, List.set_cons_succ, List.map_cons, List.map_nil, List.cons_append, List.nil_append, List.replicate_succ, List.replicate_zero, if_true, if_false, Bool.false_eq_true, reduceIte, List.length_cons, List.length_nil, sz_is, Nat.reduceAdd, lz0, lz1, lz2, lz3, lz4, lz5, lz6, lz7, lz8, lz9, lz10, lz11, lz12, lz13, lz14, lz15, Nat.zero_add, itemsOf, eq_self, Bool.not_true, Bool.not_false, Bool.true_and, Bool.and_true, true_and, and_true, decide_true, decide_false, wipeE, asQ, fTupOf, tru_bl, t_str, t_int, t_tup, i_ss, i_ii, i_tt, len_tup, len_lst, eq_int, ne_int, eq_str, ne_str, d_dic, k_str, k_int, List.length_map, ib_b, b_asO, b_cls, b_ty, b_sizes, b_whole, b_settings, b_beside, h, h2]
  exact fin_clean o c_bl
theorem bl3_toP {x y z : Bool} : toPS S (.lst [.bl x, .bl y, .bl z]) = some (.list [.bool x, .bool y, .bool z]) := by
  show toP (.lst [.bl x, .bl y, .bl z]) = _
  simp [toP, toPL]
theorem bl3_sz {x y z : Bool} : Sz 100000 60 (.list [.bool x, .bool y, .bool z]) :=
  (Sz.list (b := 0) (d := 0) (k := 3) (fun p hp => by
    simp only [List.mem_cons, List.not_mem_nil, or_false] at hp
    rcases hp with rfl | rfl | rfl <;> exact Sz.bool) (by simp)).up (by omega) (by omega)
theorem bl3 {x y z : Bool} : fRepr S [.lst [.bl x, .bl y, .bl z]] = some (.str (PyData.shown (.list [.bool x, .bool y, .bool z]))) := repr_of bl3_toP (bl3_sz.ok (by omega) (by omega))
theorem fft : PyData.shown (.list [.bool false, .bool false, .bool true]) = Str.ofString "[False, False, True]" := by decide +kernel
theorem all4 : fAll S [.lst [.bl true, .bl true, .bl true, .bl true]] = some (.bl true) := by kernel_rfl
end
end Mi

set_option Elab.async false
set_option linter.all false
set_option maxRecDepth 100000
set_option maxHeartbeats 1000000
namespace Mi
open PySem PySem.Spec PyProof.Rows L2 Sw
section
variable {S : Sto} {ns : List Int}
theorem in2 : fIn false S (.int 2) (.tup [.int 2, .int 3]) = some (.bl true) := by kernel_rfl
theorem in3 : fIn false S (.int 3) (.tup [.int 2, .int 3]) = some (.bl true) := by kernel_rfl
theorem r_isz {n : Int} (o : OkS S) (h : n = 2 ∨ n = 3) : F_is_size [.int n] S = some (.bl true, S) := by
  have hi : fIn false S (.int n) (.tup [.int 2, .int 3]) = some (.bl true) := by
    rcases h with rfl | rfl
    · exact in2
    · exact in3
  unfold F_is_size mDef
  simp only [ap_2, ap_C, ap_V, ap_andT, ap_andV, ap_asg, ap_call, ap_cb, ap_cmeth, ap_cmethK, ap_cons, ap_dGet, ap_dIn, ap_dc, ap_drop, ap_enum, ap_eqRef, ap_extend, ap_fld, ap_fldM, ap_for, ap_gV, ap_if, ap_ifS, ap_isi, ap_it, ap_kget, ap_lc, ap_lc2, ap_lst, ap_lstL, ap_make, ap_makeK, ap_makeL, ap_meth, ap_methK, ap_moInt, ap_moNo, ap_next, ap_nil, ap_notT, ap_notV, ap_orT, ap_ownEq, ap_ownIn, ap_par, ap_prop, ap_put, ap_ret, ap_seq, ap_set, ap_sl, ap_strO, ap_tru, ap_tst, ap_tup, ap_tupOf, ap_yes, ap_zip, bnd_some, List.getElem?_cons_zero, List.getElem?_cons_succ, List.set_cons_zero, List.set_cons_succ, List.map_cons, List.map_nil, List.cons_append, List.nil_append, List.replicate_succ, List.replicate_zero, if_true, if_false, Bool.false_eq_true, reduceIte, List.length_cons, List.length_nil, sz_is, Nat.reduceAdd, lz0, lz1, lz2, lz3, lz4, lz5, lz6, lz7, lz8, lz9, lz10, lz11, lz12, lz13, lz14, lz15, Nat.zero_add, itemsOf, eq_self, Bool.not_true, Bool.not_false, Bool.true_and, Bool.and_true, true_and, and_true, decide_true, decide_false, wipeE, asQ, fTupOf, tru_bl, t_str, t_int, t_tup, i_ss, i_ii, i_tt, len_tup, len_lst, eq_int, ne_int, eq_str, ne_str, d_dic, k_str, k_int, List.length_map, hi]
  exact fin_clean o c_bl
theorem prod_app : ∀ a b : List Int, prodL (a ++ b) = prodL a * prodL b
  | [], b => by simp [prodL]
  | x :: a, b => by simp [prodL, prod_app a b, Int.mul_assoc]
theorem prod_pos : ∀ a : List Int, (∀ n ∈ a, n = 2 ∨ n = 3) → 1 ≤ prodL a
  | [], _ => by simp [prodL]
  | x :: a, h => by
    have ih := prod_pos a fun n m => h n (.tail _ m)
    rw [prodL]
    rcases h x (.head _) with rfl | rfl <;> omega
theorem prod_pre {a b : List Int} (ha : ∀ n ∈ a, n = 2 ∨ n = 3) (hb : ∀ n ∈ b, n = 2 ∨ n = 3) (h : prodL (a ++ b) ≤ 48) : prodL a ≤ 48 := by
  rw [prod_app] at h
  have h1 := prod_pos a ha
  have h2 := prod_pos b hb
  have := Int.mul_le_mul_of_nonneg_left h2 (show 0 ≤ prodL a by omega)
  omega
def fwB : MS := (sSeq (sIf (mOrT (mTst (m2 fEq (mV 2) (mC (.int 5)))) (mNotT (mTru (mCall F_is_size (maCons (mV 3) maNil))))) (sRet (mV 2)) sNext)
      (sSeq (sSet 1 (m2 fMul (mV 1) (mV 3)))
      (sIf (mTst (m2 fGt (mV 1) (mC (.int 48)))) (sRet (mV 2)) sNext)))
theorem r_fws (o : OkS S) (g : Drawn ns) : F_first_wrong_size [.tup (ns.map .int)] S = some (.non, S) := by
  have n5 := g.few
  have h := forGo_ind (g := gT 2 (gsCons (gV 2) (gsCons (gV 3) gsNil))) (b := fwB) (fun p : Int × Nat => Dv.tup [.int (p.2 : Nat), .int p.1])
    (fun pre ev1 S1 => ∃ a b, ev1 = [some (.tup (ns.map .int)), some (.int (prodL (pre.map (·.1)))), a, b] ∧ S1 = S) ns.zipIdx ?_ ns.zipIdx [] [some (.tup (ns.map .int)), some (.int 1), none, none] S rfl ⟨_, _, rfl, rfl⟩
  · obtain ⟨ev', S', e, a, b, rfl, rfl⟩ := h
    unfold fwB at e
    unfold F_first_wrong_size mDef
    simp only [ap_2, ap_C, ap_V, ap_andT, ap_andV, ap_asg, ap_call, ap_cb, ap_cmeth, ap_cmethK, ap_cons, ap_dGet, ap_dIn, ap_dc, ap_drop, ap_enum, ap_eqRef, ap_extend, ap_fld, ap_fldM, ap_for, ap_gV, ap_if, ap_ifS, ap_isi, ap_it, ap_kget, ap_lc, ap_lc2, ap_lst, ap_lstL, ap_make, ap_makeK, ap_makeL, ap_meth, ap_methK, ap_moInt, ap_moNo, ap_next, ap_nil, ap_notT, ap_notV, ap_orT, ap_ownEq, ap_ownIn, ap_par, ap_prop, ap_put, ap_ret, ap_seq, ap_set, ap_sl, ap_strO, ap_tru, ap_tst, ap_tup, ap_tupOf, ap_yes, ap_zip, bnd_some, List.getElem?_cons_zero, List.getElem?_cons_succ, List.set_cons_zero, List.set_cons_succ, List.map_cons, List.map_nil, List.cons_append, List.nil_append, List.replicate_succ, List.replicate_zero, if_true, if_false, Bool.false_eq_true, reduceIte, List.length_cons, List.length_nil, sz_is, Nat.reduceAdd, lz0, lz1, lz2, lz3, lz4, lz5, lz6, lz7, lz8, lz9, lz10, lz11, lz12, lz13, lz14, lz15, Nat.zero_add, itemsOf, eq_self, Bool.not_true, Bool.not_false, Bool.true_and, Bool.and_true, true_and, and_true, decide_true, decide_false, wipeE, asQ, fTupOf, tru_bl, t_str, t_int, t_tup, i_ss, i_ii, i_tt, len_tup, len_lst, eq_int, ne_int, eq_str, ne_str, d_dic, k_str, k_int, List.length_map, enum_map, e]
    exact fin_clean o c_non
  · rintro pre ⟨x, i⟩ post ev1 S1 e ⟨a, b, rfl, rfl⟩
    obtain ⟨hi, hx⟩ := zip_at e
    dsimp only at hi hx
    subst hi
    have hk : pre.length < ns.length := (List.getElem?_eq_some_iff.mp hx).1
    have h2 := g.two x (List.mem_of_getElem? hx)
    have en : ns = pre.map (·.1) ++ x :: post.map (·.1) := by
      have := congrArg (List.map (·.1)) e
      rw [List.zipIdx_map_fst, List.map_append, List.map_cons] at this
      exact this
    have ha : ∀ n ∈ pre.map (·.1) ++ [x], n = 2 ∨ n = 3 := fun n hn => g.two n (by
      rw [en]
      rcases List.mem_append.mp hn with hn | hn
      · exact List.mem_append_left _ hn
      · rw [List.mem_singleton.mp hn]; exact List.mem_append_right _ (.head _))
    have hb : ∀ n ∈ post.map (·.1), n = 2 ∨ n = 3 := fun n hn => g.two n (by rw [en]; exact List.mem_append_right _ (.tail _ hn))
    have hp : prodL (pre.map (·.1)) * x ≤ 48 := by
      rw [← prod_snoc]
      refine prod_pre ha hb ?_
      have := g.prod
      rw [en] at this
      rw [List.append_assoc]
      exact this
    have k5 : ((pre.length : Nat) : Int) ≠ 5 := by omega
    have hp' : ¬ (48 : Int) < prodL (pre.map (·.1)) * x := by omega
    have xn : x.natAbs < 2 ^ 64 := by rcases h2 with rfl | rfl <;> decide
    refine ⟨_, [some (.tup (ns.map .int)), some (.int (prodL ((pre ++ [(x, pre.length)]).map (·.1)))), some (.int (pre.length : Nat)), some (.int x)], S1, rfl, ?_, ⟨_, _, rfl, rfl⟩⟩
    rw [List.map_append, List.map_singleton, prod_snoc]
    unfold fwB
    simp only [ap_2, ap_C, ap_V, ap_andT, ap_andV, ap_asg, ap_call, ap_cb, ap_cmeth, ap_cmethK, ap_cons, ap_dGet, ap_dIn, ap_dc, ap_drop, ap_enum, ap_eqRef, ap_extend, ap_fld, ap_fldM, ap_for, ap_gV, ap_if, ap_ifS, ap_isi, ap_it, ap_kget, ap_lc, ap_lc2, ap_lst, ap_lstL, ap_make, ap_makeK, ap_makeL, ap_meth, ap_methK, ap_moInt, ap_moNo, ap_next, ap_nil, ap_notT, ap_notV, ap_orT, ap_ownEq, ap_ownIn, ap_par, ap_prop, ap_put, ap_ret, ap_seq, ap_set, ap_sl, ap_strO, ap_tru, ap_tst, ap_tup, ap_tupOf, ap_yes, ap_zip, bnd_some, List.getElem?_cons_zero, List.getElem?_cons_succ, List.set_cons_zero, List.set_cons_succ, List.map_cons, List.map_nil, List.cons_append, List.nil_append, List.replicate_succ, List.replicate_zero, if_true, if_false, Bool.false_eq_true, reduceIte, List.length_cons, List.length_nil, sz_is, Nat.reduceAdd, lz0, lz1, lz2, lz3, lz4, lz5, lz6, lz7, lz8, lz9, lz10, lz11, lz12, lz13, lz14, lz15, Nat.zero_add, itemsOf, eq_self, Bool.not_true, Bool.not_false, Bool.true_and, Bool.and_true, true_and, and_true, decide_true, decide_false, wipeE, asQ, fTupOf, tru_bl, t_str, t_int, t_tup, i_ss, i_ii, i_tt, len_tup, len_lst, eq_int, ne_int, eq_str, ne_str, d_dic, k_str, k_int, List.length_map, k5, r_isz o h2, mul_int xn, gt_int, hp']
end
end Mi

set_option Elab.async false
set_option linter.all false
set_option maxRecDepth 100000
set_option maxHeartbeats 0
/-! The boards that can be drawn, one by one, by the kernel. -/
namespace Mi
open PySem PySem.Spec PyProof.Rows L2 Sw
def lists : Nat → List (List Int)
  | 0 => [[]]
  | n + 1 => (lists n).flatMap fun l => [2 :: l, 3 :: l]
theorem mem_lists : ∀ ns : List Int, (∀ n ∈ ns, n = 2 ∨ n = 3) → ns ∈ lists ns.length
  | [], _ => .head _
  | n :: ns, h => by
    have ih := mem_lists ns fun k hk => h k (.tail _ hk)
    refine List.mem_flatMap.mpr ⟨ns, ih, ?_⟩
    rcases h n (.head _) with e | e
    · rw [e]; exact .head _
    · rw [e]; exact .tail _ (.head _)
def boards : List (List Int) := ((List.range 6).flatMap lists).filter fun l => !l.isEmpty && decide (prodL l ≤ 48)
theorem drawn_mem {ns : List Int} (g : Drawn ns) : ns ∈ boards := by
  unfold boards
  refine List.mem_filter.mpr ⟨List.mem_flatMap.mpr ⟨ns.length, List.mem_range.mpr (by have := g.few; omega), mem_lists ns g.two⟩, ?_⟩
  rw [decide_eq_true g.prod]
  cases ns with
  | nil => exact absurd rfl g.some_
  | cons n ns => rfl
def these : List (List Int) := [[2], [3], [2, 2], [2, 3], [3, 2], [3, 3], [2, 2, 2], [2, 2, 3], [2, 3, 2], [2, 3, 3], [3, 2, 2], [3, 2, 3], [3, 3, 2], [3, 3, 3], [2, 2, 2, 2], [2, 2, 2, 3], [2, 2, 3, 2], [2, 2, 3, 3], [2, 3, 2, 2], [2, 3, 2, 3], [2, 3, 3, 2], [3, 2, 2, 2], [3, 2, 2, 3], [3, 2, 3, 2], [3, 3, 2, 2], [2, 2, 2, 2, 2], [2, 2, 2, 2, 3], [2, 2, 2, 3, 2], [2, 2, 3, 2, 2], [2, 3, 2, 2, 2], [3, 2, 2, 2, 2]]
theorem boards_are : boards.all (fun b => these.contains b) = true := by decide +kernel
def chkB (ns : List Int) : Bool := (decide ((wholeOf ns).length ≤ 5) && (wholeOf ns).all fun z => decide ((chars z).length ≤ 3) && okT z) && ((okT (txt ns) && decide ((txt ns).length ≤ 5) && decide (chars (txt ns) = ns.map fun n => Str.ofString (toString n))) && (!(setsOf (wholeOf ns)).contains (repS "3" ns.length) && (decide (setsOf (wholeOf ns)).Nodup && (decide (0 < (setsOf (wholeOf ns)).length) && (setsOf (wholeOf ns)).all fun z => decide (isortS (nbrN z (wholeOf ns) (wholeOf ns).length) = nearOf (setsOf (wholeOf ns)) z ns.length)))))
theorem ck0 : chkB [2] = true := by decide +kernel
theorem ck1 : chkB [3] = true := by decide +kernel
theorem ck2 : chkB [2, 2] = true := by decide +kernel
theorem ck3 : chkB [2, 3] = true := by decide +kernel
theorem ck4 : chkB [3, 2] = true := by decide +kernel
theorem ck5 : chkB [3, 3] = true := by decide +kernel
theorem ck6 : chkB [2, 2, 2] = true := by decide +kernel
theorem ck7 : chkB [2, 2, 3] = true := by decide +kernel
theorem ck8 : chkB [2, 3, 2] = true := by decide +kernel
theorem ck9 : chkB [2, 3, 3] = true := by decide +kernel
theorem ck10 : chkB [3, 2, 2] = true := by decide +kernel
theorem ck11 : chkB [3, 2, 3] = true := by decide +kernel
theorem ck12 : chkB [3, 3, 2] = true := by decide +kernel
theorem ck13 : chkB [3, 3, 3] = true := by decide +kernel
theorem ck14 : chkB [2, 2, 2, 2] = true := by decide +kernel
theorem ck15 : chkB [2, 2, 2, 3] = true := by decide +kernel
theorem ck16 : chkB [2, 2, 3, 2] = true := by decide +kernel
theorem ck17 : chkB [2, 2, 3, 3] = true := by decide +kernel
theorem ck18 : chkB [2, 3, 2, 2] = true := by decide +kernel
theorem ck19 : chkB [2, 3, 2, 3] = true := by decide +kernel
theorem ck20 : chkB [2, 3, 3, 2] = true := by decide +kernel
theorem ck21 : chkB [3, 2, 2, 2] = true := by decide +kernel
theorem ck22 : chkB [3, 2, 2, 3] = true := by decide +kernel
theorem ck23 : chkB [3, 2, 3, 2] = true := by decide +kernel
theorem ck24 : chkB [3, 3, 2, 2] = true := by decide +kernel
theorem ck25 : chkB [2, 2, 2, 2, 2] = true := by decide +kernel
theorem ck26 : chkB [2, 2, 2, 2, 3] = true := by decide +kernel
theorem ck27 : chkB [2, 2, 2, 3, 2] = true := by decide +kernel
theorem ck28 : chkB [2, 2, 3, 2, 2] = true := by decide +kernel
theorem ck29 : chkB [2, 3, 2, 2, 2] = true := by decide +kernel
theorem ck30 : chkB [3, 2, 2, 2, 2] = true := by decide +kernel
theorem all_these {P : List Int → Prop} (h0 : P [2]) (h1 : P [3]) (h2 : P [2, 2]) (h3 : P [2, 3]) (h4 : P [3, 2]) (h5 : P [3, 3]) (h6 : P [2, 2, 2]) (h7 : P [2, 2, 3]) (h8 : P [2, 3, 2]) (h9 : P [2, 3, 3]) (h10 : P [3, 2, 2]) (h11 : P [3, 2, 3]) (h12 : P [3, 3, 2]) (h13 : P [3, 3, 3]) (h14 : P [2, 2, 2, 2]) (h15 : P [2, 2, 2, 3]) (h16 : P [2, 2, 3, 2]) (h17 : P [2, 2, 3, 3]) (h18 : P [2, 3, 2, 2]) (h19 : P [2, 3, 2, 3]) (h20 : P [2, 3, 3, 2]) (h21 : P [3, 2, 2, 2]) (h22 : P [3, 2, 2, 3]) (h23 : P [3, 2, 3, 2]) (h24 : P [3, 3, 2, 2]) (h25 : P [2, 2, 2, 2, 2]) (h26 : P [2, 2, 2, 2, 3]) (h27 : P [2, 2, 2, 3, 2]) (h28 : P [2, 2, 3, 2, 2]) (h29 : P [2, 3, 2, 2, 2]) (h30 : P [3, 2, 2, 2, 2]) : ∀ b ∈ these, P b := by
  intro b hb
  unfold these at hb
  simp only [List.mem_cons, List.not_mem_nil, or_false] at hb
  rcases hb with rfl | rfl | rfl | rfl | rfl | rfl | rfl | rfl | rfl | rfl | rfl | rfl | rfl | rfl | rfl | rfl | rfl | rfl | rfl | rfl | rfl | rfl | rfl | rfl | rfl | rfl | rfl | rfl | rfl | rfl | rfl
  · exact h0
  · exact h1
  · exact h2
  · exact h3
  · exact h4
  · exact h5
  · exact h6
  · exact h7
  · exact h8
  · exact h9
  · exact h10
  · exact h11
  · exact h12
  · exact h13
  · exact h14
  · exact h15
  · exact h16
  · exact h17
  · exact h18
  · exact h19
  · exact h20
  · exact h21
  · exact h22
  · exact h23
  · exact h24
  · exact h25
  · exact h26
  · exact h27
  · exact h28
  · exact h29
  · exact h30
theorem brd {ns : List Int} (g : Drawn ns) : Brd ns := by
  have m : ns ∈ these := List.contains_iff_mem.mp (List.all_eq_true.mp boards_are ns (drawn_mem g))
  have c := all_these (P := fun b => chkB b = true) ck0 ck1 ck2 ck3 ck4 ck5 ck6 ck7 ck8 ck9 ck10 ck11 ck12 ck13 ck14 ck15 ck16 ck17 ck18 ck19 ck20 ck21 ck22 ck23 ck24 ck25 ck26 ck27 ck28 ck29 ck30 ns m
  have f := fun (S : Sto) (o : OkS S) => r_fws (S := S) o g
  unfold chkB at c
  simp only [Bool.and_eq_true, List.all_eq_true, decide_eq_true_eq, Bool.not_eq_true'] at c
  obtain ⟨⟨c1, c2⟩, ⟨⟨c3, c4⟩, c5⟩, c6, c7, c8, c9⟩ := c
  exact ⟨⟨c1, fun z hz => (c2 z hz).1⟩, fun z hz => (c2 z hz).2, g.two, g.some_, ⟨c3, c4⟩, c5, (fun h => by rw [List.contains_iff_mem.mpr h] at c6; cases c6), c7, f, c8, c9⟩
end Mi

set_option Elab.async false
set_option linter.all false
set_option maxRecDepth 100000
set_option maxHeartbeats 4000000
namespace Mi
open PySem PySem.Spec PyProof.Rows L2 Sw
section
variable {S A : Sto} {ns ms : List Int} {d s c : Int}
theorem okB : okN (.own (Str.ofString "Board")) = true := by decide +kernel
theorem okTy {T : String} : okN (.ty T) = true := rfl
theorem t_non {S : Sto} : tyD S .non = some (.ty "NoneType") := rfl
theorem t_lst {S : Sto} {xs : List Dv} : tyD S (.lst xs) = some (.ty "list") := rfl
theorem t_dic {S : Sto} {xs : List (Key × Dv)} : tyD S (.dic xs) = some (.ty "dict") := rfl
theorem rk_str {S : Sto} {z : Str} : reflK S (.str z) = true := rfl
theorem rk_tup {S : Sto} {z : List Dv} : reflK S (.tup z) = true := rfl
theorem rk_non {S : Sto} : reflK S .non = true := rfl
theorem rk_int {S : Sto} {i : Int} : reflK S (.int i) = true := rfl
theorem rk_lst {S : Sto} {z : List Dv} : reflK S (.lst z) = true := rfl
theorem rk_dic {S : Sto} {z : List (Key × Dv)} : reflK S (.dic z) = true := rfl
theorem ic_str : isiC (Str.ofString "Board") (.ty "str") = some false := by decide +kernel
theorem ic_tup : isiC (Str.ofString "Board") (.ty "tuple") = some false := by decide +kernel
theorem ic_non : isiC (Str.ofString "Board") (.ty "NoneType") = some false := by decide +kernel
theorem ic_int : isiC (Str.ofString "Board") (.ty "int") = some false := by decide +kernel
theorem ic_lst : isiC (Str.ofString "Board") (.ty "list") = some false := by decide +kernel
theorem ic_dic : isiC (Str.ofString "Board") (.ty "dict") = some false := by decide +kernel
theorem is_tup : isiT "str" (.ty "tuple") = some false := by decide +kernel
theorem is_non : isiT "str" (.ty "NoneType") = some false := by decide +kernel
theorem is_int : isiT "str" (.ty "int") = some false := by decide +kernel
theorem is_lst : isiT "str" (.ty "list") = some false := by decide +kernel
theorem is_dic : isiT "str" (.ty "dict") = some false := by decide +kernel
theorem f7 {S : Sto} : fNe S (.lst [.bl false, .bl false, .bl false, .bl false, .bl false, .bl false, .bl false]) (.lst [.bl false, .bl false, .bl false, .bl false, .bl false, .bl false, .bl false]) = some (.bl false) := by kernel_rfl
theorem m7 {S : Sto} : fMul S (.lst [.bl false]) (.int 7) = some (.lst [.bl false, .bl false, .bl false, .bl false, .bl false, .bl false, .bl false]) := by kernel_rfl
theorem pk01 {a b : Dv} : permA [0, 1] [a] [b] = [a, b] := rfl
end
end Mi

set_option Elab.async false
set_option linter.all false
set_option maxRecDepth 100000
set_option maxHeartbeats 4000000
namespace Mi
open PySem PySem.Spec PyProof.Rows L2 Sw
section
variable {S A : Sto} {d s c : Int}
def RiI (A : Sto) (ev : Ev) (S : Sto) : Prop := ∃ x1 x2 x3 x4 x5 x6 x7 x8 x9 x10 x11 x12 d s c, ev = [some (.mut A.length), x1, x2, x3, x4, x5, x6, x7, x8, x9, x10, x11, x12] ∧ S = A ++ [jarM d s c]
theorem lt_int {a b : Int} : fLt S (.int a) (.int b) = some (.bl (decide (a < b))) := rfl
theorem ge_int {a b : Int} : fGe S (.int a) (.int b) = some (.bl (decide (b ≤ a))) := rfl
theorem pow18 : fPow S (.int 10) (.int 18) = some (.int 1000000000000000000) := by kernel_rfl
theorem abs_int {a : Int} : ∃ z, fAbs S [.int a] = some (.int z) := ⟨_, rfl⟩
theorem len_scr {xs : List Dv} : fLen S [.scr xs] = some (.int (xs.length : Nat)) := rfl
theorem finL_j {l : List Dv} (oA : OkS A) (h : cleanL l = true) : finL A.length (A ++ [.lst l]) (.mut A.length) = some (.mut A.length, A ++ [.lst l]) := by
  unfold finL
  dsimp only
  rw [List.take_left, if_pos ⟨Nat.le_refl _, show A.all okMo = true from oA⟩, new_at]
  dsimp only
  rw [if_pos h]
def jaB : MS := (sSet 2 (m2 fMod (mCB fInt1 (maCons (m2 fAdd (m2 fMul (mV 2) (mC (.int 733))) (mV 3)) maNil)) (mC (.int 1000000009))))
theorem r_jar {A : Sto} {ns : List Int} {k : Nat} (oA : OkS A) (hk : k < 5) (hn : ns.length ≤ 63) : ∃ d s, F__law_jar [.scr (ns.map .int), .int (k : Nat)] A = some (.mut A.length, A ++ [jarM d s 0]) := by
  obtain ⟨xs, hsl⟩ : ∃ xs : List Int, fSl A (.scr (ns.map .int)) none (some 4) = some (.lst (xs.map .int)) := by
    refine ⟨(ns.drop (HT.sIx (ns.map Dv.int).length 0 none)).take (HT.sIx (ns.map Dv.int).length (ns.map Dv.int).length (some 4) - HT.sIx (ns.map Dv.int).length 0 none), ?_⟩
    show some (Dv.lst (cutD (ns.map .int) none (some 4))) = _
    unfold cutD
    rw [List.map_take, List.map_drop]
  obtain ⟨ev', S', e, h, x3, he, hA⟩ := forGo_keep (g := gV 3) (b := jaB) Dv.int (fun ev S => ∃ h x3, ev = [some (.scr (ns.map .int)), some (.int (k : Nat)), some (.int h), x3, none, none] ∧ S = A) xs [some (.scr (ns.map .int)), some (.int (k : Nat)), some (.int (7369 * ((k : Int) + 5) * ((k : Int) + 2) + 29 * (ns.length : Nat))), none, none, none] A ⟨_, _, rfl, rfl⟩ (by
    rintro x _ ev S ⟨h, x3, rfl, rfl⟩
    refine ⟨_, _, _, rfl, ?_, (h * 733 + x).fmod 1000000009, some (.int x), rfl, rfl⟩
    unfold jaB
    simp only [ap_2, ap_C, ap_V, ap_andT, ap_andV, ap_asg, ap_call, ap_cb, ap_cmeth, ap_cmethK, ap_cons, ap_dGet, ap_dIn, ap_dc, ap_drop, ap_enum, ap_eqRef, ap_extend, ap_fld, ap_fldM, ap_for, ap_gV, ap_if, ap_ifS, ap_isi, ap_it, ap_kget, ap_lc, ap_lc2, ap_lst, ap_lstL, ap_make, ap_makeK, ap_makeL, ap_meth, ap_methK, ap_moInt, ap_moNo, ap_next, ap_nil, ap_notT, ap_notV, ap_orT, ap_ownEq, ap_ownIn, ap_par, ap_prop, ap_put, ap_ret, ap_seq, ap_set, ap_sl, ap_strO, ap_tru, ap_tst, ap_tup, ap_tupOf, ap_yes, ap_zip, bnd_some, List.getElem?_cons_zero, List.getElem?_cons_succ, List.set_cons_zero, List.set_cons_succ, List.map_cons, List.map_nil, List.cons_append, List.nil_append, List.replicate_succ, List.replicate_zero, if_true, if_false, Bool.false_eq_true, reduceIte, List.length_cons, List.length_nil, sz_is, Nat.reduceAdd, lz0, lz1, lz2, lz3, lz4, lz5, lz6, lz7, lz8, lz9, lz10, lz11, lz12, lz13, lz14, lz15, Nat.zero_add, itemsOf, eq_self, Bool.not_true, Bool.not_false, Bool.true_and, Bool.and_true, true_and, and_true, decide_true, decide_false, wipeE, asQ, fTupOf, mul_int (S := S) (a := h) (b := 733) (by decide), a_int, int_int, mod_int (S := S) (b := 1000000009) (by decide)])
  rw [he, hA] at e
  unfold jaB at e
  have m1 := mul_int (S := A) (a := 7369) (b := (k : Int) + 5) (by omega)
  have m2' := mul_int (S := A) (a := 7369 * ((k : Int) + 5)) (b := (k : Int) + 2) (by omega)
  have m3 := mul_int (S := A) (a := 29) (b := (ns.length : Nat)) (by omega)
  have m4 := mul_int (S := A) (a := h) (b := 8117) (by decide)
  have m6 := mul_int (S := A) (a := 105019) (b := (k : Int) + 1) (by omega)
  have md := fun z => mod_int (S := A) (a := z) (b := 2147483563) (by decide)
  have fin' := fun (d s : Int) => finL_j (A := A) (l := [.int d, .int s, .int 0]) oA (by simp [cleanL, clean])
  have tail : ∀ x : Int, (∃ z, fAbs A [.int x] = some (.int z)) := fun x => abs_int
  by_cases hl : k < ns.length
  · obtain ⟨x, hx⟩ : ∃ x, ns[k]? = some x := ⟨ns[k], List.getElem?_eq_getElem hl⟩
    have hi : fIx A (.scr (ns.map .int)) (.int (k : Nat)) = some (.int x) := by
      show atI (ns.map Dv.int) (k : Int) = _
      refine at_nat ?_
      rw [List.getElem?_map, hx]
      rfl
    have hl' : ((k : Int) < (ns.length : Nat)) := by omega
    have m5 := mul_int (S := A) (a := x) (b := 64013) (by decide)
    obtain ⟨z, hz⟩ := tail x
    by_cases c1 : x < 0
    · refine ⟨z, (h * 8117 + x * 64013 + 105019 * ((k : Int) + 1)).fmod 2147483563, ?_⟩
      unfold F__law_jar mDefL
      simp only [ap_2, ap_C, ap_V, ap_andT, ap_andV, ap_asg, ap_call, ap_cb, ap_cmeth, ap_cmethK, ap_cons, ap_dGet, ap_dIn, ap_dc, ap_drop, ap_enum, ap_eqRef, ap_extend, ap_fld, ap_fldM, ap_for, ap_gV, ap_if, ap_ifS, ap_isi, ap_it, ap_kget, ap_lc, ap_lc2, ap_lst, ap_lstL, ap_make, ap_makeK, ap_makeL, ap_meth, ap_methK, ap_moInt, ap_moNo, ap_next, ap_nil, ap_notT, ap_notV, ap_orT, ap_ownEq, ap_ownIn, ap_par, ap_prop, ap_put, ap_ret, ap_seq, ap_set, ap_sl, ap_strO, ap_tru, ap_tst, ap_tup, ap_tupOf, ap_yes, ap_zip, bnd_some, List.getElem?_cons_zero, List.getElem?_cons_succ, List.set_cons_zero, List.set_cons_succ, List.map_cons, List.map_nil, List.cons_append, List.nil_append, List.replicate_succ, List.replicate_zero, if_true, if_false, Bool.false_eq_true, reduceIte, List.length_cons, List.length_nil, sz_is, Nat.reduceAdd, lz0, lz1, lz2, lz3, lz4, lz5, lz6, lz7, lz8, lz9, lz10, lz11, lz12, lz13, lz14, lz15, Nat.zero_add, itemsOf, eq_self, Bool.not_true, Bool.not_false, Bool.true_and, Bool.and_true, true_and, and_true, decide_true, decide_false, wipeE, asQ, fTupOf, a_int, m1, m2', m3, m4, m5, m6, md, len_scr, List.length_map, hsl, e, lt_int, ge_int, pow18, hl', hi, c1, hz, int_int]
      exact fin' _ _
    · by_cases c2 : (1000000000000000000 : Int) ≤ x
      · refine ⟨z, (h * 8117 + x * 64013 + 105019 * ((k : Int) + 1)).fmod 2147483563, ?_⟩
        unfold F__law_jar mDefL
        simp only [ap_2, ap_C, ap_V, ap_andT, ap_andV, ap_asg, ap_call, ap_cb, ap_cmeth, ap_cmethK, ap_cons, ap_dGet, ap_dIn, ap_dc, ap_drop, ap_enum, ap_eqRef, ap_extend, ap_fld, ap_fldM, ap_for, ap_gV, ap_if, ap_ifS, ap_isi, ap_it, ap_kget, ap_lc, ap_lc2, ap_lst, ap_lstL, ap_make, ap_makeK, ap_makeL, ap_meth, ap_methK, ap_moInt, ap_moNo, ap_next, ap_nil, ap_notT, ap_notV, ap_orT, ap_ownEq, ap_ownIn, ap_par, ap_prop, ap_put, ap_ret, ap_seq, ap_set, ap_sl, ap_strO, ap_tru, ap_tst, ap_tup, ap_tupOf, ap_yes, ap_zip, bnd_some, List.getElem?_cons_zero, List.getElem?_cons_succ, List.set_cons_zero, List.set_cons_succ, List.map_cons, List.map_nil, List.cons_append, List.nil_append, List.replicate_succ, List.replicate_zero, if_true, if_false, Bool.false_eq_true, reduceIte, List.length_cons, List.length_nil, sz_is, Nat.reduceAdd, lz0, lz1, lz2, lz3, lz4, lz5, lz6, lz7, lz8, lz9, lz10, lz11, lz12, lz13, lz14, lz15, Nat.zero_add, itemsOf, eq_self, Bool.not_true, Bool.not_false, Bool.true_and, Bool.and_true, true_and, and_true, decide_true, decide_false, wipeE, asQ, fTupOf, a_int, m1, m2', m3, m4, m5, m6, md, len_scr, List.length_map, hsl, e, lt_int, ge_int, pow18, hl', hi, c1, c2, hz, int_int]
        exact fin' _ _
      · refine ⟨0, (h * 8117 + x * 64013 + 105019 * ((k : Int) + 1)).fmod 2147483563, ?_⟩
        unfold F__law_jar mDefL
        simp only [ap_2, ap_C, ap_V, ap_andT, ap_andV, ap_asg, ap_call, ap_cb, ap_cmeth, ap_cmethK, ap_cons, ap_dGet, ap_dIn, ap_dc, ap_drop, ap_enum, ap_eqRef, ap_extend, ap_fld, ap_fldM, ap_for, ap_gV, ap_if, ap_ifS, ap_isi, ap_it, ap_kget, ap_lc, ap_lc2, ap_lst, ap_lstL, ap_make, ap_makeK, ap_makeL, ap_meth, ap_methK, ap_moInt, ap_moNo, ap_next, ap_nil, ap_notT, ap_notV, ap_orT, ap_ownEq, ap_ownIn, ap_par, ap_prop, ap_put, ap_ret, ap_seq, ap_set, ap_sl, ap_strO, ap_tru, ap_tst, ap_tup, ap_tupOf, ap_yes, ap_zip, bnd_some, List.getElem?_cons_zero, List.getElem?_cons_succ, List.set_cons_zero, List.set_cons_succ, List.map_cons, List.map_nil, List.cons_append, List.nil_append, List.replicate_succ, List.replicate_zero, if_true, if_false, Bool.false_eq_true, reduceIte, List.length_cons, List.length_nil, sz_is, Nat.reduceAdd, lz0, lz1, lz2, lz3, lz4, lz5, lz6, lz7, lz8, lz9, lz10, lz11, lz12, lz13, lz14, lz15, Nat.zero_add, itemsOf, eq_self, Bool.not_true, Bool.not_false, Bool.true_and, Bool.and_true, true_and, and_true, decide_true, decide_false, wipeE, asQ, fTupOf, a_int, m1, m2', m3, m4, m5, m6, md, len_scr, List.length_map, hsl, e, lt_int, ge_int, pow18, hl', hi, c1, c2, hz, int_int]
        exact fin' _ _
  · have hl' : ¬ ((k : Int) < (ns.length : Nat)) := by omega
    have m5 := mul_int (S := A) (a := 0) (b := 64013) (by decide)
    refine ⟨0, (h * 8117 + 0 * 64013 + 105019 * ((k : Int) + 1)).fmod 2147483563, ?_⟩
    have z0 : ((0 : Int) < 0) = False := eq_false (by decide)
    have z1 : ((1000000000000000000 : Int) ≤ 0) = False := eq_false (by decide)
    unfold F__law_jar mDefL
    simp only [ap_2, ap_C, ap_V, ap_andT, ap_andV, ap_asg, ap_call, ap_cb, ap_cmeth, ap_cmethK, ap_cons, ap_dGet, ap_dIn, ap_dc, ap_drop, ap_enum, ap_eqRef, ap_extend, ap_fld, ap_fldM, ap_for, ap_gV, ap_if, ap_ifS, ap_isi, ap_it, ap_kget, ap_lc, ap_lc2, ap_lst, ap_lstL, ap_make, ap_makeK, ap_makeL, ap_meth, ap_methK, ap_moInt, ap_moNo, ap_next, ap_nil, ap_notT, ap_notV, ap_orT, ap_ownEq, ap_ownIn, ap_par, ap_prop, ap_put, ap_ret, ap_seq, ap_set, ap_sl, ap_strO, ap_tru, ap_tst, ap_tup, ap_tupOf, ap_yes, ap_zip, bnd_some, List.getElem?_cons_zero, List.getElem?_cons_succ, List.set_cons_zero, List.set_cons_succ, List.map_cons, List.map_nil, List.cons_append, List.nil_append, List.replicate_succ, List.replicate_zero, if_true, if_false, Bool.false_eq_true, reduceIte, List.length_cons, List.length_nil, sz_is, Nat.reduceAdd, lz0, lz1, lz2, lz3, lz4, lz5, lz6, lz7, lz8, lz9, lz10, lz11, lz12, lz13, lz14, lz15, Nat.zero_add, itemsOf, eq_self, Bool.not_true, Bool.not_false, Bool.true_and, Bool.and_true, true_and, and_true, decide_true, decide_false, wipeE, asQ, fTupOf, a_int, m1, m2', m3, m4, m5, m6, md, len_scr, List.length_map, hsl, e, lt_int, ge_int, pow18, hl', z0, z1, int_int]
    exact fin' _ _
end
end Mi

set_option Elab.async false
set_option linter.all false
set_option maxRecDepth 100000
set_option maxHeartbeats 1000000
namespace Mi
open PySem PySem.Spec PyProof.Rows L2 Sw
section
variable {S : Sto} {ev : Ev} {ns ms : List Int} {L M : List Str}
theorem ap_setNew : mSetNew ev S = some (.mut S.length, S ++ [.set []]) := rfl
theorem ap_sadd {mo : ME} {m : MA} : mSAdd mo m ev S = bnd (mo ev S) fun o S1 => match o with
  | .mut l => match S1[l]? with
    | some (.set _) => bnd (m ev S1) fun ds S2 => match ds with
      | [d] => match S2[l]?, keyOf d with
        | some (.set ks), some k => if ks.length + 1 < scanBound then some (.non, S2.set l (.set (addK ks k))) else none
        | _, _ => none
      | _ => none
    | _ => none
  | _ => none := rfl
theorem ap_weak {m : ME} : mWeak m ev S = bnd (m ev S) fun d S1 => some (weak d, S1) := rfl
theorem ap_rev {mo mi : ME} : mRev mo mi ev S = bnd (mo ev S) fun o S1 => bnd (mi ev S1) fun i S2 => match o, i with
  | .tup ds, .int (-1) => some (.tup ds.reverse, S2)
  | _, _ => none := rfl
theorem ap_tix {mo : ME} {m : MA} : mTIx mo m ev S = bnd (mo ev S) fun o S1 => match o with
  | .tupN ts => bnd (m ev S1) fun ds S2 => match ds, asStrs ts with
    | [.str z], some ys => if z ∈ ys then some (.int (ys.idxOf z : Nat), S2) else none
    | _, _ => none
  | _ => none := rfl
/-- an order of all settings -/
def Lin (ns : List Int) (L : List Str) : Prop := L.Perm (St ns)
theorem Lin.mem (h : Lin ns L) {z : Str} : z ∈ L ↔ z ∈ St ns := List.Perm.mem_iff h
theorem Lin.nd (h : Lin ns L) (b : Brd ns) : L.Nodup := (List.Perm.nodup_iff h).mpr b.nd
theorem Lin.len (h : Lin ns L) : L.length = (St ns).length := List.Perm.length_eq h
theorem Lin.few (h : Lin ns L) (b : Brd ns) : L.length ≤ 243 := by rw [h.len]; exact setsOf_len b.fit
def plD (L : List Str) : List (Key × Dv) := L.zipIdx.map fun p => (.inr p.1, .int (p.2 : Nat))
def gs1 (ns : List Int) : List (Str × Dv) := [("_board", boardD ns)]
def gs2 (ns : List Int) (L : List Str) : List (Str × Dv) := [("_board", boardD ns), ("_order", .tup (L.map .str))]
def gsR (ns : List Int) (L : List Str) : List (Str × Dv) := [("_board", boardD ns), ("_order", .tup (L.map .str)), ("_places", .dic (plD L))]
def rankD (ns : List Int) (L : List Str) : Dv := .obj "Ranking" (gsR ns L)
theorem ir_r : isiC "Ranking" (.own "Ranking") = some true := by decide +kernel
theorem q_asO : asO S (rankD ns L) = some (Str.ofString "Ranking", gsR ns L) := rfl
theorem q_cls : classes.contains (Str.ofString "Ranking") = true := by decide +kernel
theorem q_ty : tyD S (rankD ns L) = some (.own (Str.ofString "Ranking")) := rfl
theorem q_board : lookD (gsR ns L) (Str.ofString "_board") = some (boardD ns) := by kernel_rfl
theorem q_order : lookD (gsR ns L) (Str.ofString "_order") = some (.tup (L.map .str)) := by kernel_rfl
theorem q_places : lookD (gsR ns L) (Str.ofString "_places") = some (.dic (plD L)) := by kernel_rfl
theorem cl_pl : cleanK (plD L) = true := by
  have h : ∀ ps : List (Str × Nat), cleanK (ps.map fun p => ((.inr p.1, .int (p.2 : Nat)) : Key × Dv)) = true := fun ps => by
    induction ps with
    | nil => simp [cleanK]
    | cons p ps ih => simp [cleanK, clean, ih]
  exact h _
theorem cl_rank : clean (rankD ns L) = true := by
  simp [rankD, clean, gsR, cleanF, cl_strs, cl_pl]
  have := cl_board (ns := ns)
  simpa [boardD] using this
theorem r_chkb (o : OkS S) : F_check_board [boardD ns] S = some (.non, S) := by
  unfold F_check_board mDef
  simp only [ap_2, ap_C, ap_V, ap_andT, ap_andV, ap_asg, ap_call, ap_cb, ap_cmeth, ap_cmethK, ap_cons, ap_dGet, ap_dIn, ap_dc, ap_drop, ap_enum, ap_eqRef, ap_extend, ap_fld, ap_fldM, ap_for, ap_gV, ap_if, ap_ifS, ap_isi, ap_it, ap_kget, ap_lc, ap_lc2, ap_lst, ap_lstL, ap_make, ap_makeK, ap_makeL, ap_meth, ap_methK, ap_moInt, ap_moNo, ap_next, ap_nil, ap_notT, ap_notV, ap_orT, ap_ownEq, ap_ownIn, ap_par, ap_prop, ap_put, ap_ret, ap_seq, ap_set, ap_sl, ap_strO, ap_tru, ap_tst, ap_tup, ap_tupOf, ap_yes, ap_zip, bnd_some, List.getElem?_cons_zero, List.getElem?_cons_succ, List.set_cons_zero, List.set_cons_succ, List.map_cons, List.map_nil, List.cons_append, List.nil_append, List.replicate_succ, List.replicate_zero, if_true, if_false, Bool.false_eq_true, reduceIte, List.length_cons, List.length_nil, sz_is, Nat.reduceAdd, lz0, lz1, lz2, lz3, lz4, lz5, lz6, lz7, lz8, lz9, lz10, lz11, lz12, lz13, lz14, lz15, Nat.zero_add, itemsOf, eq_self, Bool.not_true, Bool.not_false, Bool.true_and, Bool.and_true, true_and, and_true, decide_true, decide_false, wipeE, asQ, fTupOf, tru_bl, t_str, t_int, t_tup, i_ss, i_ii, i_tt, len_tup, len_lst, eq_int, ne_int, eq_str, ne_str, d_dic, k_str, k_int, List.length_map, ib_b, b_asO, b_cls, b_ty, b_sizes, b_whole, b_settings, b_beside]
  exact fin_clean o c_non
theorem r_rboard (o : OkS S) : F_Ranking_board [rankD ns L] S = some (boardD ns, S) := by
  unfold F_Ranking_board mDef
  simp only [ap_2, ap_C, ap_V, ap_andT, ap_andV, ap_asg, ap_call, ap_cb, ap_cmeth, ap_cmethK, ap_cons, ap_dGet, ap_dIn, ap_dc, ap_drop, ap_enum, ap_eqRef, ap_extend, ap_fld, ap_fldM, ap_for, ap_gV, ap_if, ap_ifS, ap_isi, ap_it, ap_kget, ap_lc, ap_lc2, ap_lst, ap_lstL, ap_make, ap_makeK, ap_makeL, ap_meth, ap_methK, ap_moInt, ap_moNo, ap_next, ap_nil, ap_notT, ap_notV, ap_orT, ap_ownEq, ap_ownIn, ap_par, ap_prop, ap_put, ap_ret, ap_seq, ap_set, ap_sl, ap_strO, ap_tru, ap_tst, ap_tup, ap_tupOf, ap_yes, ap_zip, bnd_some, List.getElem?_cons_zero, List.getElem?_cons_succ, List.set_cons_zero, List.set_cons_succ, List.map_cons, List.map_nil, List.cons_append, List.nil_append, List.replicate_succ, List.replicate_zero, if_true, if_false, Bool.false_eq_true, reduceIte, List.length_cons, List.length_nil, sz_is, Nat.reduceAdd, lz0, lz1, lz2, lz3, lz4, lz5, lz6, lz7, lz8, lz9, lz10, lz11, lz12, lz13, lz14, lz15, Nat.zero_add, itemsOf, eq_self, Bool.not_true, Bool.not_false, Bool.true_and, Bool.and_true, true_and, and_true, decide_true, decide_false, wipeE, asQ, fTupOf, tru_bl, t_str, t_int, t_tup, i_ss, i_ii, i_tt, len_tup, len_lst, eq_int, ne_int, eq_str, ne_str, d_dic, k_str, k_int, List.length_map, ib_b, b_asO, b_cls, b_ty, b_sizes, b_whole, b_settings, b_beside, q_asO, q_cls, q_board]
  exact fin_clean o cl_board
theorem eqvAll_strs : ∀ xs ys : List Str, PyData.eqvAll (xs.map .str) (ys.map .str) = decide (xs = ys)
  | [], [] => by simp [PyData.eqvAll]
  | [], m :: ms => by simp [PyData.eqvAll]
  | n :: ns, [] => by simp [PyData.eqvAll]
  | n :: ns, m :: ms => by
    rw [List.map_cons, List.map_cons]
    unfold PyData.eqvAll
    rw [eqvAll_strs ns ms, eqv_str]
    by_cases h : n = m <;> by_cases h2 : ns = ms <;> simp [h, h2]
theorem sh_tups {xs : List Str} (h : ∀ z ∈ xs, okT z = true) : SeqAt.shaped (.tuple (xs.map .str)) = true := by
  simp [SeqAt.shaped, PyData.canLay0, PyData.depth]
  exact lay_strs xs h
theorem eq_tups {xs ys : List Str} (h1 : ∀ z ∈ xs, okT z = true) (h2 : ∀ z ∈ ys, okT z = true) : fEq S (.tup (xs.map .str)) (.tup (ys.map .str)) = some (.bl (decide (xs = ys))) := by
  have e1 : ∀ ns : List Str, toPS S (.tup (ns.map .str)) = some (.tuple (ns.map .str)) := fun ns => by
    show toP (.tup (ns.map .str)) = _
    rw [toP, toPL_strs]
    rfl
  show fEqD S _ _ = _
  unfold fEqD
  rw [e1, e1]
  dsimp only
  rw [sh_tups h1, sh_tups h2, Bool.and_true, if_pos rfl, PyData.eqv, eqvAll_strs]
theorem Lin.okT (h : Lin ns L) (b : Brd ns) : ∀ z ∈ L, okT z = true := fun z hz => b.okT (h.mem.mp hz)
theorem okB' : okN (.own (Str.ofString "Board")) = true := by decide +kernel
theorem okR' : okN (.own (Str.ofString "Ranking")) = true := by decide +kernel
theorem pl_val {z : Str} (hz : z ∈ L) (nd : L.Nodup) : valD (plD L) (.inr z) = some (.int (L.idxOf z : Nat)) := by
  have key : ∀ (L : List Str) (k : Nat), z ∈ L → valD ((L.zipIdx k).map fun p => ((.inr p.1, .int (p.2 : Nat)) : Key × Dv)) (.inr z) = some (.int ((k + L.idxOf z : Nat) : Int)) := by
    intro L
    induction L with
    | nil => intro k h; cases h
    | cons x L ih =>
      intro k h
      rw [List.zipIdx_cons, List.map_cons]
      unfold valD
      rw [List.find?_cons]
      by_cases e : x = z
      · subst e
        simp
      · have e2 : decide ((Sum.inr x : Key) = Sum.inr z) = false := by simp [e]
        dsimp only
        rw [e2]
        dsimp only
        have := ih (k + 1) ((List.mem_cons.mp h).resolve_left fun q => e q.symm)
        unfold valD at this
        rw [this, List.idxOf_cons]
        have e3 : (x == z) = false := by simp [e]
        rw [e3]
        simp
        omega
  have := key L 0 hz
  rw [Nat.zero_add] at this
  exact this
end
end Mi

set_option Elab.async false
set_option linter.all false
set_option maxRecDepth 100000
set_option maxHeartbeats 1000000
namespace Mi
open PySem PySem.Spec PyProof.Rows L2 Sw
section
variable {S : Sto} {ev : Ev} {ns ms : List Int} {L M : List Str}
def fpB : MS := (sSeq (sIf (mOrT (mTst (mOwnIn "Board" true F_Board___contains__ (mV 4) (mV 0))) (mTst (m2 (fSIn false) (mV 4) (mV 2)))) (sRet (mV 3)) sNext)
      (sDrop (mSAdd (mV 2) (maCons (mV 4) maNil))))
theorem sin_at {ks : List Key} {z : Str} : fSIn false (S ++ [.set ks]) (.str z) (.mut S.length) = some (.bl (hasK ks (.inr z))) := by
  unfold fSIn
  dsimp only
  rw [new_at]
  rfl
theorem scan1000 : (1000 : Nat) < scanBound := by decide +kernel
def FpI (S : Sto) (ns : List Int) (L : List Str) (pre : List (Str × Nat)) (ev1 : Ev) (S1 : Sto) : Prop := ∃ a b ks, ev1 = [some (boardD ns), some (.tup (L.map .str)), some (.mut S.length), a, b] ∧ S1 = S ++ [.set ks] ∧ ks.length ≤ pre.length ∧ ∀ z, (.inr z : Key) ∈ ks → z ∈ pre.map (·.1)
theorem r_fwp (o : OkS S) (b : Brd ns) (hL : Lin ns L) : F_first_wrong_place [boardD ns, .tup (L.map .str)] S = some (.non, S) := by
  have few := hL.few b
  have nd := hL.nd b
  have h := forGo_ind (g := gT 2 (gsCons (gV 3) (gsCons (gV 4) gsNil))) (b := fpB) (fun p : Str × Nat => Dv.tup [.int (p.2 : Nat), .str p.1])
    (FpI S ns L) L.zipIdx ?_ L.zipIdx [] [some (boardD ns), some (.tup (L.map .str)), some (.mut S.length), none, none] (S ++ [.set []]) rfl ⟨_, _, [], rfl, rfl, Nat.le_refl _, fun z h => by cases h⟩
  · obtain ⟨ev', S', e, x, y, ks, rfl, rfl, _, _⟩ := h
    have o2 : OkS (S ++ [.set ks]) := ok_app o rfl
    unfold fpB at e
    unfold F_first_wrong_place mDef
    have el : ¬ ((((L.map Dv.str).length : Nat) : Int) < (((St ns).length : Nat) : Int)) := by rw [List.length_map, hL.len]; omega
    have el2 : ¬ (((L.length : Nat) : Int) < (((St ns).length : Nat) : Int)) := by rw [hL.len]; omega
    simp only [ap_2, ap_C, ap_V, ap_andT, ap_andV, ap_asg, ap_call, ap_cb, ap_cmeth, ap_cmethK, ap_cons, ap_dGet, ap_dIn, ap_dc, ap_drop, ap_enum, ap_eqRef, ap_extend, ap_fld, ap_fldM, ap_for, ap_gV, ap_if, ap_ifS, ap_isi, ap_it, ap_kget, ap_lc, ap_lc2, ap_lst, ap_lstL, ap_make, ap_makeK, ap_makeL, ap_meth, ap_methK, ap_moInt, ap_moNo, ap_next, ap_nil, ap_notT, ap_notV, ap_orT, ap_ownEq, ap_ownIn, ap_par, ap_prop, ap_put, ap_ret, ap_seq, ap_set, ap_sl, ap_strO, ap_tru, ap_tst, ap_tup, ap_tupOf, ap_yes, ap_zip, bnd_some, List.getElem?_cons_zero, List.getElem?_cons_succ, List.set_cons_zero, List.set_cons_succ, List.map_cons, List.map_nil, List.cons_append, List.nil_append, List.replicate_succ, List.replicate_zero, if_true, if_false, Bool.false_eq_true, reduceIte, List.length_cons, List.length_nil, sz_is, Nat.reduceAdd, lz0, lz1, lz2, lz3, lz4, lz5, lz6, lz7, lz8, lz9, lz10, lz11, lz12, lz13, lz14, lz15, Nat.zero_add, itemsOf, eq_self, Bool.not_true, Bool.not_false, Bool.true_and, Bool.and_true, true_and, and_true, decide_true, decide_false, wipeE, asQ, fTupOf, tru_bl, t_str, t_int, t_tup, i_ss, i_ii, i_tt, len_tup, len_lst, eq_int, ne_int, eq_str, ne_str, d_dic, k_str, k_int, List.length_map, ib_b, b_asO, b_cls, b_ty, b_sizes, b_whole, b_settings, b_beside, ap_setNew, enum_map, e, u_len0 o2 b, lt_int, el, el2]
    exact fin_app o c_non
  · rintro pre ⟨x, i⟩ post ev1 S1 e ⟨a, c, ks, rfl, rfl, hk, hm⟩
    have o2 : OkS (S ++ [.set ks]) := ok_app o rfl
    have en : L = pre.map (·.1) ++ x :: post.map (·.1) := by
      have := congrArg (List.map (·.1)) e
      rw [List.zipIdx_map_fst, List.map_append, List.map_cons] at this
      exact this
    have hx : x ∈ St ns := hL.mem.mp (by rw [en]; exact List.mem_append_right _ (.head _))
    have nx : x ∉ pre.map (·.1) := fun m => by
      rw [en, List.nodup_append] at nd
      exact nd.2.2 x m x (.head _) rfl
    have hf : hasK ks (.inr x) = false := by
      cases q : hasK ks (.inr x)
      · rfl
      · exact absurd (hm x (hasK_iff.mp q)) nx
    have lp : pre.length ≤ L.length := by
      have := congrArg List.length en
      rw [List.length_append, List.length_map] at this
      omega
    have sb : ks.length + 1 < scanBound := Nat.lt_of_le_of_lt (by omega) scan1000
    have ea : addK ks (.inr x) = .inr x :: ks := by
      unfold addK
      rw [hf]
      rfl
    refine ⟨_, [some (boardD ns), some (.tup (L.map .str)), some (.mut S.length), some (.int (i : Nat)), some (.str x)], S ++ [.set (.inr x :: ks)], rfl, ?_, ⟨_, _, .inr x :: ks, rfl, rfl, by rw [List.length_cons, List.length_append, List.length_singleton]; omega, fun z hz => ?_⟩⟩
    · unfold fpB
      simp only [ap_2, ap_C, ap_V, ap_andT, ap_andV, ap_asg, ap_call, ap_cb, ap_cmeth, ap_cmethK, ap_cons, ap_dGet, ap_dIn, ap_dc, ap_drop, ap_enum, ap_eqRef, ap_extend, ap_fld, ap_fldM, ap_for, ap_gV, ap_if, ap_ifS, ap_isi, ap_it, ap_kget, ap_lc, ap_lc2, ap_lst, ap_lstL, ap_make, ap_makeK, ap_makeL, ap_meth, ap_methK, ap_moInt, ap_moNo, ap_next, ap_nil, ap_notT, ap_notV, ap_orT, ap_ownEq, ap_ownIn, ap_par, ap_prop, ap_put, ap_ret, ap_seq, ap_set, ap_sl, ap_strO, ap_tru, ap_tst, ap_tup, ap_tupOf, ap_yes, ap_zip, bnd_some, List.getElem?_cons_zero, List.getElem?_cons_succ, List.set_cons_zero, List.set_cons_succ, List.map_cons, List.map_nil, List.cons_append, List.nil_append, List.replicate_succ, List.replicate_zero, if_true, if_false, Bool.false_eq_true, reduceIte, List.length_cons, List.length_nil, sz_is, Nat.reduceAdd, lz0, lz1, lz2, lz3, lz4, lz5, lz6, lz7, lz8, lz9, lz10, lz11, lz12, lz13, lz14, lz15, Nat.zero_add, itemsOf, eq_self, Bool.not_true, Bool.not_false, Bool.true_and, Bool.and_true, true_and, and_true, decide_true, decide_false, wipeE, asQ, fTupOf, tru_bl, t_str, t_int, t_tup, i_ss, i_ii, i_tt, len_tup, len_lst, eq_int, ne_int, eq_str, ne_str, d_dic, k_str, k_int, List.length_map, ib_b, b_asO, b_cls, b_ty, b_sizes, b_whole, b_settings, b_beside, r_has o2, hx, sin_at, hf, ap_sadd, new_at, new_set, ea, sb]
    · rw [List.map_append]
      rcases List.mem_cons.mp hz with q | q
      · cases q
        exact List.mem_append_right _ (.head _)
      · exact List.mem_append_left _ (hm z q)
theorem dcGo_gen {α : Type} {g : MG} {tt : MT} {mk mv : ME} (f : α → Dv) (e1 : α → Ev) (kf : α → Str) (h : α → Dv) : ∀ (xs : List α) (acc : List (Key × Dv)), acc.length + xs.length ≤ 1000000 → (xs.map kf).Nodup → (∀ p ∈ acc, ∀ x ∈ xs, p.1 ≠ .inr (kf x)) →
    (∀ x ∈ xs, g (f x) ev = some (e1 x) ∧ tt (e1 x) S = some (true, S) ∧ mk (e1 x) S = some (.str (kf x), S) ∧ mv (e1 x) S = some (h x, S)) →
    dcGo g tt mk mv ev (xs.map f) acc S = some (acc ++ xs.map fun x => (.inr (kf x), h x), S)
  | [], acc, _, _, _, _ => by
    show some (acc, S) = _
    rw [List.map_nil, List.append_nil]
  | x :: xs, acc, l, nd, ne, k => by
    obtain ⟨a, b, c, d⟩ := k x (.head _)
    rw [List.length_cons] at l
    have nd2 := List.nodup_cons.mp nd
    have ih := dcGo_gen f e1 kf h xs (acc ++ [(.inr (kf x), h x)]) (by rw [List.length_append, List.length_singleton]; omega) nd2.2 (fun p hp y hy => by
      rcases List.mem_append.mp hp with hp | hp
      · exact ne p hp y (.tail _ hy)
      · rw [List.mem_singleton.mp hp]
        intro e
        have e2 : kf x = kf y := Sum.inr.inj e
        exact nd2.1 (e2 ▸ List.mem_map_of_mem hy)) fun y m => k y (.tail _ m)
    rw [List.map_cons, dcGo, a]
    dsimp only
    rw [b, bnd_some, if_pos rfl, c, bnd_some, d, bnd_some]
    dsimp only [keyOf]
    rw [if_pos (by rw [sz_is]; omega), putD_new (fun p hp => ne p hp x (.head _)), ih, List.append_assoc]
    rfl
theorem gf1 : putFD (Str.ofString "_board") (boardD ns) [] = gs1 ns := by kernel_rfl
theorem gf2 : putFD (Str.ofString "_order") (.tup (L.map .str)) (gs1 ns) = gs2 ns L := by kernel_rfl
theorem gf3 : putFD (Str.ofString "_places") (.dic (plD L)) (gs2 ns L) = gsR ns L := by kernel_rfl
theorem ng1 : ((gs1 ns).length < 1000) = True := eq_true (by unfold gs1; simp)
theorem ng2 : ((gs2 ns L).length < 1000) = True := eq_true (by unfold gs2; simp)
theorem g0 (o : OkS S) : OkS (S ++ [.ins "Ranking" []]) := ok_app o (by simp [okMo, cleanF])
theorem g1 (o : OkS S) : OkS (S ++ [.ins "Ranking" (gs1 ns)]) := ok_app o (by simp [okMo, gs1, cleanF, cl_board])
theorem g2 (o : OkS S) : OkS (S ++ [.ins "Ranking" (gs2 ns L)]) := ok_app o (by simp [okMo, gs2, cleanF, cl_board, clean, cl_strs])
theorem cl_gsR : cleanF (gsR ns L) = true := by simp [gsR, cleanF, cl_board, clean, cl_pl, cl_strs]
theorem g3 (o : OkS S) : OkS (S ++ [.ins "Ranking" (gsR ns L)]) := ok_app o (by simp [okMo, cl_gsR])
theorem r_rinit (o : OkS S) (b : Brd ns) (hL : Lin ns L) : F_Ranking___init__ [.mut S.length, boardD ns, .tup (L.map .str)] (S ++ [.ins "Ranking" []]) = some (.non, S ++ [.ins "Ranking" (gsR ns L)]) := by
  have few := hL.few b
  have nd := hL.nd b
  have nn : ∀ S : Sto, fNotN S .non .non = some (.bl false) := fun _ => rfl
  unfold F_Ranking___init__ mDef
  simp only [ap_2, ap_C, ap_V, ap_andT, ap_andV, ap_asg, ap_call, ap_cb, ap_cmeth, ap_cmethK, ap_cons, ap_dGet, ap_dIn, ap_dc, ap_drop, ap_enum, ap_eqRef, ap_extend, ap_fld, ap_fldM, ap_for, ap_gV, ap_if, ap_ifS, ap_isi, ap_it, ap_kget, ap_lc, ap_lc2, ap_lst, ap_lstL, ap_make, ap_makeK, ap_makeL, ap_meth, ap_methK, ap_moInt, ap_moNo, ap_next, ap_nil, ap_notT, ap_notV, ap_orT, ap_ownEq, ap_ownIn, ap_par, ap_prop, ap_put, ap_ret, ap_seq, ap_set, ap_sl, ap_strO, ap_tru, ap_tst, ap_tup, ap_tupOf, ap_yes, ap_zip, bnd_some, List.getElem?_cons_zero, List.getElem?_cons_succ, List.set_cons_zero, List.set_cons_succ, List.map_cons, List.map_nil, List.cons_append, List.nil_append, List.replicate_succ, List.replicate_zero, if_true, if_false, Bool.false_eq_true, reduceIte, List.length_cons, List.length_nil, sz_is, Nat.reduceAdd, lz0, lz1, lz2, lz3, lz4, lz5, lz6, lz7, lz8, lz9, lz10, lz11, lz12, lz13, lz14, lz15, Nat.zero_add, itemsOf, eq_self, Bool.not_true, Bool.not_false, Bool.true_and, Bool.and_true, true_and, and_true, decide_true, decide_false, wipeE, asQ, fTupOf, tru_bl, t_str, t_int, t_tup, i_ss, i_ii, i_tt, len_tup, len_lst, eq_int, ne_int, eq_str, ne_str, d_dic, k_str, k_int, List.length_map, ib_b, b_asO, b_cls, b_ty, b_sizes, b_whole, b_settings, b_beside, r_chkb (g0 o), r_fwp (g0 o) b hL, nn, new_at, new_set, n0, gf1, ng1, gf2, ng2, q_cls, List.append_assoc, enum_map]
  rw [dcGo_gen (f := fun p : Str × Nat => Dv.tup [.int (p.2 : Nat), .str p.1]) (e1 := fun p => [some (.mut S.length), some (boardD ns), some (.tup (L.map .str)), some .non, some (.int (p.2 : Nat)), some (.str p.1)]) (kf := fun p => p.1) (h := fun p => .int (p.2 : Nat)) L.zipIdx [] (by simp; omega) (by rw [List.zipIdx_map_fst]; exact nd) (fun p hp => by cases hp)]
  rotate_left
  · rintro ⟨x, i⟩ hx
    exact ⟨rfl, rfl, rfl, rfl⟩
  have eb : [] ++ L.zipIdx.map (fun p => ((.inr p.1 : Key), Dv.int (p.2 : Nat))) = plD L := rfl
  rw [eb]
  simp only [ap_2, ap_C, ap_V, ap_andT, ap_andV, ap_asg, ap_call, ap_cb, ap_cmeth, ap_cmethK, ap_cons, ap_dGet, ap_dIn, ap_dc, ap_drop, ap_enum, ap_eqRef, ap_extend, ap_fld, ap_fldM, ap_for, ap_gV, ap_if, ap_ifS, ap_isi, ap_it, ap_kget, ap_lc, ap_lc2, ap_lst, ap_lstL, ap_make, ap_makeK, ap_makeL, ap_meth, ap_methK, ap_moInt, ap_moNo, ap_next, ap_nil, ap_notT, ap_notV, ap_orT, ap_ownEq, ap_ownIn, ap_par, ap_prop, ap_put, ap_ret, ap_seq, ap_set, ap_sl, ap_strO, ap_tru, ap_tst, ap_tup, ap_tupOf, ap_yes, ap_zip, bnd_some, List.getElem?_cons_zero, List.getElem?_cons_succ, List.set_cons_zero, List.set_cons_succ, List.map_cons, List.map_nil, List.cons_append, List.nil_append, List.replicate_succ, List.replicate_zero, if_true, if_false, Bool.false_eq_true, reduceIte, List.length_cons, List.length_nil, sz_is, Nat.reduceAdd, lz0, lz1, lz2, lz3, lz4, lz5, lz6, lz7, lz8, lz9, lz10, lz11, lz12, lz13, lz14, lz15, Nat.zero_add, itemsOf, eq_self, Bool.not_true, Bool.not_false, Bool.true_and, Bool.and_true, true_and, and_true, decide_true, decide_false, wipeE, asQ, fTupOf, tru_bl, t_str, t_int, t_tup, i_ss, i_ii, i_tt, len_tup, len_lst, eq_int, ne_int, eq_str, ne_str, d_dic, k_str, k_int, List.length_map, ib_b, b_asO, b_cls, b_ty, b_sizes, b_whole, b_settings, b_beside, new_at, new_set, ng2, gf3, q_cls]
  have le : (S ++ [Mo.ins (Str.ofString "Ranking") []]).length = (S ++ [Mo.ins (Str.ofString "Ranking") (gsR ns L)]).length := by simp
  rw [le]
  exact fin_clean (g3 o) c_non
theorem fin_rank (o : OkS S) : fin S.length (S ++ [.ins "Ranking" (gsR ns L)]) (.mut S.length) = some (rankD ns L, S) := by
  unfold fin
  rw [List.take_left, if_pos (show S.all okMo = true from o)]
  have : frz S.length (S ++ [.ins "Ranking" (gsR ns L)]) (.mut S.length) = some (rankD ns L) := by
    unfold frz
    dsimp only
    rw [if_neg (Nat.lt_irrefl _), new_at]
    dsimp only
    rw [if_pos cl_gsR]
    rfl
  rw [this]
theorem r_rnew (o : OkS S) (b : Brd ns) (hL : Lin ns L) : newO (Str.ofString "Ranking") F_Ranking___init__ [boardD ns, .tup (L.map .str)] S = some (rankD ns L, S) := by
  unfold newO
  have := r_rinit o b hL
  rw [show (S ++ [Mo.ins (Str.ofString "Ranking") []]) = S ++ [.ins "Ranking" []] from rfl, this]
  exact fin_rank o
end
end Mi

set_option Elab.async false
set_option linter.all false
set_option maxRecDepth 100000
set_option maxHeartbeats 1000000
namespace Mi
open PySem PySem.Spec PyProof.Rows L2 Sw
section
variable {A B : Sto} {ev : Ev} {ns ms : List Int} {L M : List Str} {d s c : Int}
theorem at_j {m : Mo} : (A ++ m :: B)[A.length]? = some m := by simp
theorem set_j {m k : Mo} : (A ++ m :: B).set A.length k = A ++ k :: B := by simp
theorem okS_j (oA : OkS A) (oB : OkS B) {m : Mo} (h : okMo m = true) : OkS (A ++ m :: B) := by
  unfold OkS at *
  rw [List.all_append, List.all_cons, oA, oB, h]
  rfl
theorem asQ_j {xs : List Dv} : asQ (A ++ .lst xs :: B) (.mut A.length) = some xs := by
  unfold asQ
  dsimp only
  rw [at_j]
theorem jb_0 : fIx (A ++ .lst [.int d, .int s, .int c] :: B) (.mut A.length) (.int 0) = some (.int d) := by
  show (match asQ (A ++ .lst [.int d, .int s, .int c] :: B) (.mut A.length) with | some ds => atI ds 0 | none => none) = _
  rw [asQ_j]
  rfl
theorem jb_1 : fIx (A ++ .lst [.int d, .int s, .int c] :: B) (.mut A.length) (.int 1) = some (.int s) := by
  show (match asQ (A ++ .lst [.int d, .int s, .int c] :: B) (.mut A.length) with | some ds => atI ds 1 | none => none) = _
  rw [asQ_j]
  rfl
theorem jb_2 : fIx (A ++ .lst [.int d, .int s, .int c] :: B) (.mut A.length) (.int 2) = some (.int c) := by
  show (match asQ (A ++ .lst [.int d, .int s, .int c] :: B) (.mut A.length) with | some ds => atI ds 2 | none => none) = _
  rw [asQ_j]
  rfl
theorem fin_jb {x : Mo} {v : Dv} (oA : OkS A) (oB : OkS B) (h : clean v = true) : fin (A ++ x :: B).length (A ++ jarM d s c :: B) v = some (v, A ++ jarM d s c :: B) := by
  rw [show (A ++ x :: B).length = (A ++ jarM d s c :: B).length by simp]
  exact fin_clean (okS_j oA oB (by simp [jarM, okMo, cleanL, clean])) h
theorem r_dipB (oA : OkS A) (oB : OkS B) {n : Int} (h1 : 0 < n) (h2 : n < 1000000) : ∃ r d' s' c', F__law_dip [.mut A.length, .int n] (A ++ jarM d s c :: B) = some (.int r, A ++ jarM d' s' c' :: B) ∧ 0 ≤ r ∧ r < n := by
  have n0 : n ≠ 0 := by omega
  by_cases hd : 0 < d
  · refine ⟨d.fmod n, d.fdiv n, s, c + 1, ?_, Int.fmod_nonneg_of_pos _ h1, Int.fmod_lt_of_pos _ h1⟩
    unfold F__law_dip mDef
    simp only [ap_2, ap_C, ap_V, ap_andT, ap_andV, ap_asg, ap_call, ap_cb, ap_cmeth, ap_cmethK, ap_cons, ap_dGet, ap_dIn, ap_dc, ap_drop, ap_enum, ap_eqRef, ap_extend, ap_fld, ap_fldM, ap_for, ap_gV, ap_if, ap_ifS, ap_isi, ap_it, ap_kget, ap_lc, ap_lc2, ap_lst, ap_lstL, ap_make, ap_makeK, ap_makeL, ap_meth, ap_methK, ap_moInt, ap_moNo, ap_next, ap_nil, ap_notT, ap_notV, ap_orT, ap_ownEq, ap_ownIn, ap_par, ap_prop, ap_put, ap_ret, ap_seq, ap_set, ap_sl, ap_strO, ap_tru, ap_tst, ap_tup, ap_tupOf, ap_yes, ap_zip, bnd_some, List.getElem?_cons_zero, List.getElem?_cons_succ, List.set_cons_zero, List.set_cons_succ, List.map_cons, List.map_nil, List.cons_append, List.nil_append, List.replicate_succ, List.replicate_zero, if_true, if_false, Bool.false_eq_true, reduceIte, List.length_cons, List.length_nil, sz_is, Nat.reduceAdd, lz0, lz1, lz2, lz3, lz4, lz5, lz6, lz7, lz8, lz9, lz10, lz11, lz12, lz13, lz14, lz15, Nat.zero_add, itemsOf, eq_self, Bool.not_true, Bool.not_false, Bool.true_and, Bool.and_true, true_and, and_true, decide_true, decide_false, wipeE, asQ, fTupOf, at_j, set_j, j_m, jb_0, jb_1, jb_2, ix30, ix31, ix32, a_int, gt_int, int_int, mod_int n0, div_int n0 (by omega : n.natAbs < 1073741824), hd]
    exact fin_jb oA oB c_int
  · refine ⟨(((s * 40692 + (c + 1) * 52021 + 31).fmod 2147483399).fdiv 2048).fmod n, d, (s * 40692 + (c + 1) * 52021 + 31).fmod 2147483399, c + 1, ?_, Int.fmod_nonneg_of_pos _ h1, Int.fmod_lt_of_pos _ h1⟩
    unfold F__law_dip mDef
    simp only [ap_2, ap_C, ap_V, ap_andT, ap_andV, ap_asg, ap_call, ap_cb, ap_cmeth, ap_cmethK, ap_cons, ap_dGet, ap_dIn, ap_dc, ap_drop, ap_enum, ap_eqRef, ap_extend, ap_fld, ap_fldM, ap_for, ap_gV, ap_if, ap_ifS, ap_isi, ap_it, ap_kget, ap_lc, ap_lc2, ap_lst, ap_lstL, ap_make, ap_makeK, ap_makeL, ap_meth, ap_methK, ap_moInt, ap_moNo, ap_next, ap_nil, ap_notT, ap_notV, ap_orT, ap_ownEq, ap_ownIn, ap_par, ap_prop, ap_put, ap_ret, ap_seq, ap_set, ap_sl, ap_strO, ap_tru, ap_tst, ap_tup, ap_tupOf, ap_yes, ap_zip, bnd_some, List.getElem?_cons_zero, List.getElem?_cons_succ, List.set_cons_zero, List.set_cons_succ, List.map_cons, List.map_nil, List.cons_append, List.nil_append, List.replicate_succ, List.replicate_zero, if_true, if_false, Bool.false_eq_true, reduceIte, List.length_cons, List.length_nil, sz_is, Nat.reduceAdd, lz0, lz1, lz2, lz3, lz4, lz5, lz6, lz7, lz8, lz9, lz10, lz11, lz12, lz13, lz14, lz15, Nat.zero_add, itemsOf, eq_self, Bool.not_true, Bool.not_false, Bool.true_and, Bool.and_true, true_and, and_true, decide_true, decide_false, wipeE, asQ, fTupOf, at_j, set_j, j_m, jb_0, jb_1, jb_2, ix30, ix31, ix32, a_int, gt_int, int_int, mod_int n0, hd, mul_int (S := A ++ .lst [.int d, .int s, .int (c + 1)] :: B) (a := s) (b := 40692) (by decide), mul_int (S := A ++ .lst [.int d, .int s, .int (c + 1)] :: B) (a := c + 1) (b := 52021) (by decide), mod_int (b := 2147483399) (by decide), div_int (b := 2048) (by decide) (by decide)]
    exact fin_jb oA oB c_int
/-! ### the line -/
theorem ap_append {S : Sto} {mo : ME} {m : MA} : mAppend mo m ev S = bnd (mo ev S) fun o S1 => match o with
  | .mut l => if isLstAt S1 l then bnd (m ev S1) fun ds S2 => match ds with
    | [d] => match S2[l]? with
      | some (.lst es) => if es.length < sizeLine then some (.non, S2.set l (.lst (es ++ [d]))) else none
      | _ => none
    | _ => none
    else none
  | _ => none := rfl
theorem ap_popAt {S : Sto} {mo : ME} {m : MA} : mPopAt mo m ev S = bnd (mo ev S) fun o S1 => match o with
  | .mut l => if isLstAt S1 l then bnd (m ev S1) fun ds S2 => match ds with
    | [.int i] => match S2[l]? with
      | some (.lst es) => if 0 ≤ i ∧ i.toNat < es.length ∧ i.natAbs < 2 ^ 63 then (match es[i.toNat]? with
        | some d => some (d, S2.set l (.lst (es.eraseIdx i.toNat)))
        | none => none) else none
      | _ => none
    | _ => none
    else none
  | _ => none := rfl
theorem ap_tupN {S : Sto} {m : ME} : mTupN m ev S = bnd (m ev S) fun d S1 => match d with
  | .lst ds => some (.tupN ds, S1)
  | .mut l => match S1[l]? with
    | some (.lst ds) => some (.tupN ds, S1)
    | _ => none
  | _ => none := rfl
/-- the jar, what is left, what is found -/
def li3 (A : Sto) (d s c : Int) (R F : List Str) : Sto := A ++ [jarM d s c, .lst (R.map .str), .lst (F.map .str)]
theorem li_1 {R F : List Str} : (li3 A d s c R F)[A.length + 1]? = some (.lst (R.map .str)) := by
  unfold li3
  rw [List.getElem?_append_right (by omega)]
  simp
theorem li_2 {R F : List Str} : (li3 A d s c R F)[A.length + 2]? = some (.lst (F.map .str)) := by
  unfold li3
  rw [List.getElem?_append_right (by omega)]
  simp
theorem li_s1 {R F : List Str} {x : List Str} : (li3 A d s c R F).set (A.length + 1) (.lst (x.map .str)) = li3 A d s c x F := by
  unfold li3
  rw [List.set_append_right _ _ (by omega)]
  simp
theorem li_s2 {R F : List Str} {x : List Str} : (li3 A d s c R F).set (A.length + 2) (.lst (x.map .str)) = li3 A d s c R x := by
  unfold li3
  rw [List.set_append_right _ _ (by omega)]
  simp
theorem li_ne {R F : List Str} (h : ∀ z ∈ R, okT z = true) : fNe (li3 A d s c R F) (.mut (A.length + 1)) (.lst []) = some (.bl (!decide (R = []))) := by
  have e1 : toPS (li3 A d s c R F) (.mut (A.length + 1)) = some (.list (R.map .str)) := by
    unfold toPS
    dsimp only
    rw [li_1]
    dsimp only
    rw [toPL_strs]
    rfl
  show fNeD _ _ _ = _
  unfold fNeD
  rw [e1]
  have e2 : toPS (li3 A d s c R F) (.lst []) = some (.list []) := by rfl
  rw [e2]
  dsimp only
  have s1 : SeqAt.shaped (.list (R.map .str)) = true := by
    simp [SeqAt.shaped, PyData.canLay0, PyData.depth]
    exact lay_strs R h
  have s2 : SeqAt.shaped (.list []) = true := by decide +kernel
  rw [s1, s2, Bool.and_true, if_pos rfl, PyData.eqv]
  have := eqvAll_strs R []
  rw [List.map_nil] at this
  rw [this]
def lnB : MS := (sDrop (mAppend (mV 3) (maCons (mPopAt (mV 2) (maCons (mCall F__law_dip (maCons (mV 0) (maCons (mCB fLen (maCons (mV 2) maNil)) maNil))) maNil)) maNil)))
theorem li_len {R F : List Str} : fLen (li3 A d s c R F) [.mut (A.length + 1)] = some (.int (R.length : Nat)) := by
  show (match asQ (li3 A d s c R F) (.mut (A.length + 1)) with | some ds => some (Dv.int (ds.length : Nat)) | none => _) = _
  unfold asQ
  dsimp only
  rw [li_1]
  simp
theorem perm_erase {α : Type} : ∀ {xs : List α} {k : Nat} {x : α}, xs[k]? = some x → (x :: xs.eraseIdx k).Perm xs
  | [], _, _, h => by simp at h
  | y :: ys, 0, x, h => by
    simp at h
    subst h
    exact List.Perm.refl _
  | y :: ys, k + 1, x, h => by
    have ih := perm_erase (xs := ys) (k := k) (x := x) (by simpa using h)
    rw [List.eraseIdx_cons_succ]
    exact (List.Perm.swap y x _).trans (ih.cons y)
theorem erase_map {α β : Type} {f : α → β} : ∀ (xs : List α) (k : Nat), (xs.map f).eraseIdx k = (xs.eraseIdx k).map f
  | [], _ => rfl
  | _ :: _, 0 => rfl
  | x :: xs, k + 1 => by
    rw [List.map_cons, List.eraseIdx_cons_succ, List.eraseIdx_cons_succ, List.map_cons, erase_map xs k]
theorem ln_loop {St0 : List Str} {sp : Dv} (oA : OkS A) (ht : ∀ z ∈ St0, okT z = true) (hn : St0.length ≤ 1000) : ∀ (fuel : Nat) (R F : List Str) (d s c : Int), (R ++ F).Perm St0 → R.length < fuel →
    ∃ F' d' s' c', whGo (mTst (m2 fNe (mV 2) (mLst maNil))) lnB fuel [some (.mut A.length), some sp, some (.mut (A.length + 1)), some (.mut (A.length + 2))] (li3 A d s c R F) = some (.nx [some (.mut A.length), some sp, some (.mut (A.length + 1)), some (.mut (A.length + 2))], li3 A d' s' c' [] F') ∧ F'.Perm St0
  | 0, _, _, _, _, _, _, h => absurd h (Nat.not_lt_zero _)
  | fuel + 1, R, F, d, s, c, hp, hl => by
    have okR : ∀ z ∈ R, okT z = true := fun z hz => ht z (hp.mem_iff.mp (List.mem_append_left _ hz))
    by_cases hR : R = []
    · subst hR
      refine ⟨F, d, s, c, ?_, by simpa using hp⟩
      unfold whGo
      have := li_ne (A := A) (d := d) (s := s) (c := c) (R := []) (F := F) okR
      simp only [ap_2, ap_C, ap_V, ap_andT, ap_andV, ap_asg, ap_call, ap_cb, ap_cmeth, ap_cmethK, ap_cons, ap_dGet, ap_dIn, ap_dc, ap_drop, ap_enum, ap_eqRef, ap_extend, ap_fld, ap_fldM, ap_for, ap_gV, ap_if, ap_ifS, ap_isi, ap_it, ap_kget, ap_lc, ap_lc2, ap_lst, ap_lstL, ap_make, ap_makeK, ap_makeL, ap_meth, ap_methK, ap_moInt, ap_moNo, ap_next, ap_nil, ap_notT, ap_notV, ap_orT, ap_ownEq, ap_ownIn, ap_par, ap_prop, ap_put, ap_ret, ap_seq, ap_set, ap_sl, ap_strO, ap_tru, ap_tst, ap_tup, ap_tupOf, ap_yes, ap_zip, bnd_some, List.getElem?_cons_zero, List.getElem?_cons_succ, List.set_cons_zero, List.set_cons_succ, List.map_cons, List.map_nil, List.cons_append, List.nil_append, List.replicate_succ, List.replicate_zero, if_true, if_false, Bool.false_eq_true, reduceIte, List.length_cons, List.length_nil, sz_is, Nat.reduceAdd, lz0, lz1, lz2, lz3, lz4, lz5, lz6, lz7, lz8, lz9, lz10, lz11, lz12, lz13, lz14, lz15, Nat.zero_add, itemsOf, eq_self, Bool.not_true, Bool.not_false, Bool.true_and, Bool.and_true, true_and, and_true, decide_true, decide_false, wipeE, asQ, fTupOf, this]
    · have l1 : 0 < R.length := List.length_pos_iff.mpr hR
      have l2 : R.length + F.length = St0.length := by
        have := hp.length_eq
        rwa [List.length_append] at this
      have oB : OkS [Mo.lst (R.map .str), .lst (F.map .str)] := by
        simp [OkS, okMo, cl_strs]
      obtain ⟨r, d', s', c', e, r0, r1⟩ := r_dipB oA oB (d := d) (s := s) (c := c) (n := (R.length : Nat)) (by omega) (by omega)
      obtain ⟨k, rfl⟩ := Int.eq_ofNat_of_zero_le r0
      have hk : k < R.length := by omega
      obtain ⟨x, hx⟩ : ∃ x, R[k]? = some x := ⟨R[k], List.getElem?_eq_getElem hk⟩
      have pe := perm_erase hx
      have hp2 : (R.eraseIdx k ++ (F ++ [x])).Perm St0 := by
        refine List.Perm.trans ?_ hp
        have h1 : (R.eraseIdx k ++ (F ++ [x])).Perm (x :: R.eraseIdx k ++ F) := by
          rw [← List.append_assoc]
          exact List.perm_append_comm.trans (by simp)
        exact h1.trans (pe.append_right F)
      have le : (R.eraseIdx k).length < fuel := by
        rw [List.length_eraseIdx, if_pos hk]
        omega
      obtain ⟨F', d2, s2, c2, e2, p2⟩ := ln_loop (sp := sp) oA ht hn fuel (R.eraseIdx k) (F ++ [x]) d' s' c' hp2 le
      refine ⟨F', d2, s2, c2, ?_, p2⟩
      unfold whGo
      have hne := li_ne (A := A) (d := d) (s := s) (c := c) (F := F) okR
      have e' : F__law_dip [.mut A.length, .int (R.length : Nat)] (li3 A d s c R F) = some (.int (k : Nat), li3 A d' s' c' R F) := e
      have i1 : isLstAt (li3 A d s c R F) (A.length + 1) = true := by unfold isLstAt; rw [li_1]
      have i2 : isLstAt (li3 A d s c R F) (A.length + 2) = true := by unfold isLstAt; rw [li_2]
      have cnd : (0 : Int) ≤ (k : Nat) ∧ ((k : Nat) : Int).toNat < (R.map Dv.str).length ∧ ((k : Nat) : Int).natAbs < 2 ^ 63 := by
        rw [List.length_map]
        omega
      have ek : (R.map Dv.str)[((k : Nat) : Int).toNat]? = some (.str x) := by
        rw [Int.toNat_natCast, List.getElem?_map, hx]
        rfl
      have ee : (R.map Dv.str).eraseIdx ((k : Nat) : Int).toNat = (R.eraseIdx k).map .str := by
        rw [Int.toNat_natCast, erase_map]
      have fl : ((F.map Dv.str).length < 16777216) = True := eq_true (by rw [List.length_map]; omega)
      have ef : F.map Dv.str ++ [Dv.str x] = (F ++ [x]).map .str := by simp
      have hd : decide (R = []) = false := decide_eq_false hR
      have lnb : lnB [some (.mut A.length), some sp, some (.mut (A.length + 1)), some (.mut (A.length + 2))] (li3 A d s c R F) = some (.nx [some (.mut A.length), some sp, some (.mut (A.length + 1)), some (.mut (A.length + 2))], li3 A d' s' c' (R.eraseIdx k) (F ++ [x])) := by
        unfold lnB
        simp only [ap_2, ap_C, ap_V, ap_andT, ap_andV, ap_asg, ap_call, ap_cb, ap_cmeth, ap_cmethK, ap_cons, ap_dGet, ap_dIn, ap_dc, ap_drop, ap_enum, ap_eqRef, ap_extend, ap_fld, ap_fldM, ap_for, ap_gV, ap_if, ap_ifS, ap_isi, ap_it, ap_kget, ap_lc, ap_lc2, ap_lst, ap_lstL, ap_make, ap_makeK, ap_makeL, ap_meth, ap_methK, ap_moInt, ap_moNo, ap_next, ap_nil, ap_notT, ap_notV, ap_orT, ap_ownEq, ap_ownIn, ap_par, ap_prop, ap_put, ap_ret, ap_seq, ap_set, ap_sl, ap_strO, ap_tru, ap_tst, ap_tup, ap_tupOf, ap_yes, ap_zip, bnd_some, List.getElem?_cons_zero, List.getElem?_cons_succ, List.set_cons_zero, List.set_cons_succ, List.map_cons, List.map_nil, List.cons_append, List.nil_append, List.replicate_succ, List.replicate_zero, if_true, if_false, Bool.false_eq_true, reduceIte, List.length_cons, List.length_nil, sz_is, Nat.reduceAdd, lz0, lz1, lz2, lz3, lz4, lz5, lz6, lz7, lz8, lz9, lz10, lz11, lz12, lz13, lz14, lz15, Nat.zero_add, itemsOf, eq_self, Bool.not_true, Bool.not_false, Bool.true_and, Bool.and_true, true_and, and_true, decide_true, decide_false, wipeE, asQ, fTupOf, ap_append, ap_popAt, i1, i2, li_len, e', li_1, cnd, ek, ee, li_s1, li_2, fl, ef, li_s2]
      simp only [ap_2, ap_C, ap_V, ap_andT, ap_andV, ap_asg, ap_call, ap_cb, ap_cmeth, ap_cmethK, ap_cons, ap_dGet, ap_dIn, ap_dc, ap_drop, ap_enum, ap_eqRef, ap_extend, ap_fld, ap_fldM, ap_for, ap_gV, ap_if, ap_ifS, ap_isi, ap_it, ap_kget, ap_lc, ap_lc2, ap_lst, ap_lstL, ap_make, ap_makeK, ap_makeL, ap_meth, ap_methK, ap_moInt, ap_moNo, ap_next, ap_nil, ap_notT, ap_notV, ap_orT, ap_ownEq, ap_ownIn, ap_par, ap_prop, ap_put, ap_ret, ap_seq, ap_set, ap_sl, ap_strO, ap_tru, ap_tst, ap_tup, ap_tupOf, ap_yes, ap_zip, bnd_some, List.getElem?_cons_zero, List.getElem?_cons_succ, List.set_cons_zero, List.set_cons_succ, List.map_cons, List.map_nil, List.cons_append, List.nil_append, List.replicate_succ, List.replicate_zero, if_true, if_false, Bool.false_eq_true, reduceIte, List.length_cons, List.length_nil, sz_is, Nat.reduceAdd, lz0, lz1, lz2, lz3, lz4, lz5, lz6, lz7, lz8, lz9, lz10, lz11, lz12, lz13, lz14, lz15, Nat.zero_add, itemsOf, eq_self, Bool.not_true, Bool.not_false, Bool.true_and, Bool.and_true, true_and, and_true, decide_true, decide_false, wipeE, asQ, fTupOf, hne, hd, lnb, e2]
theorem r_line (oA : OkS A) (b : Brd ns) : ∃ L d' s' c', F__law_line [.mut A.length, .tup (ns.map .int)] (A ++ [jarM d s c]) = some (.tupN (L.map .str), A ++ [jarM d' s' c']) ∧ Lin ns L := by
  have few : (St ns).length ≤ 243 := setsOf_len b.fit
  have okl := ln_loop (A := A) (sp := .tup (ns.map .int)) oA (St0 := St ns) (fun z hz => b.okT hz) (by omega) 1000 (St ns) [] d s c (by simp) (by omega)
  obtain ⟨F', d', s', c', e, p⟩ := okl
  refine ⟨F', d', s', c', ?_, p⟩
  unfold lnB at e
  have fi : fitsI ns = true := by
    unfold fitsI
    rw [Bool.and_eq_true]
    exact ⟨decide_eq_true b.few, List.all_eq_true.mpr fun z hz => decide_eq_true (b.fit.each z hz)⟩
  have ea : F__law_allM [.tup (ns.map .int)] (A ++ [jarM d s c]) = some (.mut (A.length + 1), A ++ [jarM d s c] ++ [.lst ((St ns).map .str)]) := by
    show (match asInts (ns.map .int) with | some ms => if fitsI ms = true then some (Dv.mut (A ++ [jarM d s c]).length, A ++ [jarM d s c] ++ [Mo.lst ((setsOf (wholeOf ms)).map .str)]) else none | none => none) = _
    rw [asInts_map]
    dsimp only
    rw [if_pos fi]
    simp [St]
  have e3 : A ++ [jarM d s c] ++ [Mo.lst ((St ns).map .str)] ++ [.lst []] = li3 A d s c (St ns) [] := by
    unfold li3
    simp
  have l3 : (A ++ [jarM d s c] ++ [Mo.lst ((St ns).map .str)]).length = A.length + 2 := by simp
  unfold F__law_line mDef
  simp only [ap_2, ap_C, ap_V, ap_andT, ap_andV, ap_asg, ap_call, ap_cb, ap_cmeth, ap_cmethK, ap_cons, ap_dGet, ap_dIn, ap_dc, ap_drop, ap_enum, ap_eqRef, ap_extend, ap_fld, ap_fldM, ap_for, ap_gV, ap_if, ap_ifS, ap_isi, ap_it, ap_kget, ap_lc, ap_lc2, ap_lst, ap_lstL, ap_make, ap_makeK, ap_makeL, ap_meth, ap_methK, ap_moInt, ap_moNo, ap_next, ap_nil, ap_notT, ap_notV, ap_orT, ap_ownEq, ap_ownIn, ap_par, ap_prop, ap_put, ap_ret, ap_seq, ap_set, ap_sl, ap_strO, ap_tru, ap_tst, ap_tup, ap_tupOf, ap_yes, ap_zip, bnd_some, List.getElem?_cons_zero, List.getElem?_cons_succ, List.set_cons_zero, List.set_cons_succ, List.map_cons, List.map_nil, List.cons_append, List.nil_append, List.replicate_succ, List.replicate_zero, if_true, if_false, Bool.false_eq_true, reduceIte, List.length_cons, List.length_nil, sz_is, Nat.reduceAdd, lz0, lz1, lz2, lz3, lz4, lz5, lz6, lz7, lz8, lz9, lz10, lz11, lz12, lz13, lz14, lz15, Nat.zero_add, itemsOf, eq_self, Bool.not_true, Bool.not_false, Bool.true_and, Bool.and_true, true_and, and_true, decide_true, decide_false, wipeE, asQ, fTupOf, ea, l3, e3, e, ap_tupN, li_2]
  unfold li3
  have : fin (A ++ [jarM d s c]).length (A ++ [jarM d' s' c', Mo.lst (([] : List Str).map .str), .lst (F'.map .str)]) (.tupN (F'.map .str)) = some (.tupN (F'.map .str), A ++ [jarM d' s' c']) := by
    have h1 := fin_app (S := A ++ [jarM d' s' c']) (m := [Mo.lst (([] : List Str).map .str), .lst (F'.map .str)]) (d := .tupN (F'.map .str)) (j_ok oA) (by rw [clean]; exact cl_strs _)
    rw [show (A ++ [jarM d' s' c']).length = (A ++ [jarM d s c]).length by simp, List.append_assoc] at h1
    exact h1
  exact this
end
end Mi

set_option Elab.async false
set_option linter.all false
set_option maxRecDepth 100000
set_option maxHeartbeats 1000000
namespace Mi
open PySem PySem.Spec PyProof.Rows L2 Sw
section
variable {A S : Sto} {ev : Ev} {ns ms : List Int} {L M : List Str} {d s c : Int}
theorem ap_neg {m : ME} : mNeg m ev S = bnd (m ev S) fun d S1 => match d with | .int i => some (.int (-i), S1) | _ => none := rfl
theorem wk_N {xs : List Dv} : weak (.tupN xs) = .tup xs := rfl
theorem neg1 : (-(1 : Int)) = -1 := rfl
theorem p021' {a b x : Dv} : permA [0, 2, 1] [a] [b, x] = [a, x, b] := rfl
/-! ### other orders -/
theorem Lin.rev (h : Lin ns L) : Lin ns L.reverse := (List.reverse_perm L).trans h
theorem Lin.rot (h : Lin ns L) : Lin ns (L.drop 1 ++ L.take 1) := by
  have : (L.drop 1 ++ L.take 1).Perm L := by
    refine List.perm_append_comm.trans ?_
    rw [List.take_append_drop]
  exact this.trans h
theorem fold_grow : ∀ (zs : List Str) (S : List Str), (∀ z ∈ zs, 1 ≤ (chars z).length) → S.length ≤ (zs.foldl sets1 S).length
  | [], S, _ => Nat.le_refl _
  | z :: zs, S, h => by
    have h1 := fold_grow zs (sets1 S z) fun y m => h y (.tail _ m)
    rw [sets1_len] at h1
    rw [List.foldl_cons]
    exact Nat.le_trans (Nat.le_mul_of_pos_right _ (h z (.head _))) h1
theorem cut_two {n : Int} (h : n = 2 ∨ n = 3) : 2 ≤ (chars (cutS "012" none (some n))).length := by rcases h with rfl | rfl <;> decide +kernel
theorem St_two (b : Brd ns) : 2 ≤ (St ns).length := by
  have hn := b.some_
  have h := b.two
  match ns, hn, h with
  | n :: ms, _, h =>
    have h2 := cut_two (h n (.head _))
    have h1 := fold_grow (wholeOf ms) (sets1 [""] (cutS "012" none (some n))) fun z hz => by
      obtain ⟨m, hm, rfl⟩ := List.mem_map.mp hz
      have := cut_two (h m (.tail _ hm))
      omega
    rw [sets1_len, List.length_singleton, Nat.one_mul] at h1
    exact Nat.le_trans h2 h1
theorem rev_ne (nd : L.Nodup) (h : 2 ≤ L.length) : L ≠ L.reverse := by
  intro e
  match L, nd, h, e with
  | x :: y :: t, nd, _, e =>
    rw [List.reverse_cons] at e
    cases q : (y :: t).reverse with
    | nil => simp at q
    | cons u v =>
      rw [q] at e
      have ex : x = u := by
        have := congrArg List.head? e
        simpa using this
      have mu : u ∈ (y :: t).reverse := by rw [q]; exact .head _
      rw [← ex] at mu
      exact (List.nodup_cons.mp nd).1 (List.mem_reverse.mp mu)
theorem rot_ne (nd : L.Nodup) (h : 2 ≤ L.length) : L ≠ L.drop 1 ++ L.take 1 := by
  intro e
  match L, nd, h, e with
  | x :: y :: t, nd, _, e =>
    have ex : x = y := by
      have := congrArg List.head? e
      simpa using this
    exact (List.nodup_cons.mp nd).1 (by rw [ex]; exact .head _)
theorem sl_from1 (h : 2 ≤ L.length) : fSl S (.tup (L.map .str)) (some 1) none = some (.tup ((L.drop 1).map .str)) := by
  have e1 : HT.sIx (L.map Dv.str).length 0 (some 1) = 1 := by
    rw [List.length_map]
    show (if (1 : Int) < 0 then ((1 : Int) + (L.length : Int)).toNat else min (1 : Int).toNat L.length) = 1
    rw [if_neg (by omega)]
    have : (1 : Int).toNat = 1 := rfl
    omega
  unfold fSl
  dsimp only
  rw [e1, if_neg (by omega)]
  unfold cutD
  rw [e1]
  show some (Dv.tup (List.take (HT.sIx (L.map Dv.str).length (L.map Dv.str).length none - 1) ((L.map Dv.str).drop 1))) = _
  rw [HT.sIx_none, ← List.map_drop, List.take_of_length_le (by simp)]
theorem sl_to1 (h : 2 ≤ L.length) : fSl S (.tup (L.map .str)) none (some 1) = some (.tup ((L.take 1).map .str)) := by
  have e1 : HT.sIx (L.map Dv.str).length (L.map Dv.str).length (some 1) = 1 := by
    rw [List.length_map]
    show (if (1 : Int) < 0 then ((1 : Int) + (L.length : Int)).toNat else min (1 : Int).toNat L.length) = 1
    rw [if_neg (by omega)]
    have : (1 : Int).toNat = 1 := rfl
    omega
  unfold fSl
  dsimp only
  rw [e1, if_neg (by rw [List.length_map]; omega)]
  unfold cutD
  rw [e1, HT.sIx_none]
  simp
/-! ### what is shown -/
theorem bn_r : fBoolNo (Str.ofString "Ranking") S [rankD ns L] = some (.bl true) := by
  unfold fBoolNo
  dsimp only
  rw [q_asO]
  exact if_pos rfl
def shD (ns : List Int) (L : List Str) : Dv := .lst [.str (txt ns), .tup (L.map .str), .bl true, .bl true, .bl false]
def shP (ns : List Int) (L : List Str) : PyData := .list [.str (txt ns), .tuple (L.map .str), .bool true, .bool true, .bool false]
theorem sz_L (b : Brd ns) (h : Lin ns L) : Sz 1458 1 (.tuple (L.map .str)) :=
  sz_strs (k := 243) (m := 5) (fun z hz => ⟨b.okT (h.mem.mp hz), by have := b.len (h.mem.mp hz); have := b.few; omega⟩) (h.few b)
theorem sh_toP : toPS S (shD ns L) = some (shP ns L) := by
  show toP (shD ns L) = _
  simp [shD, shP, toP, toPL, toPL_strs]
theorem sh_sz (b : Brd ns) (h : Lin ns L) : Sz 100000 60 (shP ns L) := by
  refine (Sz.list (b := 1458) (d := 1) (k := 5) (fun x hx => ?_) (by simp)).up (by omega) (by omega)
  simp only [List.mem_cons, List.not_mem_nil, or_false] at hx
  rcases hx with rfl | rfl | rfl | rfl | rfl
  · exact Sz.str b.tx.1 (by have := b.tx.2; omega)
  · exact sz_L b h
  · exact Sz.bool
  · exact Sz.bool
  · exact Sz.bool
theorem sh_repr (b : Brd ns) (h : Lin ns L) : fRepr S [.lst [.str (txt ns), .tup (L.map .str), .bl true, .bl true, .bl false]] = some (.str (shP ns L).shown) := repr_of (d := shD ns L) sh_toP ((sh_sz b h).ok (by omega) (by omega))
theorem st_L (b : Brd ns) (h : Lin ns L) : fStrT S [.tup (L.map .str)] = some (.str (PyData.shown (.tuple (L.map .str)))) := by
  have e : toPS S (.tup (L.map .str)) = some (.tuple (L.map .str)) := by
    show toP (.tup (L.map .str)) = _
    rw [toP, toPL_strs]
    rfl
  unfold fStrT
  dsimp only
  rw [e]
  dsimp only
  rw [shown_of ((sz_L b h).ok (by omega) (by omega))]
theorem bl2_toP {x y : Bool} : toPS S (.lst [.bl x, .bl y]) = some (.list [.bool x, .bool y]) := by
  show toP (.lst [.bl x, .bl y]) = _
  simp [toP, toPL]
theorem bl2 {x y : Bool} : fRepr S [.lst [.bl x, .bl y]] = some (.str (PyData.shown (.list [.bool x, .bool y]))) := by
  refine repr_of bl2_toP (Sz.ok (b := 100) (d := 60) ?_ (by omega) (by omega))
  refine (Sz.list (b := 10) (d := 1) (k := 2) (fun x hx => ?_) (by simp)).up (by omega) (by omega)
  simp only [List.mem_cons, List.not_mem_nil, or_false] at hx
  rcases hx with rfl | rfl <;> exact Sz.bool
/-! ### the comparisons of an order -/
theorem nm_better : (lookD (gsR ns L) (Str.ofString "better")).isNone = true := by kernel_rfl
end
end Mi

set_option Elab.async false
set_option linter.all false
set_option maxRecDepth 100000
set_option maxHeartbeats 1000000
namespace Mi
open PySem PySem.Spec PyProof.Rows L2 Sw
/-! ### settings of a part: pure -/
theorem str_ext {a b : Str} (h : a.cps.toList = b.cps.toList) : a = b := by
  cases a
  cases b
  congr 1
  exact Array.toList_inj.mp h
theorem app_list (a b : Str) : (a ++ b).cps.toList = a.cps.toList ++ b.cps.toList := by
  show (a.cps ++ b.cps).toList = _
  rw [Array.toList_append]
theorem app_inj {s s' c c' : Str} (hl : s.length = s'.length) (h : s ++ c = s' ++ c') : s = s' ∧ c = c' := by
  have e := congrArg (fun x : Str => x.cps.toList) h
  simp only [app_list] at e
  have l2 : s.cps.toList.length = s'.cps.toList.length := hl
  obtain ⟨h1, h2⟩ := List.append_inj e l2
  exact ⟨str_ext h1, str_ext h2⟩
theorem nd_map {s : Str} : ∀ cs : List Str, cs.Nodup → (cs.map fun c => s ++ c).Nodup
  | [], _ => List.nodup_nil
  | c :: cs, h => by
    have h1 := List.nodup_cons.mp h
    rw [List.map_cons]
    refine List.nodup_cons.mpr ⟨fun m => ?_, nd_map cs h1.2⟩
    obtain ⟨d, hd, e⟩ := List.mem_map.mp m
    exact h1.1 ((app_inj rfl e).2 ▸ hd)
theorem nd_sets1 {z : Str} {n : Nat} (hz : (chars z).Nodup) : ∀ S : List Str, S.Nodup → (∀ s ∈ S, s.length = n) → (sets1 S z).Nodup
  | [], _, _ => List.nodup_nil
  | s :: S, h, hl => by
    have h1 := List.nodup_cons.mp h
    have ih := nd_sets1 hz S h1.2 fun y m => hl y (.tail _ m)
    unfold sets1 at *
    rw [List.flatMap_cons]
    refine List.nodup_append.mpr ⟨nd_map _ hz, ih, fun a ha b hb e => ?_⟩
    subst e
    obtain ⟨c, hc, rfl⟩ := List.mem_map.mp ha
    obtain ⟨s', hs', h2⟩ := List.mem_flatMap.mp hb
    obtain ⟨c', hc', e⟩ := List.mem_map.mp h2
    have := (app_inj (by rw [hl s' (.tail _ hs'), hl s (.head _)]) e).1
    exact h1.1 (this ▸ hs')
theorem nd_fold : ∀ (zs : List Str) (S : List Str) (n : Nat), (∀ z ∈ zs, (chars z).Nodup) → S.Nodup → (∀ s ∈ S, s.length = n) → (zs.foldl sets1 S).Nodup
  | [], _, _, _, h, _ => h
  | z :: zs, S, n, hz, h, hl => nd_fold zs (sets1 S z) (n + 1) (fun y m => hz y (.tail _ m)) (nd_sets1 (hz z (.head _)) S h hl) (sets1_each hl)
theorem nd_sets {zs : List Str} (h : ∀ z ∈ zs, (chars z).Nodup) : (setsOf zs).Nodup :=
  nd_fold zs [""] 0 h (List.nodup_cons.mpr ⟨by simp, List.nodup_nil⟩) (fun s hs => by rw [List.mem_singleton.mp hs]; rfl)
theorem sub_sets : ∀ {zs ws : List Str}, All2 (fun z w => ∀ c ∈ chars z, c ∈ chars w) zs ws → ∀ (S S' : List Str), (∀ s ∈ S, s ∈ S') → ∀ s ∈ zs.foldl sets1 S, s ∈ ws.foldl sets1 S'
  | _, _, .nil, _, _, h => h
  | z :: zs, w :: ws, .cons a r, S, S', h => sub_sets r (sets1 S z) (sets1 S' w) fun s hs => by
    unfold sets1 at *
    obtain ⟨u, hu, hs⟩ := List.mem_flatMap.mp hs
    obtain ⟨c, hc, rfl⟩ := List.mem_map.mp hs
    exact List.mem_flatMap.mpr ⟨u, h u hu, List.mem_map.mpr ⟨c, a c hc, rfl⟩⟩
def menuOk (n : Int) : Bool := (menu n).all fun p => decide (chars p).Nodup && decide (1 ≤ (chars p).length) && (chars p).all fun c => (chars (cutS "012" none (some n))).any fun d => decide (d = c)
theorem menu2 : menuOk 2 = true := by decide +kernel
theorem menu3 : menuOk 3 = true := by decide +kernel
theorem menu_is {n : Int} {z : Str} (hn : n = 2 ∨ n = 3) (h : z ∈ menu n) : (chars z).Nodup ∧ 1 ≤ (chars z).length ∧ ∀ c ∈ chars z, c ∈ chars (cutS "012" none (some n)) := by
  have hm : menuOk n = true := by
    rcases hn with rfl | rfl
    · exact menu2
    · exact menu3
  have h1 := List.all_eq_true.mp hm z h
  rw [Bool.and_eq_true, Bool.and_eq_true] at h1
  refine ⟨of_decide_eq_true h1.1.1, of_decide_eq_true h1.1.2, fun c hc => ?_⟩
  obtain ⟨d, hd, e⟩ := List.any_eq_true.mp (List.all_eq_true.mp h1.2 c hc)
  rw [← of_decide_eq_true e]
  exact hd
theorem part_all2 : ∀ {ns : List Int} {zs : List Str}, (∀ n ∈ ns, n = 2 ∨ n = 3) → PartOf ns zs → All2 (fun z w => ∀ c ∈ chars z, c ∈ chars w) zs (wholeOf ns) ∧ (∀ z ∈ zs, (chars z).Nodup) ∧ ∀ z ∈ zs, 1 ≤ (chars z).length
  | _, _, _, .nil => ⟨.nil, (fun _ h => nomatch h), (fun _ h => nomatch h)⟩
  | n :: ns, z :: zs, h, .cons a r => by
    obtain ⟨i1, i2, i3⟩ := part_all2 (fun m hm => h m (.tail _ hm)) r
    obtain ⟨m1, m2, m3⟩ := menu_is (h n (.head _)) a
    refine ⟨.cons m3 i1, fun y hy => ?_, fun y hy => ?_⟩
    · rcases List.mem_cons.mp hy with q | q
      · rw [q]; exact m1
      · exact i2 y q
    · rcases List.mem_cons.mp hy with q | q
      · rw [q]; exact m2
      · exact i3 y q
/-- some settings of a board, each once -/
structure Ins (ns : List Int) (I : List Str) : Prop where
  nd : I.Nodup
  sub : ∀ s ∈ I, s ∈ St ns
  pos : 1 ≤ I.length
  few : I.length ≤ 243
theorem part_ins {ns : List Int} {zs : List Str} (b : Brd ns) (p : PartOf ns zs) : Ins ns (setsOf zs) := by
  obtain ⟨h1, h2, h3⟩ := part_all2 b.two p
  exact ⟨nd_sets h2, sub_sets h1 _ _ fun _ h => h, fold_grow zs [""] h3, setsOf_len (p.fits b)⟩
theorem whole_ins {ns : List Int} (b : Brd ns) : Ins ns (St ns) := ⟨b.nd, fun _ h => h, b.pos, setsOf_len b.fit⟩
def nbI (ns : List Int) (I : List Str) (s : Str) : List Str := (Nr ns s).filter fun t => decide (t ∈ I)
def peaksOf (ns : List Int) (L I : List Str) : List Str := I.filter fun s => (nbI ns I s).all fun t => decide (L.idxOf t < L.idxOf s)
theorem Nr_ne {ns : List Int} {s t : Str} (h : t ∈ Nr ns s) : t ≠ s := by
  intro e
  subst e
  have h2 := of_decide_eq_true (List.mem_filter.mp h).2
  have : apartOf t t ns.length = [] := by
    unfold apartOf
    simp
  rw [this] at h2
  cases h2
theorem idx_inj {L : List Str} {x y : Str} (hx : x ∈ L) (hy : y ∈ L) (h : L.idxOf x = L.idxOf y) : x = y := by
  have h1 := List.idxOf_lt_length_of_mem hx
  have h2 := List.idxOf_lt_length_of_mem hy
  have e1 := List.getElem_idxOf h1
  have e2 := List.getElem_idxOf h2
  rw [← e1, ← e2]
  congr 1
/-- the one that stands last of all is a peak -/
theorem best_peak {ns : List Int} {L I : List Str} (hL : Lin ns L) (hI : Ins ns I) {s : Str} (hs : s ∈ I) (hb : ∀ t ∈ I, L.idxOf t ≤ L.idxOf s) : s ∈ peaksOf ns L I := by
  refine List.mem_filter.mpr ⟨hs, List.all_eq_true.mpr fun t ht => decide_eq_true ?_⟩
  obtain ⟨h1, h2⟩ := List.mem_filter.mp ht
  have ti := of_decide_eq_true h2
  have h3 := hb t ti
  have h4 : L.idxOf t ≠ L.idxOf s := fun e => Nr_ne h1 (idx_inj (hL.mem.mpr (hI.sub t ti)) (hL.mem.mpr (hI.sub s hs)) e)
  omega
theorem Nr_sub' {ns : List Int} {z y : Str} (h : y ∈ Nr ns z) : y ∈ St ns := (List.mem_filter.mp h).1
theorem Nr_few {ns : List Int} {z : Str} (b : Brd ns) : (Nr ns z).length ≤ 243 := Nat.le_trans (List.length_filter_le _ _) (setsOf_len b.fit)
section
variable {S : Sto} {ev : Ev} {ns : List Int} {L I : List Str}
theorem any_eqv {x : Str} : ∀ xs : List Str, ((xs.map PyData.str).any fun z => PyData.eqv z (.str x)) = decide (x ∈ xs)
  | [] => by simp
  | y :: ys => by
    rw [List.map_cons, List.any_cons, any_eqv ys, eqv_str]
    by_cases h : y = x
    · simp [h]
    · have h2 : ¬ x = y := fun e => h e.symm
      simp [h, h2]
theorem sh_lsts {xs : List Str} (h : ∀ z ∈ xs, okT z = true) : SeqAt.shaped (.list (xs.map .str)) = true := by
  simp [SeqAt.shaped, PyData.canLay0, PyData.depth]
  exact lay_strs xs h
theorem in_lst {neg : Bool} {x : Str} {xs : List Str} (hx : okT x = true) (h : ∀ z ∈ xs, okT z = true) : fIn neg S (.str x) (.lst (xs.map .str)) = some (.bl (if neg then !decide (x ∈ xs) else decide (x ∈ xs))) := by
  have e1 : toPS S (.str x) = some (.str x) := rfl
  have e2 : toPS S (.lst (xs.map .str)) = some (.list (xs.map .str)) := by
    show toP (.lst (xs.map .str)) = _
    rw [toP, toPL_strs]
    rfl
  unfold fIn inP
  rw [e1, e2]
  dsimp only
  rw [sh_str hx, sh_lsts h, Bool.and_true, if_pos rfl, any_eqv]
theorem in_tup {neg : Bool} {x : Str} {xs : List Str} (hx : okT x = true) (h : ∀ z ∈ xs, okT z = true) : fIn neg S (.str x) (.tup (xs.map .str)) = some (.bl (if neg then !decide (x ∈ xs) else decide (x ∈ xs))) := by
  have e1 : toPS S (.str x) = some (.str x) := rfl
  have e2 : toPS S (.tup (xs.map .str)) = some (.tuple (xs.map .str)) := by
    show toP (.tup (xs.map .str)) = _
    rw [toP, toPL_strs]
    rfl
  unfold fIn inP
  rw [e1, e2]
  dsimp only
  rw [sh_str hx, sh_tups h, Bool.and_true, if_pos rfl, any_eqv]
theorem all_map {α : Type} {p : α → Bool} (xs : List α) : fAll S [.lst (xs.map fun t => .bl (p t))] = some (.bl (xs.all p)) := by
  have h : ∀ xs : List α, asBls (xs.map fun t => Dv.bl (p t)) = some (xs.map p) := fun xs => by
    induction xs with
    | nil => rfl
    | cons x xs ih => rw [List.map_cons, asBls, ih]; rfl
  have h2 : (xs.map p).all id = xs.all p := by
    induction xs with
    | nil => rfl
    | cons x xs ih => rw [List.map_cons, List.all_cons, List.all_cons, ih]; rfl
  show (match asBls (xs.map fun t => Dv.bl (p t)) with | some zs => some (Dv.bl (zs.all id)) | none => none) = _
  rw [h]
  dsimp only
  rw [h2]
theorem ap_lock {i : Nat} {m : ME} : mLock i m ev S = match ev[i]? with
  | some (some (.dic _)) => m ev S
  | _ => none := rfl
theorem ap_itK {i : Nat} : mItK i ev S = match ev[i]? with
  | some (some (.dic ds)) => some (ds.map fun kv => keyD kv.1, S)
  | _ => none := rfl
end
end Mi

set_option Elab.async false
set_option linter.all false
set_option maxRecDepth 100000
set_option maxHeartbeats 1000000
namespace Mi
open PySem PySem.Spec PyProof.Rows L2 Sw
section
variable {S : Sto} {ev : Ev} {ns : List Int} {L I : List Str}
/-- a part as it is passed, with its settings -/
def Pt (ns : List Int) (d : Dv) (I : List Str) : Prop := (d = .non ∧ I = St ns) ∨ ∃ zs, d = .tup (zs.map .str) ∧ PartOf ns zs ∧ I = setsOf zs
theorem Pt.ins {d : Dv} (b : Brd ns) (p : Pt ns d I) : Ins ns I := by
  rcases p with ⟨_, rfl⟩ | ⟨zs, _, p, rfl⟩
  · exact whole_ins b
  · exact part_ins b p
theorem nm_inside' : (lookD (fsB ns) (Str.ofString "inside")).isNone = true := by kernel_rfl
theorem nm_beside' : (lookD (fsB ns) (Str.ofString "beside")).isNone = true := by kernel_rfl
theorem r_insP {d : Dv} (o : OkS S) (b : Brd ns) (p : Pt ns d I) : F_Board_inside [boardD ns, d] S = some (.tup (I.map .str), S) := by
  rcases p with ⟨rfl, rfl⟩ | ⟨zs, rfl, p, rfl⟩
  · exact r_insN o
  · exact r_ins o b (p.fits b) p.len (p.okP b.two)
def insD (I : List Str) : List (Key × Dv) := I.map fun s => (.inr s, .bl true)
def nbD (ns : List Int) (I : List Str) : List (Key × Dv) := I.map fun s => (.inr s, .lst ((nbI ns I s).map .str))
theorem ins_has {t : Str} {e : Ev} (h4 : e[4]? = some (some (.str t))) (h2 : e[2]? = some (some (.dic (insD I)))) : mTst (mDIn false (mV 4) (mV 2)) e S = some (decide (t ∈ I), S) := by
  have hv : valD (insD I) (.inr t) = if t ∈ I then some (.bl true) else none := val_bes I (fun _ => .bl true)
  simp only [ap_2, ap_C, ap_V, ap_andT, ap_andV, ap_asg, ap_call, ap_cb, ap_cmeth, ap_cmethK, ap_cons, ap_dGet, ap_dIn, ap_dc, ap_drop, ap_enum, ap_eqRef, ap_extend, ap_fld, ap_fldM, ap_for, ap_gV, ap_if, ap_ifS, ap_isi, ap_it, ap_kget, ap_lc, ap_lc2, ap_lst, ap_lstL, ap_make, ap_makeK, ap_makeL, ap_meth, ap_methK, ap_moInt, ap_moNo, ap_next, ap_nil, ap_notT, ap_notV, ap_orT, ap_ownEq, ap_ownIn, ap_par, ap_prop, ap_put, ap_ret, ap_seq, ap_set, ap_sl, ap_strO, ap_tru, ap_tst, ap_tup, ap_tupOf, ap_yes, ap_zip, bnd_some, List.getElem?_cons_zero, List.getElem?_cons_succ, List.set_cons_zero, List.set_cons_succ, List.map_cons, List.map_nil, List.cons_append, List.nil_append, List.replicate_succ, List.replicate_zero, if_true, if_false, Bool.false_eq_true, reduceIte, List.length_cons, List.length_nil, sz_is, Nat.reduceAdd, lz0, lz1, lz2, lz3, lz4, lz5, lz6, lz7, lz8, lz9, lz10, lz11, lz12, lz13, lz14, lz15, Nat.zero_add, itemsOf, eq_self, Bool.not_true, Bool.not_false, Bool.true_and, Bool.and_true, true_and, and_true, decide_true, decide_false, wipeE, asQ, fTupOf, ap_dIn, h4, h2, d_dic, k_str, hv]
  by_cases h : t ∈ I
  · rw [if_pos h, decide_eq_true h]; rfl
  · rw [if_neg h, decide_eq_false h]; rfl
theorem cl_nb : clean (.dic (nbD ns I)) = true := by
  rw [clean]
  have h : ∀ xs : List Str, cleanK (xs.map fun s => ((.inr s, .lst ((nbI ns I s).map .str)) : Key × Dv)) = true := fun xs => by
    induction xs with
    | nil => simp [cleanK]
    | cons x xs ih => simp [cleanK, clean, cl_strs, ih]
  exact h I
theorem keys_ins : (insD I).map (fun kv => keyD kv.1) = I.map .str := by
  unfold insD
  rw [List.map_map]
  rfl
theorem keys_nb : (nbD ns I).map (fun kv => keyD kv.1) = I.map .str := by
  unfold nbD
  rw [List.map_map]
  rfl
theorem r_nbin {d : Dv} (o : OkS S) (b : Brd ns) (p : Pt ns d I) : F_neighbours_in [boardD ns, d] S = some (.dic (nbD ns I), S) := by
  have hI := p.ins b
  have few := hI.few
  unfold F_neighbours_in mDef
  simp only [ap_2, ap_C, ap_V, ap_andT, ap_andV, ap_asg, ap_call, ap_cb, ap_cmeth, ap_cmethK, ap_cons, ap_dGet, ap_dIn, ap_dc, ap_drop, ap_enum, ap_eqRef, ap_extend, ap_fld, ap_fldM, ap_for, ap_gV, ap_if, ap_ifS, ap_isi, ap_it, ap_kget, ap_lc, ap_lc2, ap_lst, ap_lstL, ap_make, ap_makeK, ap_makeL, ap_meth, ap_methK, ap_moInt, ap_moNo, ap_next, ap_nil, ap_notT, ap_notV, ap_orT, ap_ownEq, ap_ownIn, ap_par, ap_prop, ap_put, ap_ret, ap_seq, ap_set, ap_sl, ap_strO, ap_tru, ap_tst, ap_tup, ap_tupOf, ap_yes, ap_zip, bnd_some, List.getElem?_cons_zero, List.getElem?_cons_succ, List.set_cons_zero, List.set_cons_succ, List.map_cons, List.map_nil, List.cons_append, List.nil_append, List.replicate_succ, List.replicate_zero, if_true, if_false, Bool.false_eq_true, reduceIte, List.length_cons, List.length_nil, sz_is, Nat.reduceAdd, lz0, lz1, lz2, lz3, lz4, lz5, lz6, lz7, lz8, lz9, lz10, lz11, lz12, lz13, lz14, lz15, Nat.zero_add, itemsOf, eq_self, Bool.not_true, Bool.not_false, Bool.true_and, Bool.and_true, true_and, and_true, decide_true, decide_false, wipeE, asQ, fTupOf, tru_bl, t_str, t_int, t_tup, i_ss, i_ii, i_tt, len_tup, len_lst, eq_int, ne_int, eq_str, ne_str, d_dic, k_str, k_int, List.length_map, ib_b, b_asO, b_cls, b_ty, b_sizes, b_whole, b_settings, b_beside, nm_inside', r_insP (S := S) o b p, List.append_nil]
  rw [dcGo_gen (f := Dv.str) (e1 := fun s => [some (boardD ns), some d, none, some (.str s), none]) (kf := fun s => s) (h := fun _ => .bl true) I [] (by simp; omega) (by rw [List.map_id']; exact hI.nd) (fun p hp => by cases hp)]
  rotate_left
  · exact fun s _ => ⟨rfl, rfl, rfl, rfl⟩
  have eb : [] ++ I.map (fun s => ((.inr s : Key), Dv.bl true)) = insD I := rfl
  rw [eb]
  simp only [ap_2, ap_C, ap_V, ap_andT, ap_andV, ap_asg, ap_call, ap_cb, ap_cmeth, ap_cmethK, ap_cons, ap_dGet, ap_dIn, ap_dc, ap_drop, ap_enum, ap_eqRef, ap_extend, ap_fld, ap_fldM, ap_for, ap_gV, ap_if, ap_ifS, ap_isi, ap_it, ap_kget, ap_lc, ap_lc2, ap_lst, ap_lstL, ap_make, ap_makeK, ap_makeL, ap_meth, ap_methK, ap_moInt, ap_moNo, ap_next, ap_nil, ap_notT, ap_notV, ap_orT, ap_ownEq, ap_ownIn, ap_par, ap_prop, ap_put, ap_ret, ap_seq, ap_set, ap_sl, ap_strO, ap_tru, ap_tst, ap_tup, ap_tupOf, ap_yes, ap_zip, bnd_some, List.getElem?_cons_zero, List.getElem?_cons_succ, List.set_cons_zero, List.set_cons_succ, List.map_cons, List.map_nil, List.cons_append, List.nil_append, List.replicate_succ, List.replicate_zero, if_true, if_false, Bool.false_eq_true, reduceIte, List.length_cons, List.length_nil, sz_is, Nat.reduceAdd, lz0, lz1, lz2, lz3, lz4, lz5, lz6, lz7, lz8, lz9, lz10, lz11, lz12, lz13, lz14, lz15, Nat.zero_add, itemsOf, eq_self, Bool.not_true, Bool.not_false, Bool.true_and, Bool.and_true, true_and, and_true, decide_true, decide_false, wipeE, asQ, fTupOf, tru_bl, t_str, t_int, t_tup, i_ss, i_ii, i_tt, len_tup, len_lst, eq_int, ne_int, eq_str, ne_str, d_dic, k_str, k_int, List.length_map, ib_b, b_asO, b_cls, b_ty, b_sizes, b_whole, b_settings, b_beside, ap_lock, ap_itK, keys_ins]
  rw [dcGo_gen (f := Dv.str) (e1 := fun s => [some (boardD ns), some d, some (.dic (insD I)), some (.str s), none]) (kf := fun s => s) (h := fun s => .lst ((nbI ns I s).map .str)) I [] (by simp; omega) (by rw [List.map_id']; exact hI.nd) (fun p hp => by cases hp)]
  rotate_left
  · intro s hs
    refine ⟨rfl, rfl, rfl, ?_⟩
    have nf : (Nr ns s).length ≤ 243 := Nr_few b
    simp only [ap_2, ap_C, ap_V, ap_andT, ap_andV, ap_asg, ap_call, ap_cb, ap_cmeth, ap_cmethK, ap_cons, ap_dGet, ap_dIn, ap_dc, ap_drop, ap_enum, ap_eqRef, ap_extend, ap_fld, ap_fldM, ap_for, ap_gV, ap_if, ap_ifS, ap_isi, ap_it, ap_kget, ap_lc, ap_lc2, ap_lst, ap_lstL, ap_make, ap_makeK, ap_makeL, ap_meth, ap_methK, ap_moInt, ap_moNo, ap_next, ap_nil, ap_notT, ap_notV, ap_orT, ap_ownEq, ap_ownIn, ap_par, ap_prop, ap_put, ap_ret, ap_seq, ap_set, ap_sl, ap_strO, ap_tru, ap_tst, ap_tup, ap_tupOf, ap_yes, ap_zip, bnd_some, List.getElem?_cons_zero, List.getElem?_cons_succ, List.set_cons_zero, List.set_cons_succ, List.map_cons, List.map_nil, List.cons_append, List.nil_append, List.replicate_succ, List.replicate_zero, if_true, if_false, Bool.false_eq_true, reduceIte, List.length_cons, List.length_nil, sz_is, Nat.reduceAdd, lz0, lz1, lz2, lz3, lz4, lz5, lz6, lz7, lz8, lz9, lz10, lz11, lz12, lz13, lz14, lz15, Nat.zero_add, itemsOf, eq_self, Bool.not_true, Bool.not_false, Bool.true_and, Bool.and_true, true_and, and_true, decide_true, decide_false, wipeE, asQ, fTupOf, tru_bl, t_str, t_int, t_tup, i_ss, i_ii, i_tt, len_tup, len_lst, eq_int, ne_int, eq_str, ne_str, d_dic, k_str, k_int, List.length_map, ib_b, b_asO, b_cls, b_ty, b_sizes, b_whole, b_settings, b_beside, nm_beside', r_beside (S := S) o (hI.sub s hs), List.append_nil]
    rw [lcGo_map (f := Dv.str) (e1 := fun t => [some (boardD ns), some d, some (.dic (insD I)), some (.str s), some (.str t)]) (p := fun t => decide (t ∈ I)) (h := Dv.str)]
    · have l2 : (nbI ns I s).length ≤ 243 := Nat.le_trans (List.length_filter_le _ _) nf
      rw [show (Nr ns s).filter (fun t => decide (t ∈ I)) = nbI ns I s from rfl, bnd_some, if_pos (by rw [List.length_map]; omega)]
    · intro t ht
      exact ⟨rfl, ins_has rfl rfl, fun _ => rfl⟩
  have ec : [] ++ I.map (fun s => ((.inr s : Key), Dv.lst ((nbI ns I s).map .str))) = nbD ns I := rfl
  rw [ec]
  simp only [ap_2, ap_C, ap_V, ap_andT, ap_andV, ap_asg, ap_call, ap_cb, ap_cmeth, ap_cmethK, ap_cons, ap_dGet, ap_dIn, ap_dc, ap_drop, ap_enum, ap_eqRef, ap_extend, ap_fld, ap_fldM, ap_for, ap_gV, ap_if, ap_ifS, ap_isi, ap_it, ap_kget, ap_lc, ap_lc2, ap_lst, ap_lstL, ap_make, ap_makeK, ap_makeL, ap_meth, ap_methK, ap_moInt, ap_moNo, ap_next, ap_nil, ap_notT, ap_notV, ap_orT, ap_ownEq, ap_ownIn, ap_par, ap_prop, ap_put, ap_ret, ap_seq, ap_set, ap_sl, ap_strO, ap_tru, ap_tst, ap_tup, ap_tupOf, ap_yes, ap_zip, bnd_some, List.getElem?_cons_zero, List.getElem?_cons_succ, List.set_cons_zero, List.set_cons_succ, List.map_cons, List.map_nil, List.cons_append, List.nil_append, List.replicate_succ, List.replicate_zero, if_true, if_false, Bool.false_eq_true, reduceIte, List.length_cons, List.length_nil, sz_is, Nat.reduceAdd, lz0, lz1, lz2, lz3, lz4, lz5, lz6, lz7, lz8, lz9, lz10, lz11, lz12, lz13, lz14, lz15, Nat.zero_add, itemsOf, eq_self, Bool.not_true, Bool.not_false, Bool.true_and, Bool.and_true, true_and, and_true, decide_true, decide_false, wipeE, asQ, fTupOf]
  exact fin_clean o cl_nb
theorem nb_val {s : Str} (h : s ∈ I) : valD (nbD ns I) (.inr s) = some (.lst ((nbI ns I s).map .str)) := by
  have := val_bes (z := s) I (fun s => .lst ((nbI ns I s).map .str))
  rw [if_pos h] at this
  exact this
theorem nb_lt {s : Str} (b : Brd ns) (hL : Lin ns L) (hI : Ins ns I) (hs : s ∈ I) {e : Str → Ev} (h3 : ∀ t, (e t)[3]? = some (some (.dic (plD L)))) (h4 : ∀ t, (e t)[4]? = some (some (.str s))) (h5 : ∀ t, (e t)[5]? = some (some (.str t))) {t : Str} (ht : t ∈ nbI ns I s) :
    m2 fLt (mDGet (mV 3) (mV 5)) (mDGet (mV 3) (mV 4)) (e t) S = some (.bl (decide (L.idxOf t < L.idxOf s)), S) := by
  have nd := hL.nd b
  have ti : t ∈ I := of_decide_eq_true (List.mem_filter.mp ht).2
  have hv1 := pl_val (hL.mem.mpr (hI.sub t ti)) nd
  have hv2 := pl_val (hL.mem.mpr (hI.sub s hs)) nd
  simp only [ap_2, ap_C, ap_V, ap_andT, ap_andV, ap_asg, ap_call, ap_cb, ap_cmeth, ap_cmethK, ap_cons, ap_dGet, ap_dIn, ap_dc, ap_drop, ap_enum, ap_eqRef, ap_extend, ap_fld, ap_fldM, ap_for, ap_gV, ap_if, ap_ifS, ap_isi, ap_it, ap_kget, ap_lc, ap_lc2, ap_lst, ap_lstL, ap_make, ap_makeK, ap_makeL, ap_meth, ap_methK, ap_moInt, ap_moNo, ap_next, ap_nil, ap_notT, ap_notV, ap_orT, ap_ownEq, ap_ownIn, ap_par, ap_prop, ap_put, ap_ret, ap_seq, ap_set, ap_sl, ap_strO, ap_tru, ap_tst, ap_tup, ap_tupOf, ap_yes, ap_zip, bnd_some, List.getElem?_cons_zero, List.getElem?_cons_succ, List.set_cons_zero, List.set_cons_succ, List.map_cons, List.map_nil, List.cons_append, List.nil_append, List.replicate_succ, List.replicate_zero, if_true, if_false, Bool.false_eq_true, reduceIte, List.length_cons, List.length_nil, sz_is, Nat.reduceAdd, lz0, lz1, lz2, lz3, lz4, lz5, lz6, lz7, lz8, lz9, lz10, lz11, lz12, lz13, lz14, lz15, Nat.zero_add, itemsOf, eq_self, Bool.not_true, Bool.not_false, Bool.true_and, Bool.and_true, true_and, and_true, decide_true, decide_false, wipeE, asQ, fTupOf, tru_bl, t_str, t_int, t_tup, i_ss, i_ii, i_tt, len_tup, len_lst, eq_int, ne_int, eq_str, ne_str, d_dic, k_str, k_int, List.length_map, ib_b, b_asO, b_cls, b_ty, b_sizes, b_whole, b_settings, b_beside, ap_dGet, h3 t, h4 t, h5 t, hv1, hv2, lt_int]
  congr 3
  exact decide_eq_decide.mpr (by omega)
theorem r_peaks {d : Dv} (o : OkS S) (b : Brd ns) (hL : Lin ns L) (p : Pt ns d I) : F_Ranking_peaks [rankD ns L, d] S = some (.tup ((peaksOf ns L I).map .str), S) := by
  have hI := p.ins b
  have few := hI.few
  unfold F_Ranking_peaks mDef
  simp only [ap_2, ap_C, ap_V, ap_andT, ap_andV, ap_asg, ap_call, ap_cb, ap_cmeth, ap_cmethK, ap_cons, ap_dGet, ap_dIn, ap_dc, ap_drop, ap_enum, ap_eqRef, ap_extend, ap_fld, ap_fldM, ap_for, ap_gV, ap_if, ap_ifS, ap_isi, ap_it, ap_kget, ap_lc, ap_lc2, ap_lst, ap_lstL, ap_make, ap_makeK, ap_makeL, ap_meth, ap_methK, ap_moInt, ap_moNo, ap_next, ap_nil, ap_notT, ap_notV, ap_orT, ap_ownEq, ap_ownIn, ap_par, ap_prop, ap_put, ap_ret, ap_seq, ap_set, ap_sl, ap_strO, ap_tru, ap_tst, ap_tup, ap_tupOf, ap_yes, ap_zip, bnd_some, List.getElem?_cons_zero, List.getElem?_cons_succ, List.set_cons_zero, List.set_cons_succ, List.map_cons, List.map_nil, List.cons_append, List.nil_append, List.replicate_succ, List.replicate_zero, if_true, if_false, Bool.false_eq_true, reduceIte, List.length_cons, List.length_nil, sz_is, Nat.reduceAdd, lz0, lz1, lz2, lz3, lz4, lz5, lz6, lz7, lz8, lz9, lz10, lz11, lz12, lz13, lz14, lz15, Nat.zero_add, itemsOf, eq_self, Bool.not_true, Bool.not_false, Bool.true_and, Bool.and_true, true_and, and_true, decide_true, decide_false, wipeE, asQ, fTupOf, tru_bl, t_str, t_int, t_tup, i_ss, i_ii, i_tt, len_tup, len_lst, eq_int, ne_int, eq_str, ne_str, d_dic, k_str, k_int, List.length_map, ib_b, b_asO, b_cls, b_ty, b_sizes, b_whole, b_settings, b_beside, q_asO, q_cls, q_board, q_places, r_nbin (S := S) o b p, ap_lock, ap_itK, keys_nb]
  rw [lcGo_map (f := Dv.str) (e1 := fun s => [some (rankD ns L), some d, some (.dic (nbD ns I)), some (.dic (plD L)), some (.str s), none]) (p := fun s => (nbI ns I s).all fun t => decide (L.idxOf t < L.idxOf s)) (h := Dv.str)]
  · have l2 : (peaksOf ns L I).length ≤ 243 := Nat.le_trans (List.length_filter_le _ _) few
    rw [show I.filter (fun s => (nbI ns I s).all fun t => decide (L.idxOf t < L.idxOf s)) = peaksOf ns L I from rfl, bnd_some, bnd_if (by rw [List.length_map]; omega)]
    simp only [ap_2, ap_C, ap_V, ap_andT, ap_andV, ap_asg, ap_call, ap_cb, ap_cmeth, ap_cmethK, ap_cons, ap_dGet, ap_dIn, ap_dc, ap_drop, ap_enum, ap_eqRef, ap_extend, ap_fld, ap_fldM, ap_for, ap_gV, ap_if, ap_ifS, ap_isi, ap_it, ap_kget, ap_lc, ap_lc2, ap_lst, ap_lstL, ap_make, ap_makeK, ap_makeL, ap_meth, ap_methK, ap_moInt, ap_moNo, ap_next, ap_nil, ap_notT, ap_notV, ap_orT, ap_ownEq, ap_ownIn, ap_par, ap_prop, ap_put, ap_ret, ap_seq, ap_set, ap_sl, ap_strO, ap_tru, ap_tst, ap_tup, ap_tupOf, ap_yes, ap_zip, bnd_some, List.getElem?_cons_zero, List.getElem?_cons_succ, List.set_cons_zero, List.set_cons_succ, List.map_cons, List.map_nil, List.cons_append, List.nil_append, List.replicate_succ, List.replicate_zero, if_true, if_false, Bool.false_eq_true, reduceIte, List.length_cons, List.length_nil, sz_is, Nat.reduceAdd, lz0, lz1, lz2, lz3, lz4, lz5, lz6, lz7, lz8, lz9, lz10, lz11, lz12, lz13, lz14, lz15, Nat.zero_add, itemsOf, eq_self, Bool.not_true, Bool.not_false, Bool.true_and, Bool.and_true, true_and, and_true, decide_true, decide_false, wipeE, asQ, fTupOf]
    exact fin_clean o c_tups
  · intro s hs
    refine ⟨rfl, ?_, fun _ => rfl⟩
    have nf : (nbI ns I s).length ≤ 243 := Nat.le_trans (List.length_filter_le _ _) (Nr_few b)
    simp only [ap_2, ap_C, ap_V, ap_andT, ap_andV, ap_asg, ap_call, ap_cb, ap_cmeth, ap_cmethK, ap_cons, ap_dGet, ap_dIn, ap_dc, ap_drop, ap_enum, ap_eqRef, ap_extend, ap_fld, ap_fldM, ap_for, ap_gV, ap_if, ap_ifS, ap_isi, ap_it, ap_kget, ap_lc, ap_lc2, ap_lst, ap_lstL, ap_make, ap_makeK, ap_makeL, ap_meth, ap_methK, ap_moInt, ap_moNo, ap_next, ap_nil, ap_notT, ap_notV, ap_orT, ap_ownEq, ap_ownIn, ap_par, ap_prop, ap_put, ap_ret, ap_seq, ap_set, ap_sl, ap_strO, ap_tru, ap_tst, ap_tup, ap_tupOf, ap_yes, ap_zip, bnd_some, List.getElem?_cons_zero, List.getElem?_cons_succ, List.set_cons_zero, List.set_cons_succ, List.map_cons, List.map_nil, List.cons_append, List.nil_append, List.replicate_succ, List.replicate_zero, if_true, if_false, Bool.false_eq_true, reduceIte, List.length_cons, List.length_nil, sz_is, Nat.reduceAdd, lz0, lz1, lz2, lz3, lz4, lz5, lz6, lz7, lz8, lz9, lz10, lz11, lz12, lz13, lz14, lz15, Nat.zero_add, itemsOf, eq_self, Bool.not_true, Bool.not_false, Bool.true_and, Bool.and_true, true_and, and_true, decide_true, decide_false, wipeE, asQ, fTupOf, tru_bl, t_str, t_int, t_tup, i_ss, i_ii, i_tt, len_tup, len_lst, eq_int, ne_int, eq_str, ne_str, d_dic, k_str, k_int, List.length_map, ib_b, b_asO, b_cls, b_ty, b_sizes, b_whole, b_settings, b_beside, ap_dGet, nb_val hs]
    rw [lcGo_all (f := Dv.str) (e1 := fun t => [some (rankD ns L), some d, some (.dic (nbD ns I)), some (.dic (plD L)), some (.str s), some (.str t)]) (h := fun t => Dv.bl (decide (L.idxOf t < L.idxOf s)))]
    · simp only [ap_2, ap_C, ap_V, ap_andT, ap_andV, ap_asg, ap_call, ap_cb, ap_cmeth, ap_cmethK, ap_cons, ap_dGet, ap_dIn, ap_dc, ap_drop, ap_enum, ap_eqRef, ap_extend, ap_fld, ap_fldM, ap_for, ap_gV, ap_if, ap_ifS, ap_isi, ap_it, ap_kget, ap_lc, ap_lc2, ap_lst, ap_lstL, ap_make, ap_makeK, ap_makeL, ap_meth, ap_methK, ap_moInt, ap_moNo, ap_next, ap_nil, ap_notT, ap_notV, ap_orT, ap_ownEq, ap_ownIn, ap_par, ap_prop, ap_put, ap_ret, ap_seq, ap_set, ap_sl, ap_strO, ap_tru, ap_tst, ap_tup, ap_tupOf, ap_yes, ap_zip, bnd_some, List.getElem?_cons_zero, List.getElem?_cons_succ, List.set_cons_zero, List.set_cons_succ, List.map_cons, List.map_nil, List.cons_append, List.nil_append, List.replicate_succ, List.replicate_zero, if_true, if_false, Bool.false_eq_true, reduceIte, List.length_cons, List.length_nil, sz_is, Nat.reduceAdd, lz0, lz1, lz2, lz3, lz4, lz5, lz6, lz7, lz8, lz9, lz10, lz11, lz12, lz13, lz14, lz15, Nat.zero_add, itemsOf, eq_self, Bool.not_true, Bool.not_false, Bool.true_and, Bool.and_true, true_and, and_true, decide_true, decide_false, wipeE, asQ, fTupOf, tru_bl, t_str, t_int, t_tup, i_ss, i_ii, i_tt, len_tup, len_lst, eq_int, ne_int, eq_str, ne_str, d_dic, k_str, k_int, List.length_map, ib_b, b_asO, b_cls, b_ty, b_sizes, b_whole, b_settings, b_beside, all_map]
      rw [bnd_if (by omega)]
      simp only [ap_2, ap_C, ap_V, ap_andT, ap_andV, ap_asg, ap_call, ap_cb, ap_cmeth, ap_cmethK, ap_cons, ap_dGet, ap_dIn, ap_dc, ap_drop, ap_enum, ap_eqRef, ap_extend, ap_fld, ap_fldM, ap_for, ap_gV, ap_if, ap_ifS, ap_isi, ap_it, ap_kget, ap_lc, ap_lc2, ap_lst, ap_lstL, ap_make, ap_makeK, ap_makeL, ap_meth, ap_methK, ap_moInt, ap_moNo, ap_next, ap_nil, ap_notT, ap_notV, ap_orT, ap_ownEq, ap_ownIn, ap_par, ap_prop, ap_put, ap_ret, ap_seq, ap_set, ap_sl, ap_strO, ap_tru, ap_tst, ap_tup, ap_tupOf, ap_yes, ap_zip, bnd_some, List.getElem?_cons_zero, List.getElem?_cons_succ, List.set_cons_zero, List.set_cons_succ, List.map_cons, List.map_nil, List.cons_append, List.nil_append, List.replicate_succ, List.replicate_zero, if_true, if_false, Bool.false_eq_true, reduceIte, List.length_cons, List.length_nil, sz_is, Nat.reduceAdd, lz0, lz1, lz2, lz3, lz4, lz5, lz6, lz7, lz8, lz9, lz10, lz11, lz12, lz13, lz14, lz15, Nat.zero_add, itemsOf, eq_self, Bool.not_true, Bool.not_false, Bool.true_and, Bool.and_true, true_and, and_true, decide_true, decide_false, wipeE, asQ, fTupOf, tru_bl, t_str, t_int, t_tup, i_ss, i_ii, i_tt, len_tup, len_lst, eq_int, ne_int, eq_str, ne_str, d_dic, k_str, k_int, List.length_map, ib_b, b_asO, b_cls, b_ty, b_sizes, b_whole, b_settings, b_beside, all_map]
    · intro t ht
      exact ⟨rfl, rfl, nb_lt b hL hI hs (e := fun t => [some (rankD ns L), some d, some (.dic (nbD ns I)), some (.dic (plD L)), some (.str s), some (.str t)]) (fun _ => rfl) (fun _ => rfl) (fun _ => rfl) ht⟩
/-! ### the law's own look -/
def tpB : MS := (sIf (mTru (mCB fAll (maCons (mLc [6] (mIt (mCall F__law_near (maCons (mV 0) (maCons (mV 5) maNil)))) (gV 6) (mTst (m2 (fIn false) (mV 6) (mV 3))) (m2 fLt (mTIx (mV 1) (maCons (mV 6) maNil)) (mTIx (mV 1) (maCons (mV 5) maNil)))) maNil))) (sDrop (mAppend (mV 4) (maCons (mV 5) maNil))) sNext)
theorem r_tops {zs : List Str} (o : OkS S) (b : Brd ns) (hL : Lin ns L) (p : PartOf ns zs) : F__law_tops [.tup (ns.map .int), .tupN (L.map .str), .tup (zs.map .str)] S = some (.tup ((peaksOf ns L (setsOf zs)).map .str), S) := by
  have hI := part_ins b p
  have few := hI.few
  have okI : ∀ z ∈ setsOf zs, okT z = true := fun z hz => b.okT (hI.sub z hz)
  let P : Str → Bool := fun s => (nbI ns (setsOf zs) s).all fun t => decide (L.idxOf t < L.idxOf s)
  have h := forGo_ind (g := gV 5) (b := tpB) Dv.str (fun pre ev1 S1 => ∃ x y, ev1 = [some (.tup (ns.map .int)), some (.tupN (L.map .str)), some (.tup (zs.map .str)), some (.lst ((setsOf zs).map .str)), some (.mut S.length), x, y] ∧ S1 = S ++ [.lst ((pre.filter P).map .str)]) (setsOf zs) ?_ (setsOf zs) []
    [some (.tup (ns.map .int)), some (.tupN (L.map .str)), some (.tup (zs.map .str)), some (.lst ((setsOf zs).map .str)), some (.mut S.length), none, none] (S ++ [.lst []]) rfl ⟨_, _, rfl, rfl⟩
  · obtain ⟨ev', S', e, x, y, rfl, rfl⟩ := h
    unfold tpB at e
    unfold F__law_tops mDef
    simp only [ap_2, ap_C, ap_V, ap_andT, ap_andV, ap_asg, ap_call, ap_cb, ap_cmeth, ap_cmethK, ap_cons, ap_dGet, ap_dIn, ap_dc, ap_drop, ap_enum, ap_eqRef, ap_extend, ap_fld, ap_fldM, ap_for, ap_gV, ap_if, ap_ifS, ap_isi, ap_it, ap_kget, ap_lc, ap_lc2, ap_lst, ap_lstL, ap_make, ap_makeK, ap_makeL, ap_meth, ap_methK, ap_moInt, ap_moNo, ap_next, ap_nil, ap_notT, ap_notV, ap_orT, ap_ownEq, ap_ownIn, ap_par, ap_prop, ap_put, ap_ret, ap_seq, ap_set, ap_sl, ap_strO, ap_tru, ap_tst, ap_tup, ap_tupOf, ap_yes, ap_zip, bnd_some, List.getElem?_cons_zero, List.getElem?_cons_succ, List.set_cons_zero, List.set_cons_succ, List.map_cons, List.map_nil, List.cons_append, List.nil_append, List.replicate_succ, List.replicate_zero, if_true, if_false, Bool.false_eq_true, reduceIte, List.length_cons, List.length_nil, sz_is, Nat.reduceAdd, lz0, lz1, lz2, lz3, lz4, lz5, lz6, lz7, lz8, lz9, lz10, lz11, lz12, lz13, lz14, lz15, Nat.zero_add, itemsOf, eq_self, Bool.not_true, Bool.not_false, Bool.true_and, Bool.and_true, true_and, and_true, decide_true, decide_false, wipeE, asQ, fTupOf, tru_bl, t_str, t_int, t_tup, i_ss, i_ii, i_tt, len_tup, len_lst, eq_int, ne_int, eq_str, ne_str, d_dic, k_str, k_int, List.length_map, ib_b, b_asO, b_cls, b_ty, b_sizes, b_whole, b_settings, b_beside, r_inside (S := S) o (p.fits b), gT, gsCons, gsNil, e, new_at]
    exact fin_app o c_tups
  · rintro pre s post ev1 S1 e ⟨x, y, rfl, rfl⟩
    have hs : s ∈ setsOf zs := by rw [e]; exact List.mem_append_right _ (.head _)
    have hsL := hL.mem.mpr (hI.sub s hs)
    have o1 : OkS (S ++ [Mo.lst ((pre.filter P).map .str)]) := ok_app o (by simp [okMo, cl_strs])
    have lp : pre.length ≤ 243 := by
      have := congrArg List.length e
      rw [List.length_append] at this
      omega
    have lf : (pre.filter P).length ≤ 243 := Nat.le_trans (List.length_filter_le _ _) lp
    refine ⟨_, [some (.tup (ns.map .int)), some (.tupN (L.map .str)), some (.tup (zs.map .str)), some (.lst ((setsOf zs).map .str)), some (.mut S.length), some (.str s), y], S ++ [.lst (((pre ++ [s]).filter P).map .str)], rfl, ?_, ⟨_, _, rfl, rfl⟩⟩
    have hn := r_near (S := S ++ [Mo.lst ((pre.filter P).map .str)]) o1 b (z := s) (hI.sub s hs)
    have nf : (nbI ns (setsOf zs) s).length ≤ 243 := Nat.le_trans (List.length_filter_le _ _) (Nr_few b)
    have hl : lcGo (gV 6) (mTst (m2 (fIn false) (mV 6) (mV 3))) (m2 fLt (mTIx (mV 1) (maCons (mV 6) maNil)) (mTIx (mV 1) (maCons (mV 5) maNil))) [some (.tup (ns.map .int)), some (.tupN (L.map .str)), some (.tup (zs.map .str)), some (.lst ((setsOf zs).map .str)), some (.mut S.length), some (.str s), none] ((nearOf (setsOf (wholeOf ns)) s ns.length).map .str) (S ++ [.lst ((pre.filter P).map .str)]) = some ((nbI ns (setsOf zs) s).map (fun t => Dv.bl (decide (L.idxOf t < L.idxOf s))), S ++ [.lst ((pre.filter P).map .str)]) := by
      rw [lcGo_map (f := Dv.str) (e1 := fun t => [some (.tup (ns.map .int)), some (.tupN (L.map .str)), some (.tup (zs.map .str)), some (.lst ((setsOf zs).map .str)), some (.mut S.length), some (.str s), some (.str t)]) (p := fun t => decide (t ∈ setsOf zs)) (h := fun t => Dv.bl (decide (L.idxOf t < L.idxOf s)))]
      · rfl
      · intro t ht
        have ts : t ∈ St ns := Nr_sub' ht
        have tL := hL.mem.mpr ts
        refine ⟨rfl, ?_, fun _ => ?_⟩
        · simp only [ap_2, ap_C, ap_V, ap_andT, ap_andV, ap_asg, ap_call, ap_cb, ap_cmeth, ap_cmethK, ap_cons, ap_dGet, ap_dIn, ap_dc, ap_drop, ap_enum, ap_eqRef, ap_extend, ap_fld, ap_fldM, ap_for, ap_gV, ap_if, ap_ifS, ap_isi, ap_it, ap_kget, ap_lc, ap_lc2, ap_lst, ap_lstL, ap_make, ap_makeK, ap_makeL, ap_meth, ap_methK, ap_moInt, ap_moNo, ap_next, ap_nil, ap_notT, ap_notV, ap_orT, ap_ownEq, ap_ownIn, ap_par, ap_prop, ap_put, ap_ret, ap_seq, ap_set, ap_sl, ap_strO, ap_tru, ap_tst, ap_tup, ap_tupOf, ap_yes, ap_zip, bnd_some, List.getElem?_cons_zero, List.getElem?_cons_succ, List.set_cons_zero, List.set_cons_succ, List.map_cons, List.map_nil, List.cons_append, List.nil_append, List.replicate_succ, List.replicate_zero, if_true, if_false, Bool.false_eq_true, reduceIte, List.length_cons, List.length_nil, sz_is, Nat.reduceAdd, lz0, lz1, lz2, lz3, lz4, lz5, lz6, lz7, lz8, lz9, lz10, lz11, lz12, lz13, lz14, lz15, Nat.zero_add, itemsOf, eq_self, Bool.not_true, Bool.not_false, Bool.true_and, Bool.and_true, true_and, and_true, decide_true, decide_false, wipeE, asQ, fTupOf, tru_bl, t_str, t_int, t_tup, i_ss, i_ii, i_tt, len_tup, len_lst, eq_int, ne_int, eq_str, ne_str, d_dic, k_str, k_int, List.length_map, ib_b, b_asO, b_cls, b_ty, b_sizes, b_whole, b_settings, b_beside, in_lst (S := S ++ [Mo.lst ((pre.filter P).map .str)]) (neg := false) (b.okT ts) okI]
        · simp only [ap_2, ap_C, ap_V, ap_andT, ap_andV, ap_asg, ap_call, ap_cb, ap_cmeth, ap_cmethK, ap_cons, ap_dGet, ap_dIn, ap_dc, ap_drop, ap_enum, ap_eqRef, ap_extend, ap_fld, ap_fldM, ap_for, ap_gV, ap_if, ap_ifS, ap_isi, ap_it, ap_kget, ap_lc, ap_lc2, ap_lst, ap_lstL, ap_make, ap_makeK, ap_makeL, ap_meth, ap_methK, ap_moInt, ap_moNo, ap_next, ap_nil, ap_notT, ap_notV, ap_orT, ap_ownEq, ap_ownIn, ap_par, ap_prop, ap_put, ap_ret, ap_seq, ap_set, ap_sl, ap_strO, ap_tru, ap_tst, ap_tup, ap_tupOf, ap_yes, ap_zip, bnd_some, List.getElem?_cons_zero, List.getElem?_cons_succ, List.set_cons_zero, List.set_cons_succ, List.map_cons, List.map_nil, List.cons_append, List.nil_append, List.replicate_succ, List.replicate_zero, if_true, if_false, Bool.false_eq_true, reduceIte, List.length_cons, List.length_nil, sz_is, Nat.reduceAdd, lz0, lz1, lz2, lz3, lz4, lz5, lz6, lz7, lz8, lz9, lz10, lz11, lz12, lz13, lz14, lz15, Nat.zero_add, itemsOf, eq_self, Bool.not_true, Bool.not_false, Bool.true_and, Bool.and_true, true_and, and_true, decide_true, decide_false, wipeE, asQ, fTupOf, tru_bl, t_str, t_int, t_tup, i_ss, i_ii, i_tt, len_tup, len_lst, eq_int, ne_int, eq_str, ne_str, d_dic, k_str, k_int, List.length_map, ib_b, b_asO, b_cls, b_ty, b_sizes, b_whole, b_settings, b_beside, ap_tix, asStrs_map, tL, hsL, lt_int]
          congr 3
          exact decide_eq_decide.mpr (by omega)
    unfold tpB
    simp only [ap_2, ap_C, ap_V, ap_andT, ap_andV, ap_asg, ap_call, ap_cb, ap_cmeth, ap_cmethK, ap_cons, ap_dGet, ap_dIn, ap_dc, ap_drop, ap_enum, ap_eqRef, ap_extend, ap_fld, ap_fldM, ap_for, ap_gV, ap_if, ap_ifS, ap_isi, ap_it, ap_kget, ap_lc, ap_lc2, ap_lst, ap_lstL, ap_make, ap_makeK, ap_makeL, ap_meth, ap_methK, ap_moInt, ap_moNo, ap_next, ap_nil, ap_notT, ap_notV, ap_orT, ap_ownEq, ap_ownIn, ap_par, ap_prop, ap_put, ap_ret, ap_seq, ap_set, ap_sl, ap_strO, ap_tru, ap_tst, ap_tup, ap_tupOf, ap_yes, ap_zip, bnd_some, List.getElem?_cons_zero, List.getElem?_cons_succ, List.set_cons_zero, List.set_cons_succ, List.map_cons, List.map_nil, List.cons_append, List.nil_append, List.replicate_succ, List.replicate_zero, if_true, if_false, Bool.false_eq_true, reduceIte, List.length_cons, List.length_nil, sz_is, Nat.reduceAdd, lz0, lz1, lz2, lz3, lz4, lz5, lz6, lz7, lz8, lz9, lz10, lz11, lz12, lz13, lz14, lz15, Nat.zero_add, itemsOf, eq_self, Bool.not_true, Bool.not_false, Bool.true_and, Bool.and_true, true_and, and_true, decide_true, decide_false, wipeE, asQ, fTupOf, tru_bl, t_str, t_int, t_tup, i_ss, i_ii, i_tt, len_tup, len_lst, eq_int, ne_int, eq_str, ne_str, d_dic, k_str, k_int, List.length_map, ib_b, b_asO, b_cls, b_ty, b_sizes, b_whole, b_settings, b_beside, hn, hl]
    rw [bnd_if (by omega)]
    rw [List.filter_append, List.filter_cons]
    cases hp : P s with
    | true =>
      have hp2 : ((nbI ns (setsOf zs) s).all fun t => decide (L.idxOf t < L.idxOf s)) = true := hp
      have l3 : ((pre.filter P).length < 16777216) = True := eq_true (by omega)
      simp only [ap_2, ap_C, ap_V, ap_andT, ap_andV, ap_asg, ap_call, ap_cb, ap_cmeth, ap_cmethK, ap_cons, ap_dGet, ap_dIn, ap_dc, ap_drop, ap_enum, ap_eqRef, ap_extend, ap_fld, ap_fldM, ap_for, ap_gV, ap_if, ap_ifS, ap_isi, ap_it, ap_kget, ap_lc, ap_lc2, ap_lst, ap_lstL, ap_make, ap_makeK, ap_makeL, ap_meth, ap_methK, ap_moInt, ap_moNo, ap_next, ap_nil, ap_notT, ap_notV, ap_orT, ap_ownEq, ap_ownIn, ap_par, ap_prop, ap_put, ap_ret, ap_seq, ap_set, ap_sl, ap_strO, ap_tru, ap_tst, ap_tup, ap_tupOf, ap_yes, ap_zip, bnd_some, List.getElem?_cons_zero, List.getElem?_cons_succ, List.set_cons_zero, List.set_cons_succ, List.map_cons, List.map_nil, List.cons_append, List.nil_append, List.replicate_succ, List.replicate_zero, if_true, if_false, Bool.false_eq_true, reduceIte, List.length_cons, List.length_nil, sz_is, Nat.reduceAdd, lz0, lz1, lz2, lz3, lz4, lz5, lz6, lz7, lz8, lz9, lz10, lz11, lz12, lz13, lz14, lz15, Nat.zero_add, itemsOf, eq_self, Bool.not_true, Bool.not_false, Bool.true_and, Bool.and_true, true_and, and_true, decide_true, decide_false, wipeE, asQ, fTupOf, tru_bl, t_str, t_int, t_tup, i_ss, i_ii, i_tt, len_tup, len_lst, eq_int, ne_int, eq_str, ne_str, d_dic, k_str, k_int, List.length_map, ib_b, b_asO, b_cls, b_ty, b_sizes, b_whole, b_settings, b_beside, all_map, hp2, ap_append, new_isL, new_at, new_set, l3, List.map_append, List.filter_nil]
    | false =>
      have hp2 : ((nbI ns (setsOf zs) s).all fun t => decide (L.idxOf t < L.idxOf s)) = false := hp
      simp only [ap_2, ap_C, ap_V, ap_andT, ap_andV, ap_asg, ap_call, ap_cb, ap_cmeth, ap_cmethK, ap_cons, ap_dGet, ap_dIn, ap_dc, ap_drop, ap_enum, ap_eqRef, ap_extend, ap_fld, ap_fldM, ap_for, ap_gV, ap_if, ap_ifS, ap_isi, ap_it, ap_kget, ap_lc, ap_lc2, ap_lst, ap_lstL, ap_make, ap_makeK, ap_makeL, ap_meth, ap_methK, ap_moInt, ap_moNo, ap_next, ap_nil, ap_notT, ap_notV, ap_orT, ap_ownEq, ap_ownIn, ap_par, ap_prop, ap_put, ap_ret, ap_seq, ap_set, ap_sl, ap_strO, ap_tru, ap_tst, ap_tup, ap_tupOf, ap_yes, ap_zip, bnd_some, List.getElem?_cons_zero, List.getElem?_cons_succ, List.set_cons_zero, List.set_cons_succ, List.map_cons, List.map_nil, List.cons_append, List.nil_append, List.replicate_succ, List.replicate_zero, if_true, if_false, Bool.false_eq_true, reduceIte, List.length_cons, List.length_nil, sz_is, Nat.reduceAdd, lz0, lz1, lz2, lz3, lz4, lz5, lz6, lz7, lz8, lz9, lz10, lz11, lz12, lz13, lz14, lz15, Nat.zero_add, itemsOf, eq_self, Bool.not_true, Bool.not_false, Bool.true_and, Bool.and_true, true_and, and_true, decide_true, decide_false, wipeE, asQ, fTupOf, tru_bl, t_str, t_int, t_tup, i_ss, i_ii, i_tt, len_tup, len_lst, eq_int, ne_int, eq_str, ne_str, d_dic, k_str, k_int, List.length_map, ib_b, b_asO, b_cls, b_ty, b_sizes, b_whole, b_settings, b_beside, all_map, hp2, List.filter_nil, List.append_nil]
end
end Mi

set_option Elab.async false
set_option linter.all false
set_option maxRecDepth 100000
set_option maxHeartbeats 1000000
namespace Mi
open PySem PySem.Spec PyProof.Rows L2 Sw
section
variable {A S : Sto} {ev : Ev} {ns : List Int} {L I : List Str} {d s c : Int}
theorem nm_peaks : (lookD (gsR ns L) (Str.ofString "peaks")).isNone = true := by kernel_rfl
theorem pk_few (hI : Ins ns I) : (peaksOf ns L I).length ≤ 243 := Nat.le_trans (List.length_filter_le _ _) hI.few
theorem pk_ok (b : Brd ns) (hI : Ins ns I) : ∀ z ∈ peaksOf ns L I, okT z = true := fun z hz => b.okT (hI.sub z (List.mem_filter.mp hz).1)
theorem sz_pk (b : Brd ns) (hI : Ins ns I) : Sz 1458 1 (.tuple ((peaksOf ns L I).map .str)) :=
  sz_strs (k := 243) (m := 5) (fun z hz => ⟨pk_ok b hI z hz, by have := b.len (hI.sub z (List.mem_filter.mp hz).1); have := b.few; omega⟩) (pk_few hI)
theorem rep2 (b : Brd ns) (hI : Ins ns I) : fRepr S [.lst [.tup ((peaksOf ns L I).map .str), .tup ((peaksOf ns L I).map .str)]] = some (.str (PyData.shown (.list [.tuple ((peaksOf ns L I).map .str), .tuple ((peaksOf ns L I).map .str)]))) :=
  repr_of two_toP ((sz_two (sz_pk b hI) (by omega)).ok (by omega) (by omega))
theorem three_toP {xs : List Str} : toPS S (.lst [.tup (xs.map .str), .tup (xs.map .str), .tup (xs.map .str)]) = some (.list [.tuple (xs.map .str), .tuple (xs.map .str), .tuple (xs.map .str)]) := by
  show toP (.lst [.tup (xs.map .str), .tup (xs.map .str), .tup (xs.map .str)]) = _
  simp [toP, toPL, toPL_strs]
theorem rep3 (b : Brd ns) (hI : Ins ns I) : fRepr S [.lst [.tup ((peaksOf ns L I).map .str), .tup ((peaksOf ns L I).map .str), .tup ((peaksOf ns L I).map .str)]] = some (.str (PyData.shown (.list [.tuple ((peaksOf ns L I).map .str), .tuple ((peaksOf ns L I).map .str), .tuple ((peaksOf ns L I).map .str)]))) := by
  refine repr_of three_toP (Sz.ok (b := 100000) (d := 60) ?_ (by omega) (by omega))
  refine (Sz.list (b := 1458) (d := 1) (k := 3) (fun x hx => ?_) (by simp)).up (by omega) (by omega)
  simp only [List.mem_cons, List.not_mem_nil, or_false, or_self] at hx
  rw [hx]
  exact sz_pk b hI
theorem mul3 {t : Dv} : fMul S (.lst [t]) (.int 3) = some (.lst [t, t, t]) := by
  refine fMul_lst ?_
  rw [fMulL_at (by decide) (by rw [sz_is]; show 1 * 3 ≤ 16777216; omega)]
  rfl
theorem ix_nat {k : Nat} {x : Str} (h : L[k]? = some x) : fIx S (.tup (L.map .str)) (.int (k : Nat)) = some (.str x) := by
  show (match asQ S (.tup (L.map .str)) with | some ds => atI ds (k : Int) | none => none) = _
  show atI (L.map Dv.str) (k : Int) = _
  refine at_nat ?_
  rw [List.getElem?_map, h]
  rfl
theorem ix_last {x : Str} (h : L[L.length - 1]? = some x) : fIx S (.tup (L.map .str)) (.int (-1)) = some (.str x) := by
  have hl : L.length - 1 < L.length := (List.getElem?_eq_some_iff.mp h).1
  show atI (L.map Dv.str) (-1) = _
  unfold atI ixN
  rw [List.length_map, if_neg (by omega), if_pos (by omega)]
  show (L.map Dv.str)[((L.length : Int) + -1).toNat]? = _
  have : ((L.length : Int) + -1).toNat = L.length - 1 := by omega
  rw [this, List.getElem?_map, h]
  rfl
/-- the greatest place of some settings -/
theorem max_at (hI : Ins ns I) : ∃ s ∈ I, fMaxL S [.lst (I.map fun s => .int (L.idxOf s : Nat))] = some (.int (L.idxOf s : Nat)) ∧ ∀ t ∈ I, L.idxOf t ≤ L.idxOf s := by
  have hp := hI.pos
  match I, hp with
  | x :: xs, _ =>
    have e : ((x :: xs).map fun s => Dv.int (L.idxOf s : Nat)) = (((L.idxOf x : Nat) : Int) :: xs.map fun s => ((L.idxOf s : Nat) : Int)).map .int := by
      rw [List.map_cons, List.map_cons, List.map_map]
      rfl
    obtain ⟨h1, h2⟩ := max_is (xs.map fun s => ((L.idxOf s : Nat) : Int)) ((L.idxOf x : Nat) : Int)
    have hm : (xs.map fun s => ((L.idxOf s : Nat) : Int)).foldl max ((L.idxOf x : Nat) : Int) ∈ (x :: xs).map fun s => ((L.idxOf s : Nat) : Int) := h1
    obtain ⟨s, hs, es⟩ := List.mem_map.mp hm
    refine ⟨s, hs, ?_, fun t ht => ?_⟩
    · unfold fMaxL
      dsimp only
      rw [e, asInts_map]
      dsimp only
      rw [← es]
    · have := h2 ((L.idxOf t : Nat) : Int) (List.mem_map_of_mem (f := fun s => ((L.idxOf s : Nat) : Int)) ht)
      rw [← es] at this
      omega
def in8B : MS := (sSeq (sSet 8 (mCall F__law_room (maCons (mV 0) (maCons (mV 2) maNil))))
      (sSeq (sSet 5 (mCall F__law_tops (maCons (mV 2) (maCons (mV 3) (maCons (mV 8) maNil)))))
      (sSeq (sSet 9 (mCB fMaxL (maCons (mLc [10] (mIt (mCall F__law_inside (maCons (mV 8) maNil))) (gV 10) mYes (mTIx (mV 3) (maCons (mV 10) maNil))) maNil)))
      (sSeq (sSet 6 (mLst (maCons (mMeth "Ranking" "peaks" F_Ranking_peaks [] (mV 4) (maCons (mV 8) maNil)) (maCons (mMethK "Ranking" "peaks" F_Ranking_peaks (permA [0, 1]) (mV 4) (maCons (mV 8) maNil)) maNil))))
      (sIf (mOrT (mTst (m2 fNe (mCB fRepr (maCons (mV 6) maNil)) (mCB fRepr (maCons (mLst (maCons (mV 5) (maCons (mV 5) maNil))) maNil)))) (mTst (m2 (fIn true) (m2 fIx (mWeak (mV 3)) (mV 9)) (mV 5)))) (sRet (mC (.bl false))) sNext)))))
theorem in8_step (oA : OkS A) (b : Brd ns) (hL : Lin ns L) {x1 x5 x6 x7 x8 x9 x10 : Option Dv} :
    ∃ y5 y6 y8 y9 d' s' c', in8B [some (.mut A.length), x1, some (.tup (ns.map .int)), some (.tupN (L.map .str)), some (rankD ns L), x5, x6, x7, x8, x9, x10] (A ++ [jarM d s c]) = some (.nx [some (.mut A.length), x1, some (.tup (ns.map .int)), some (.tupN (L.map .str)), some (rankD ns L), y5, y6, x7, y8, y9, x10], A ++ [jarM d' s' c']) := by
  obtain ⟨zs, d1, s1, c1, e1, p⟩ := r_room oA (d := d) (s := s) (c := c) b
  have hI := part_ins b p
  have few := hI.few
  have o : OkS (A ++ [jarM d1 s1 c1]) := j_ok oA
  have e2 := r_tops (S := A ++ [jarM d1 s1 c1]) o b hL p
  have e3 := r_peaks (S := A ++ [jarM d1 s1 c1]) (L := L) o b hL (d := .tup (zs.map .str)) (I := setsOf zs) (.inr ⟨zs, rfl, p, rfl⟩)
  obtain ⟨m, hm, em, hb⟩ := max_at (S := A ++ [jarM d1 s1 c1]) (L := L) hI
  have mL := hL.mem.mpr (hI.sub m hm)
  have hk : L[L.idxOf m]? = some m := by
    have h1 := List.idxOf_lt_length_of_mem mL
    rw [List.getElem?_eq_getElem h1, List.getElem_idxOf h1]
  have hp := best_peak hL hI hm hb
  have hl : ∀ v5 v6 v9 : Option Dv, lcGo (gV 10) mYes (mTIx (mV 3) (maCons (mV 10) maNil)) [some (.mut A.length), x1, some (.tup (ns.map .int)), some (.tupN (L.map .str)), some (rankD ns L), v5, v6, x7, some (.tup (zs.map .str)), v9, none] ((setsOf zs).map .str) (A ++ [jarM d1 s1 c1]) = some ((setsOf zs).map (fun s => Dv.int (L.idxOf s : Nat)), A ++ [jarM d1 s1 c1]) := fun v5 v6 v9 => by
    rw [lcGo_all (f := Dv.str) (e1 := fun t => [some (.mut A.length), x1, some (.tup (ns.map .int)), some (.tupN (L.map .str)), some (rankD ns L), v5, v6, x7, some (.tup (zs.map .str)), v9, some (.str t)]) (h := fun s => Dv.int (L.idxOf s : Nat))]
    intro t ht
    refine ⟨rfl, rfl, ?_⟩
    simp only [ap_2, ap_C, ap_V, ap_andT, ap_andV, ap_asg, ap_call, ap_cb, ap_cmeth, ap_cmethK, ap_cons, ap_dGet, ap_dIn, ap_dc, ap_drop, ap_enum, ap_eqRef, ap_extend, ap_fld, ap_fldM, ap_for, ap_gV, ap_if, ap_ifS, ap_isi, ap_it, ap_kget, ap_lc, ap_lc2, ap_lst, ap_lstL, ap_make, ap_makeK, ap_makeL, ap_meth, ap_methK, ap_moInt, ap_moNo, ap_next, ap_nil, ap_notT, ap_notV, ap_orT, ap_ownEq, ap_ownIn, ap_par, ap_prop, ap_put, ap_ret, ap_seq, ap_set, ap_sl, ap_strO, ap_tru, ap_tst, ap_tup, ap_tupOf, ap_yes, ap_zip, bnd_some, List.getElem?_cons_zero, List.getElem?_cons_succ, List.set_cons_zero, List.set_cons_succ, List.map_cons, List.map_nil, List.cons_append, List.nil_append, List.replicate_succ, List.replicate_zero, if_true, if_false, Bool.false_eq_true, reduceIte, List.length_cons, List.length_nil, sz_is, Nat.reduceAdd, lz0, lz1, lz2, lz3, lz4, lz5, lz6, lz7, lz8, lz9, lz10, lz11, lz12, lz13, lz14, lz15, Nat.zero_add, itemsOf, eq_self, Bool.not_true, Bool.not_false, Bool.true_and, Bool.and_true, true_and, and_true, decide_true, decide_false, wipeE, asQ, fTupOf, tru_bl, t_str, t_int, t_tup, i_ss, i_ii, i_tt, len_tup, len_lst, eq_int, ne_int, eq_str, ne_str, d_dic, k_str, k_int, List.length_map, ib_b, b_asO, b_cls, b_ty, b_sizes, b_whole, b_settings, b_beside, ap_tix, asStrs_map, hL.mem.mpr (hI.sub t ht)]
  have l5 : ((setsOf zs).length ≤ 16777216) = True := eq_true (by omega)
  have dp : decide (m ∈ peaksOf ns L (setsOf zs)) = true := decide_eq_true hp
  refine ⟨some (.tup ((peaksOf ns L (setsOf zs)).map .str)), some (.lst [.tup ((peaksOf ns L (setsOf zs)).map .str), .tup ((peaksOf ns L (setsOf zs)).map .str)]), some (.tup (zs.map .str)), some (.int (L.idxOf m : Nat)), d1, s1, c1, ?_⟩
  unfold in8B
  simp only [ap_2, ap_C, ap_V, ap_andT, ap_andV, ap_asg, ap_call, ap_cb, ap_cmeth, ap_cmethK, ap_cons, ap_dGet, ap_dIn, ap_dc, ap_drop, ap_enum, ap_eqRef, ap_extend, ap_fld, ap_fldM, ap_for, ap_gV, ap_if, ap_ifS, ap_isi, ap_it, ap_kget, ap_lc, ap_lc2, ap_lst, ap_lstL, ap_make, ap_makeK, ap_makeL, ap_meth, ap_methK, ap_moInt, ap_moNo, ap_next, ap_nil, ap_notT, ap_notV, ap_orT, ap_ownEq, ap_ownIn, ap_par, ap_prop, ap_put, ap_ret, ap_seq, ap_set, ap_sl, ap_strO, ap_tru, ap_tst, ap_tup, ap_tupOf, ap_yes, ap_zip, bnd_some, List.getElem?_cons_zero, List.getElem?_cons_succ, List.set_cons_zero, List.set_cons_succ, List.map_cons, List.map_nil, List.cons_append, List.nil_append, List.replicate_succ, List.replicate_zero, if_true, if_false, Bool.false_eq_true, reduceIte, List.length_cons, List.length_nil, sz_is, Nat.reduceAdd, lz0, lz1, lz2, lz3, lz4, lz5, lz6, lz7, lz8, lz9, lz10, lz11, lz12, lz13, lz14, lz15, Nat.zero_add, itemsOf, eq_self, Bool.not_true, Bool.not_false, Bool.true_and, Bool.and_true, true_and, and_true, decide_true, decide_false, wipeE, asQ, fTupOf, tru_bl, t_str, t_int, t_tup, i_ss, i_ii, i_tt, len_tup, len_lst, eq_int, ne_int, eq_str, ne_str, d_dic, k_str, k_int, List.length_map, ib_b, b_asO, b_cls, b_ty, b_sizes, b_whole, b_settings, b_beside, e1, e2, r_inside (S := A ++ [jarM d1 s1 c1]) o (p.fits b), hl, l5, em, q_asO, nm_peaks, List.append_nil, pk01, e3, rep2 (S := A ++ [jarM d1 s1 c1]) b hI, ap_weak, wk_N, ix_nat (S := A ++ [jarM d1 s1 c1]) hk, in_tup (S := A ++ [jarM d1 s1 c1]) (neg := true) (b.okT (hI.sub m hm)) (pk_ok (L := L) b hI), dp]
theorem in8_loop (oA : OkS A) (b : Brd ns) (hL : Lin ns L) {x1 x5 x6 x7 x8 x9 x10 : Option Dv} :
    ∃ y5 y6 y7 y8 y9 d' s' c', forGo (gV 7) in8B ((List.range 4).map fun (k : Nat) => Dv.int (k : Nat)) [some (.mut A.length), x1, some (.tup (ns.map .int)), some (.tupN (L.map .str)), some (rankD ns L), x5, x6, x7, x8, x9, x10] (A ++ [jarM d s c]) = some (.nx [some (.mut A.length), x1, some (.tup (ns.map .int)), some (.tupN (L.map .str)), some (rankD ns L), y5, y6, y7, y8, y9, x10], A ++ [jarM d' s' c']) := by
  obtain ⟨ev', S', e, y5, y6, y7, y8, y9, d', s', c', rfl, rfl⟩ := forGo_keep (g := gV 7) (b := in8B) (fun (k : Nat) => Dv.int (k : Nat)) (fun ev S => ∃ y5 y6 y7 y8 y9 d' s' c', ev = [some (.mut A.length), x1, some (.tup (ns.map .int)), some (.tupN (L.map .str)), some (rankD ns L), y5, y6, y7, y8, y9, x10] ∧ S = A ++ [jarM d' s' c']) (List.range 4) _ (A ++ [jarM d s c]) ⟨x5, x6, x7, x8, x9, d, s, c, rfl, rfl⟩ (by
    rintro k hk ev S ⟨y5, y6, y7, y8, y9, d, s, c, rfl, rfl⟩
    obtain ⟨w5, w6, w8, w9, d', s', c', e⟩ := in8_step (d := d) (s := s) (c := c) oA b hL (x1 := x1) (x5 := y5) (x6 := y6) (x7 := some (.int (k : Nat))) (x8 := y8) (x9 := y9) (x10 := x10)
    exact ⟨_, _, _, rfl, e, _, _, _, _, _, d', s', c', rfl, rfl⟩)
  exact ⟨y5, y6, y7, y8, y9, d', s', c', e⟩
def ri8B : MS := (sSeq (sSet 2 (mCall F__law_spans (maCons (mV 0) (maCons (mC (.int 36)) maNil))))
      (sSeq (sSet 3 (mCall F__law_line (maCons (mV 0) (maCons (mV 2) maNil))))
      (sSeq (sPar 4 5 (maCons (mMake "Ranking" F_Ranking___init__ [] (maCons (mMake "Board" F_Board___init__ [] (maCons (mV 2) maNil)) (maCons (mWeak (mV 3)) maNil))) (maCons (mCall F__law_tops (maCons (mV 2) (maCons (mV 3) (maCons (mCall F__law_full (maCons (mV 2) maNil)) maNil)))) maNil)))
      (sSeq (sSet 6 (mLst (maCons (mMeth "Ranking" "peaks" F_Ranking_peaks [.non] (mV 4) maNil) (maCons (mMeth "Ranking" "peaks" F_Ranking_peaks [] (mV 4) (maCons (mC .non) maNil)) (maCons (mMethK "Ranking" "peaks" F_Ranking_peaks (permA [0, 1]) (mV 4) (maCons (mProp "Board" F_Board_whole (mProp "Ranking" F_Ranking_board (mV 4))) maNil)) maNil)))))
      (sSeq (sIf (mOrT (mTst (m2 fNe (mCB fRepr (maCons (mV 6) maNil)) (mCB fRepr (maCons (m2 fMul (mLst (maCons (mV 5) maNil)) (mC (.int 3))) maNil)))) (mTst (m2 (fIn true) (m2 fIx (mWeak (mV 3)) (mNeg (mC (.int 1)))) (mV 5)))) (sRet (mC (.bl false))) sNext)
      (sFor (mRng1 (maCons (mC (.int 4)) maNil)) (gV 7) (sSeq (sSet 8 (mCall F__law_room (maCons (mV 0) (maCons (mV 2) maNil))))
      (sSeq (sSet 5 (mCall F__law_tops (maCons (mV 2) (maCons (mV 3) (maCons (mV 8) maNil)))))
      (sSeq (sSet 9 (mCB fMaxL (maCons (mLc [10] (mIt (mCall F__law_inside (maCons (mV 8) maNil))) (gV 10) mYes (mTIx (mV 3) (maCons (mV 10) maNil))) maNil)))
      (sSeq (sSet 6 (mLst (maCons (mMeth "Ranking" "peaks" F_Ranking_peaks [] (mV 4) (maCons (mV 8) maNil)) (maCons (mMethK "Ranking" "peaks" F_Ranking_peaks (permA [0, 1]) (mV 4) (maCons (mV 8) maNil)) maNil))))
      (sIf (mOrT (mTst (m2 fNe (mCB fRepr (maCons (mV 6) maNil)) (mCB fRepr (maCons (mLst (maCons (mV 5) (maCons (mV 5) maNil))) maNil)))) (mTst (m2 (fIn true) (m2 fIx (mWeak (mV 3)) (mV 9)) (mV 5)))) (sRet (mC (.bl false))) sNext)))))))))))
theorem ri8_step (oA : OkS A) (hB : ∀ ns, Drawn ns → Brd ns) {x1 x2 x3 x4 x5 x6 x7 x8 x9 x10 : Option Dv} :
    ∃ y2 y3 y4 y5 y6 y7 y8 y9 y10 d' s' c', ri8B [some (.mut A.length), x1, x2, x3, x4, x5, x6, x7, x8, x9, x10] (A ++ [jarM d s c]) = some (.nx [some (.mut A.length), x1, y2, y3, y4, y5, y6, y7, y8, y9, y10], A ++ [jarM d' s' c']) := by
  obtain ⟨ns, d1, s1, c1, e1, D1⟩ := r_spans oA (d := d) (s := s) (c := c)
  have b := hB ns D1
  have n5 := b.few
  obtain ⟨L, d2, s2, c2, e2, hL⟩ := r_line oA (d := d1) (s := s1) (c := c1) b
  have hI := whole_ins b
  have o : OkS (A ++ [jarM d2 s2 c2]) := j_ok oA
  have mk1 := r_new (S := (A ++ [jarM d2 s2 c2])) o b
  have mk2 := r_rnew (S := (A ++ [jarM d2 s2 c2])) o b hL
  have pw := part_whole b.two
  have et := r_tops (S := A ++ [jarM d2 s2 c2]) o b hL pw
  have ep0 := r_peaks (S := A ++ [jarM d2 s2 c2]) (L := L) o b hL (d := .non) (I := St ns) (.inl ⟨rfl, rfl⟩)
  have ep1 := r_peaks (S := A ++ [jarM d2 s2 c2]) (L := L) o b hL (d := .tup ((wholeOf ns).map .str)) (I := St ns) (.inr ⟨wholeOf ns, rfl, pw, rfl⟩)
  have eS : setsOf (wholeOf ns) = St ns := rfl
  rw [eS] at et
  have l0 : 0 < L.length := by rw [hL.len]; exact b.pos
  obtain ⟨z, hz⟩ : ∃ z, L[L.length - 1]? = some z := ⟨L[L.length - 1], List.getElem?_eq_getElem (by omega)⟩
  have zL : z ∈ L := List.mem_of_getElem? hz
  have zS := hL.mem.mp zL
  have zi : L.idxOf z = L.length - 1 := by
    have h1 := List.idxOf_lt_length_of_mem zL
    have h2 : L[L.idxOf z]? = some z := by rw [List.getElem?_eq_getElem h1, List.getElem_idxOf h1]
    exact (List.getElem?_inj h1 (hL.nd b)).mp (h2.trans hz.symm)
  have zb := best_peak hL hI zS fun t ht => by
    have := List.idxOf_lt_length_of_mem (hL.mem.mpr ht)
    omega
  have dz : decide (z ∈ peaksOf ns L (St ns)) = true := decide_eq_true zb
  have hr : ∀ ev : Ev, mRng1 (maCons (mC (.int 4)) maNil) ev (A ++ [jarM d2 s2 c2]) = some ((List.range 4).map fun (k : Nat) => Dv.int (k : Int), A ++ [jarM d2 s2 c2]) := fun ev => rng1_to (n := 4) (by omega) rfl
  obtain ⟨y5, y6, y7, y8, y9, d3, s3, c3, e3⟩ := in8_loop (d := d2) (s := s2) (c := c2) oA b hL (x1 := x1) (x5 := some (.tup ((peaksOf ns L (St ns)).map .str))) (x6 := some (.lst [.tup ((peaksOf ns L (St ns)).map .str), .tup ((peaksOf ns L (St ns)).map .str), .tup ((peaksOf ns L (St ns)).map .str)])) (x7 := x7) (x8 := x8) (x9 := x9) (x10 := x10)
  unfold in8B at e3
  refine ⟨some (.tup (ns.map .int)), some (.tupN (L.map .str)), some (rankD ns L), y5, y6, y7, y8, y9, x10, d3, s3, c3, ?_⟩
  unfold ri8B
  simp only [ap_2, ap_C, ap_V, ap_andT, ap_andV, ap_asg, ap_call, ap_cb, ap_cmeth, ap_cmethK, ap_cons, ap_dGet, ap_dIn, ap_dc, ap_drop, ap_enum, ap_eqRef, ap_extend, ap_fld, ap_fldM, ap_for, ap_gV, ap_if, ap_ifS, ap_isi, ap_it, ap_kget, ap_lc, ap_lc2, ap_lst, ap_lstL, ap_make, ap_makeK, ap_makeL, ap_meth, ap_methK, ap_moInt, ap_moNo, ap_next, ap_nil, ap_notT, ap_notV, ap_orT, ap_ownEq, ap_ownIn, ap_par, ap_prop, ap_put, ap_ret, ap_seq, ap_set, ap_sl, ap_strO, ap_tru, ap_tst, ap_tup, ap_tupOf, ap_yes, ap_zip, bnd_some, List.getElem?_cons_zero, List.getElem?_cons_succ, List.set_cons_zero, List.set_cons_succ, List.map_cons, List.map_nil, List.cons_append, List.nil_append, List.replicate_succ, List.replicate_zero, if_true, if_false, Bool.false_eq_true, reduceIte, List.length_cons, List.length_nil, sz_is, Nat.reduceAdd, lz0, lz1, lz2, lz3, lz4, lz5, lz6, lz7, lz8, lz9, lz10, lz11, lz12, lz13, lz14, lz15, Nat.zero_add, itemsOf, eq_self, Bool.not_true, Bool.not_false, Bool.true_and, Bool.and_true, true_and, and_true, decide_true, decide_false, wipeE, asQ, fTupOf, tru_bl, t_str, t_int, t_tup, i_ss, i_ii, i_tt, len_tup, len_lst, eq_int, ne_int, eq_str, ne_str, d_dic, k_str, k_int, List.length_map, ib_b, b_asO, b_cls, b_ty, b_sizes, b_whole, b_settings, b_beside, e1, e2, mk1, mk2, List.append_nil, ap_weak, wk_N, r_full (S := (A ++ [jarM d2 s2 c2])) (ns := ns) o (by omega), et, q_asO, nm_peaks, ep0, ep1, pk01, r_rboard (S := (A ++ [jarM d2 s2 c2])) (ns := ns) (L := L) o, r_whole (S := (A ++ [jarM d2 s2 c2])) (ns := ns) o, mul3, rep3 (S := (A ++ [jarM d2 s2 c2])) b hI, ap_neg, neg1, ix_last (S := (A ++ [jarM d2 s2 c2])) hz, in_tup (S := A ++ [jarM d2 s2 c2]) (neg := true) (b.okT zS) (pk_ok (L := L) b hI), dz, hr, e3]
end
end Mi

set_option Elab.async false
set_option linter.all false
set_option maxRecDepth 100000
set_option maxHeartbeats 4000000
namespace Mi
open PySem PySem.Spec PyProof.Rows L2 Sw
def Ri8I (A : Sto) (ev : Ev) (S : Sto) : Prop := ∃ x1 x2 x3 x4 x5 x6 x7 x8 x9 x10 d s c, ev = [some (.mut A.length), x1, x2, x3, x4, x5, x6, x7, x8, x9, x10] ∧ S = A ++ [jarM d s c]
theorem r_right {A : Sto} {d s c : Int} (oA : OkS A) (hB : ∀ ns, Drawn ns → Brd ns) : ∃ d' s' c', F__law_right [.mut A.length] (A ++ [jarM d s c]) = some (.bl true, A ++ [jarM d' s' c']) := by
  obtain ⟨ev', S', e, x1, x2, x3, x4, x5, x6, x7, x8, x9, x10, d', s', c', rfl, rfl⟩ := forGo_keep (g := gV 1) (b := ri8B) (fun (k : Nat) => Dv.int (k : Nat)) (Ri8I A) (List.range 3) [some (.mut A.length), none, none, none, none, none, none, none, none, none, none] (A ++ [jarM d s c]) ⟨_, _, _, _, _, _, _, _, _, _, d, s, c, rfl, rfl⟩ (by
    rintro k _ ev S ⟨x1, x2, x3, x4, x5, x6, x7, x8, x9, x10, d, s, c, rfl, rfl⟩
    obtain ⟨y2, y3, y4, y5, y6, y7, y8, y9, y10, d', s', c', e⟩ := ri8_step (d := d) (s := s) (c := c) oA hB (x1 := some (.int (k : Nat))) (x2 := x2) (x3 := x3) (x4 := x4) (x5 := x5) (x6 := x6) (x7 := x7) (x8 := x8) (x9 := x9) (x10 := x10)
    exact ⟨_, _, _, rfl, e, _, _, _, _, _, _, _, _, _, _, d', s', c', rfl, rfl⟩)
  refine ⟨d', s', c', ?_⟩
  have hr : mRng1 (maCons (mC (.int 3)) maNil) [some (.mut A.length), none, none, none, none, none, none, none, none, none, none] (A ++ [jarM d s c]) = some ((List.range 3).map fun (k : Nat) => Dv.int (k : Int), A ++ [jarM d s c]) := rng1_to (n := 3) (by omega) rfl
  unfold ri8B at e
  unfold F__law_right mDef
  simp only [ap_2, ap_C, ap_V, ap_andT, ap_andV, ap_asg, ap_call, ap_cb, ap_cmeth, ap_cmethK, ap_cons, ap_dGet, ap_dIn, ap_dc, ap_drop, ap_enum, ap_eqRef, ap_extend, ap_fld, ap_fldM, ap_for, ap_gV, ap_if, ap_ifS, ap_isi, ap_it, ap_kget, ap_lc, ap_lc2, ap_lst, ap_lstL, ap_make, ap_makeK, ap_makeL, ap_meth, ap_methK, ap_moInt, ap_moNo, ap_next, ap_nil, ap_notT, ap_notV, ap_orT, ap_ownEq, ap_ownIn, ap_par, ap_prop, ap_put, ap_ret, ap_seq, ap_set, ap_sl, ap_strO, ap_tru, ap_tst, ap_tup, ap_tupOf, ap_yes, ap_zip, bnd_some, List.getElem?_cons_zero, List.getElem?_cons_succ, List.set_cons_zero, List.set_cons_succ, List.map_cons, List.map_nil, List.cons_append, List.nil_append, List.replicate_succ, List.replicate_zero, if_true, if_false, Bool.false_eq_true, reduceIte, List.length_cons, List.length_nil, sz_is, Nat.reduceAdd, lz0, lz1, lz2, lz3, lz4, lz5, lz6, lz7, lz8, lz9, lz10, lz11, lz12, lz13, lz14, lz15, Nat.zero_add, itemsOf, eq_self, Bool.not_true, Bool.not_false, Bool.true_and, Bool.and_true, true_and, and_true, decide_true, decide_false, wipeE, asQ, fTupOf, hr, e]
  exact fin_j oA c_bl
def laB : MS := (sIf (mNotT (mTru (mCall F__law_right (maCons (mCall F__law_jar (maCons (mV 0) (maCons (mV 1) maNil))) maNil)))) (sRet (mC (.bl false))) sNext)
theorem law_of (hB : ∀ ns, Drawn ns → Brd ns) (ns : List Int) (h : ns.length ≤ 63) : F_law [.scr (ns.map .int)] [] = some (.bl true, []) := by
  have hm : ∃ m : Nat, m ≤ 5 ∧ ∀ S, fMin2 S [.int (ns.length : Nat), .int 5] = some (.int (m : Nat)) := by
    by_cases hl : (5 : Int) < (ns.length : Nat)
    · exact ⟨5, by omega, fun S => by
        show some (Dv.int (if (5 : Int) < (ns.length : Nat) then 5 else (ns.length : Nat))) = _
        rw [if_pos hl]
        rfl⟩
    · exact ⟨ns.length, by omega, fun S => by
        show some (Dv.int (if (5 : Int) < (ns.length : Nat) then 5 else (ns.length : Nat))) = _
        rw [if_neg hl]⟩
  obtain ⟨m, m5, hm⟩ := hm
  have hM : ∃ n : Nat, n ≤ 5 ∧ ∀ S, fMax2 S [.int 2, .int (m : Nat)] = some (.int (n : Nat)) := by
    by_cases hl : (m : Int) > 2
    · exact ⟨m, m5, fun S => by
        show some (Dv.int (if (m : Int) > 2 then (m : Int) else 2)) = _
        rw [if_pos hl]⟩
    · exact ⟨2, by omega, fun S => by
        show some (Dv.int (if (m : Int) > 2 then (m : Int) else 2)) = _
        rw [if_neg hl]
        rfl⟩
  obtain ⟨n, n5, hM⟩ := hM
  have hr : mRng1 (maCons (mCB fMax2 (maCons (mC (.int 2)) (maCons (mCB fMin2 (maCons (mCB fLen (maCons (mV 0) maNil)) (maCons (mC (.int 5)) maNil))) maNil))) maNil) [some (.scr (ns.map .int)), none] [] = some ((List.range n).map fun (k : Nat) => Dv.int (k : Int), []) := rng1_to (by omega) (by
    simp only [ap_2, ap_C, ap_V, ap_andT, ap_andV, ap_asg, ap_call, ap_cb, ap_cmeth, ap_cmethK, ap_cons, ap_dGet, ap_dIn, ap_dc, ap_drop, ap_enum, ap_eqRef, ap_extend, ap_fld, ap_fldM, ap_for, ap_gV, ap_if, ap_ifS, ap_isi, ap_it, ap_kget, ap_lc, ap_lc2, ap_lst, ap_lstL, ap_make, ap_makeK, ap_makeL, ap_meth, ap_methK, ap_moInt, ap_moNo, ap_next, ap_nil, ap_notT, ap_notV, ap_orT, ap_ownEq, ap_ownIn, ap_par, ap_prop, ap_put, ap_ret, ap_seq, ap_set, ap_sl, ap_strO, ap_tru, ap_tst, ap_tup, ap_tupOf, ap_yes, ap_zip, bnd_some, List.getElem?_cons_zero, List.getElem?_cons_succ, List.set_cons_zero, List.set_cons_succ, List.map_cons, List.map_nil, List.cons_append, List.nil_append, List.replicate_succ, List.replicate_zero, if_true, if_false, Bool.false_eq_true, reduceIte, List.length_cons, List.length_nil, sz_is, Nat.reduceAdd, lz0, lz1, lz2, lz3, lz4, lz5, lz6, lz7, lz8, lz9, lz10, lz11, lz12, lz13, lz14, lz15, Nat.zero_add, itemsOf, eq_self, Bool.not_true, Bool.not_false, Bool.true_and, Bool.and_true, true_and, and_true, decide_true, decide_false, wipeE, asQ, fTupOf, len_scr, List.length_map, hm, hM])
  obtain ⟨ev', S', e, x1, he, oS⟩ := forGo_keep (g := gV 1) (b := laB) (fun (k : Nat) => Dv.int (k : Nat)) (fun ev S => ∃ x1, ev = [some (.scr (ns.map .int)), x1] ∧ OkS S) (List.range n) [some (.scr (ns.map .int)), none] [] ⟨none, rfl, rfl⟩ (by
    rintro k hk ev S ⟨x1, rfl, oS⟩
    have hk := List.mem_range.mp hk
    obtain ⟨d, s, ej⟩ := r_jar (A := S) (ns := ns) (k := k) oS (by omega) h
    obtain ⟨d', s', c', er⟩ := r_right (A := S) (d := d) (s := s) (c := 0) oS hB
    refine ⟨_, [some (.scr (ns.map .int)), some (.int (k : Nat))], S ++ [jarM d' s' c'], rfl, ?_, some (.int (k : Nat)), rfl, j_ok oS⟩
    unfold laB
    simp only [ap_2, ap_C, ap_V, ap_andT, ap_andV, ap_asg, ap_call, ap_cb, ap_cmeth, ap_cmethK, ap_cons, ap_dGet, ap_dIn, ap_dc, ap_drop, ap_enum, ap_eqRef, ap_extend, ap_fld, ap_fldM, ap_for, ap_gV, ap_if, ap_ifS, ap_isi, ap_it, ap_kget, ap_lc, ap_lc2, ap_lst, ap_lstL, ap_make, ap_makeK, ap_makeL, ap_meth, ap_methK, ap_moInt, ap_moNo, ap_next, ap_nil, ap_notT, ap_notV, ap_orT, ap_ownEq, ap_ownIn, ap_par, ap_prop, ap_put, ap_ret, ap_seq, ap_set, ap_sl, ap_strO, ap_tru, ap_tst, ap_tup, ap_tupOf, ap_yes, ap_zip, bnd_some, List.getElem?_cons_zero, List.getElem?_cons_succ, List.set_cons_zero, List.set_cons_succ, List.map_cons, List.map_nil, List.cons_append, List.nil_append, List.replicate_succ, List.replicate_zero, if_true, if_false, Bool.false_eq_true, reduceIte, List.length_cons, List.length_nil, sz_is, Nat.reduceAdd, lz0, lz1, lz2, lz3, lz4, lz5, lz6, lz7, lz8, lz9, lz10, lz11, lz12, lz13, lz14, lz15, Nat.zero_add, itemsOf, eq_self, Bool.not_true, Bool.not_false, Bool.true_and, Bool.and_true, true_and, and_true, decide_true, decide_false, wipeE, asQ, fTupOf, tru_bl, t_str, t_int, t_tup, i_ss, i_ii, i_tt, len_tup, len_lst, eq_int, ne_int, eq_str, ne_str, d_dic, k_str, k_int, List.length_map, ej, er])
  rw [he] at e
  unfold laB at e
  unfold F_law mDef
  simp only [ap_2, ap_C, ap_V, ap_andT, ap_andV, ap_asg, ap_call, ap_cb, ap_cmeth, ap_cmethK, ap_cons, ap_dGet, ap_dIn, ap_dc, ap_drop, ap_enum, ap_eqRef, ap_extend, ap_fld, ap_fldM, ap_for, ap_gV, ap_if, ap_ifS, ap_isi, ap_it, ap_kget, ap_lc, ap_lc2, ap_lst, ap_lstL, ap_make, ap_makeK, ap_makeL, ap_meth, ap_methK, ap_moInt, ap_moNo, ap_next, ap_nil, ap_notT, ap_notV, ap_orT, ap_ownEq, ap_ownIn, ap_par, ap_prop, ap_put, ap_ret, ap_seq, ap_set, ap_sl, ap_strO, ap_tru, ap_tst, ap_tup, ap_tupOf, ap_yes, ap_zip, bnd_some, List.getElem?_cons_zero, List.getElem?_cons_succ, List.set_cons_zero, List.set_cons_succ, List.map_cons, List.map_nil, List.cons_append, List.nil_append, List.replicate_succ, List.replicate_zero, if_true, if_false, Bool.false_eq_true, reduceIte, List.length_cons, List.length_nil, sz_is, Nat.reduceAdd, lz0, lz1, lz2, lz3, lz4, lz5, lz6, lz7, lz8, lz9, lz10, lz11, lz12, lz13, lz14, lz15, Nat.zero_add, itemsOf, eq_self, Bool.not_true, Bool.not_false, Bool.true_and, Bool.and_true, true_and, and_true, decide_true, decide_false, wipeE, asQ, fTupOf, hr, e]
  exact fin_app (S := []) (m := S') rfl c_bl
end Mi

set_option Elab.async false
set_option linter.all false
open PySem PySem.W PyProof.Rows
theorem Mi.law_all (ns : List Int) (h : ns.length ≤ 63) : Mi.F_law [.scr (ns.map .int)] [] = some (.bl true, []) := Mi.law_of (fun _ g => Mi.brd g) ns h
set_option maxRecDepth 100000 in
set_option maxHeartbeats 0 in
theorem PySem.Challenge.cw_switchhills_k08_whole_peaks_of_rankings_holds : PySem.Challenge.rw_switchhills_k08_whole_peaks_of_rankings.Holds := by
  w_on
  o_law
  k_head
  (case hw => w_witness2)
  k_fill
  refine Sw.walkG (l := PySem.Challenge.rw_switchhills_k08_whole_peaks_of_rankings) (n := 63) (k := 7) (x := "script") (sp := fun w => Mi.lawSp _) rfl (by decide) rfl ⟨rfl, by decide, by decide⟩ (fun w h Y => PySem.W.kIn_of Y) ?F (fun _ _ a ns hl hO hS => ⟨a, ns, rfl, hO, hS, hl, fun _ => rfl⟩)
  case F =>
    intro w mg fa h KX G hmg
    refine' Mi.all_mk KX G hmg Mi.law_all ?aC23 ?aC27 ?ag7 ?lF7 ?dF7 ?kF7 ?ag8 ?lF8 ?dF8 ?kF8 ?ag9 ?lF9 ?dF9 ?kF9 ?ag10 ?lF10 ?dF10 ?kF10 ?ag11 ?lF11 ?dF11 ?kF11 ?ag12 ?lF12 ?dF12 ?kF12 ?am15 ?im15 ?lF15 ?dF15 ?kF15 ?pa19 ?prc19 ?lF19 ?dF19 ?kF19 ?am20 ?im20 ?lF20 ?dF20 ?kF20 ?am22 ?im22 ?lF22 ?dF22 ?kF22 ?ag14 ?lF14 ?dF14 ?kF14 ?ag13 ?lF13 ?dF13 ?kF13 ?am24 ?im24 ?lF24 ?dF24 ?kF24 ?am26 ?im26 ?lF26 ?dF26 ?kF26 ?lT26 ?oT26 ?ag28 ?lF28 ?dF28 ?kF28 ?ag29 ?lF29 ?dF29 ?kF29 ?am30 ?im30 ?lF30 ?dF30 ?kF30 ?pa31 ?prc31 ?lF31 ?dF31 ?kF31 ?am35 ?im35 ?lF35 ?dF35 ?kF35 ?lT35 ?oT35 ?ag46 ?lF46 ?dF46 ?kF46 ?ag47 ?lF47 ?dF47 ?kF47 ?ag48 ?lF48 ?dF48 ?kF48 ?ag49 ?lF49 ?dF49 ?kF49 ?ag50 ?lF50 ?dF50 ?kF50 ?ag51 ?lF51 ?dF51 ?kF51 ?ag52 ?lF52 ?dF52 ?kF52 ?ag53 ?lF53 ?dF53 ?kF53 ?ag54 ?lF54 ?dF54 ?kF54 ?ag55 ?lF55 ?dF55 ?kF55 ?ag56 ?lF56 ?dF56 ?kF56 ?ag57 ?lF57 ?dF57 ?kF57 ?ag58 ?lF58 ?dF58 ?kF58 ?pg23 ?hd23 ?po23 ?sa23 ?qc23 ?qo23 ?mkm23 ?mkk23 ?ib23_NoneType ?ib23_bool ?ib23_int ?ib23_str ?ib23_tuple ?ib23_list ?ib23_dict ?icl23 ?ity23 ?isf23 ?ic23_27 ?nf23_beside ?nf23_board ?nf23_order ?nf23_places ?nf23_settings ?nf23_sizes ?nf23_whole ?nt23_NoneType ?nt23_bool ?nt23_int ?nt23_str ?nt23_tuple ?nt23_list ?nt23_dict ?pg27 ?hd27 ?po27 ?sa27 ?qc27 ?qo27 ?mkm27 ?mkk27 ?nf27_beside ?nf27_board ?nf27_order ?nf27_places ?nf27_settings ?nf27_sizes ?nf27_whole ?nt27_NoneType ?nt27_bool ?nt27_int ?nt27_str ?nt27_tuple ?nt27_list ?nt27_dict ?qg ?qt ?pgt19 ?ptk19 ?pgt31 ?ptk31 ?zaNotes ?zaDesk ?zaConsole ?zabs ?zall ?zenumerate ?zint ?zisinstance ?zlen ?zmax ?zmin ?zrange ?zrepr ?zset ?zsorted ?zstr ?ztuple ?zzip ?cMOST_SETTINGS ?cMOST_SWITCHES ?cSTANDS
    (case aC23 => k_is)
    (case aC27 => k_is)
    (case ag7 => k_is)
    (case lF7 => k_is)
    (case dF7 => k_is)
    (case kF7 => k_is)
    (case ag8 => k_is)
    (case lF8 => k_is)
    (case dF8 => k_is)
    (case kF8 => k_is)
    (case ag9 => k_is)
    (case lF9 => k_is)
    (case dF9 => k_is)
    (case kF9 => k_is)
    (case ag10 => k_is)
    (case lF10 => k_is)
    (case dF10 => k_is)
    (case kF10 => k_is)
    (case ag11 => k_is)
    (case lF11 => k_is)
    (case dF11 => k_is)
    (case kF11 => k_is)
    (case ag12 => k_is)
    (case lF12 => k_is)
    (case dF12 => k_is)
    (case kF12 => k_is)
    (case am15 => k_is)
    (case im15 => k_is)
    (case lF15 => k_is)
    (case dF15 => k_is)
    (case kF15 => k_is)
    (case pa19 => k_is)
    (case prc19 => k_is)
    (case lF19 => k_is)
    (case dF19 => k_is)
    (case kF19 => k_is)
    (case am20 => k_is)
    (case im20 => k_is)
    (case lF20 => k_is)
    (case dF20 => k_is)
    (case kF20 => k_is)
    (case am22 => k_is)
    (case im22 => k_is)
    (case lF22 => k_is)
    (case dF22 => k_is)
    (case kF22 => k_is)
    (case ag14 => k_is)
    (case lF14 => k_is)
    (case dF14 => k_is)
    (case kF14 => k_is)
    (case ag13 => k_is)
    (case lF13 => k_is)
    (case dF13 => k_is)
    (case kF13 => k_is)
    (case am24 => k_is)
    (case im24 => k_is)
    (case lF24 => k_is)
    (case dF24 => k_is)
    (case kF24 => k_is)
    (case am26 => k_is)
    (case im26 => k_is)
    (case lF26 => k_is)
    (case dF26 => k_is)
    (case kF26 => k_is)
    (case lT26 => k_is)
    (case oT26 => rfl)
    (case ag28 => k_is)
    (case lF28 => k_is)
    (case dF28 => k_is)
    (case kF28 => k_is)
    (case ag29 => k_is)
    (case lF29 => k_is)
    (case dF29 => k_is)
    (case kF29 => k_is)
    (case am30 => k_is)
    (case im30 => k_is)
    (case lF30 => k_is)
    (case dF30 => k_is)
    (case kF30 => k_is)
    (case pa31 => k_is)
    (case prc31 => k_is)
    (case lF31 => k_is)
    (case dF31 => k_is)
    (case kF31 => k_is)
    (case am35 => k_is)
    (case im35 => k_is)
    (case lF35 => k_is)
    (case dF35 => k_is)
    (case kF35 => k_is)
    (case lT35 => k_is)
    (case oT35 => rfl)
    (case ag46 => k_is)
    (case lF46 => k_is)
    (case dF46 => k_is)
    (case kF46 => k_is)
    (case ag47 => k_is)
    (case lF47 => k_is)
    (case dF47 => k_is)
    (case kF47 => k_is)
    (case ag48 => k_is)
    (case lF48 => k_is)
    (case dF48 => k_is)
    (case kF48 => k_is)
    (case ag49 => k_is)
    (case lF49 => k_is)
    (case dF49 => k_is)
    (case kF49 => k_is)
    (case ag50 => k_is)
    (case lF50 => k_is)
    (case dF50 => k_is)
    (case kF50 => k_is)
    (case ag51 => k_is)
    (case lF51 => k_is)
    (case dF51 => k_is)
    (case kF51 => k_is)
    (case ag52 => k_is)
    (case lF52 => k_is)
    (case dF52 => k_is)
    (case kF52 => k_is)
    (case ag53 => k_is)
    (case lF53 => k_is)
    (case dF53 => k_is)
    (case kF53 => k_is)
    (case ag54 => k_is)
    (case lF54 => k_is)
    (case dF54 => k_is)
    (case kF54 => k_is)
    (case ag55 => k_is)
    (case lF55 => k_is)
    (case dF55 => k_is)
    (case kF55 => k_is)
    (case ag56 => k_is)
    (case lF56 => k_is)
    (case dF56 => k_is)
    (case kF56 => k_is)
    (case ag57 => k_is)
    (case lF57 => k_is)
    (case dF57 => k_is)
    (case kF57 => k_is)
    (case ag58 => k_is)
    (case lF58 => k_is)
    (case dF58 => k_is)
    (case kF58 => k_is)
    (case pg23 => k_is)
    (case hd23 => k_is)
    (case po23 => k_is)
    (case sa23 => k_is)
    (case qc23 => k_is)
    (case qo23 => k_is)
    (case mkm23 => k_is)
    (case mkk23 => k_is)
    (case ib23_NoneType => k_is)
    (case ib23_bool => k_is)
    (case ib23_int => k_is)
    (case ib23_str => k_is)
    (case ib23_tuple => k_is)
    (case ib23_list => k_is)
    (case ib23_dict => k_is)
    (case icl23 => k_is)
    (case ity23 => k_is)
    (case isf23 => k_is)
    (case ic23_27 => k_is)
    (case nf23_beside => k_is)
    (case nf23_board => k_is)
    (case nf23_order => k_is)
    (case nf23_places => k_is)
    (case nf23_settings => k_is)
    (case nf23_sizes => k_is)
    (case nf23_whole => k_is)
    (case nt23_NoneType => k_is)
    (case nt23_bool => k_is)
    (case nt23_int => k_is)
    (case nt23_str => k_is)
    (case nt23_tuple => k_is)
    (case nt23_list => k_is)
    (case nt23_dict => k_is)
    (case pg27 => k_is)
    (case hd27 => k_is)
    (case po27 => k_is)
    (case sa27 => k_is)
    (case qc27 => k_is)
    (case qo27 => k_is)
    (case mkm27 => k_is)
    (case mkk27 => k_is)
    (case nf27_beside => k_is)
    (case nf27_board => k_is)
    (case nf27_order => k_is)
    (case nf27_places => k_is)
    (case nf27_settings => k_is)
    (case nf27_sizes => k_is)
    (case nf27_whole => k_is)
    (case nt27_NoneType => k_is)
    (case nt27_bool => k_is)
    (case nt27_int => k_is)
    (case nt27_str => k_is)
    (case nt27_tuple => k_is)
    (case nt27_list => k_is)
    (case nt27_dict => k_is)
    (case qg => k_is)
    (case qt => k_is)
    (case pgt19 => k_is)
    (case ptk19 => k_is)
    (case pgt31 => k_is)
    (case ptk31 => k_is)
    (case zaNotes => k_is)
    (case zaDesk => k_is)
    (case zaConsole => k_is)
    (case zabs => k_is)
    (case zall => k_is)
    (case zenumerate => k_is)
    (case zint => k_is)
    (case zisinstance => k_is)
    (case zlen => k_is)
    (case zmax => k_is)
    (case zmin => k_is)
    (case zrange => k_is)
    (case zrepr => k_is)
    (case zset => k_is)
    (case zsorted => k_is)
    (case zstr => k_is)
    (case ztuple => k_is)
    (case zzip => k_is)
    (case cMOST_SETTINGS => k_is)
    (case cMOST_SWITCHES => k_is)
    (case cSTANDS => k_is)
