import PyProof.Rows.All
import Wide.All
import OpenK.AllK
import Wide.FinOn
import HandS.ForMost
import HandS.ExcInit
import HandS.ExcIs
import HandS.ExcField
import HandS.IsInst
import KE.KExcInit
import HandS.ExcValue
import HandS.Flow
import PySem.Challenge.RW_switchhills_k01_limits_and_errors
set_option Elab.async false
set_option linter.all false
set_option maxRecDepth 100000
set_option maxHeartbeats 4000000
/-! A def that is called where no repr is under way; repr of data. -/
namespace Sw
open PySem PySem.Spec PyProof.Rows L2

abbrev Free0 (A : Around) : Prop := A.guards = some []

/-- as FnOk, for callers around which no guard stands -/
structure FnG (P : Program) (w : World) (K : PySem.W.Frag) (mg : Str → Option Value) (base : Heap)
    (k : Nat) (f : Addr) (fd : FuncData) (ps : List Str) (sp : Sp) : Prop where
  ln : ∀ vs H Q E, sp vs H Q E → vs.length = ps.length
  go : ∀ (A : Around) (outer : List Env) (s : Shared) (H : Hp) (args : Args) (us : List Value) (vs : List V)
    (Q : VK) (E : XK), Room k A → Free0 A → Env0 P w K mg base A outer s H →
    BindsTo s fd args (ps.zip us) → Vals vs us → sp vs H Q E →
    codeAny (model P w) A (.call (.ref f) args) (CR CX0 outer P w H s Q E) s

section
variable {P : Program} {w : World} {K : PySem.W.Frag} {mg : Str → Option Value} {base : Heap}

theorem FnG.of {k : Nat} {f : Addr} {fd : FuncData} {ps : List Str} {sp : Sp}
    (F : FnOk P w K mg base CX0 k f fd ps sp) : FnG P w K mg base k f fd ps sp :=
  ⟨F.len, fun A outer s H args us vs Q E hr _ he hb hv hs => F.run A outer s H args us vs Q E hr he hb hv hs⟩

theorem okG {x qual : Str} {st : Stmt} {f : Addr} {fd : FuncData} {N ps : List Str} {k : Nat} {sp : Sp}
    (F : Fun K x qual st f fd) (S : FnScope N ps (defScope st))
    (ln : ∀ vs H Q E, sp vs H Q E → vs.length = ps.length)
    (body : ∀ (cdv : Value) (A : Around) (outer : List Env) (s : Shared) (H : Hp) (vs : List V) (Q : VK) (E : XK),
      Room k (A.deeper (envOfC qual (defScope st) s.heap.objs.size f cdv)) →
      Free0 (A.deeper (envOfC qual (defScope st) s.heap.objs.size f cdv)) → sp vs H Q E →
      ∃ t, PSs (cxOf CX0 P w K mg base N qual (defScope st) f cdv A outer s H E).nox (defBody st) t ∧
        t { nx := fun _ H' => Q .non H', rt := Q } (start N vs) H) :
    FnG P w K mg base (k + 1) f fd ps sp := by
  obtain ⟨oc, od, kV, doc, pm, an, cdv, ct, osl, hfd, lk, hcd⟩ := F.ex
  subst hfd
  constructor
  · exact ln
  · intro A outer s H args us vs Q E room free e0 bnd rel want
    have inHeap : K.In s.heap := e0.mod.kin.keeps fun b o z => (e0.bs b o z).1
    have noLim : s.heap.NoLimit := e0.mod.nolimit.keeps fun b o z => (e0.bs b o z).1
    refine codeAny_call_function room.depth (inHeap _ _ lk) rfl S.co S.gen rfl
      (PySem.W.codeRec_of inHeap hcd) (bnd _ _ _ _ ?_)
    refine wpAny_newFunctionEnv_cells S.kind (fun z hz => ?_) fun env hen s1 x => ?_
    · have hz1 := (List.of_mem_zip (a := z.1) (b := z.2) hz).1
      rcases S.par z.1 hz1 with q | q
      · left; exact q
      · right; exact ⟨q, PySem.W.cellsFrom_some _ _ _ (.inl q)⟩
    · subst hen
      refine ⟨noLim.keeps x.toInCall.keep, codeAny_func ?_⟩
      obtain ⟨t, ht, hq⟩ := body cdv A outer s H vs Q E (room.deeper _) free want
      have J := inv_start (CX := CX0) (P := P) (w := w) (K := K) (mg := mg) (base := base) (E := E)
        S room.hd e0 (ln _ _ _ _ want) rel x
      refine wpAny_mono (ht.nox.run [] s1 (start N vs) H _ J hq) ?_ fun _ _ z => z
      intro fl s' hs
      cases fl with
      | brk => obtain ⟨_, _, _, z⟩ := hs; exact False.elim z
      | cont => obtain ⟨_, _, _, z⟩ := hs; exact False.elim z
      | next =>
        obtain ⟨σ', H', J', z⟩ := hs
        exact ⟨.non, H', J'.os, J'.bare, J'.base, J'.hok, rfl, z⟩
      | ret u =>
        obtain ⟨v, σ', H', J', rv, z⟩ := hs
        exact ⟨v, H', J'.os, J'.bare, J'.base, J'.hok, rv, z⟩
end

section
variable {X : Cx} {k : Nat} {f : Addr} {fd : FuncData} {ps : List Str} {sp : Sp} {dvs : List V} {ds : List Value}
  {x : Str} {p pos : Pos} {e : Expr} {es : List Expr} {t : TA}

/-- a call of such a def -/
theorem pe_callG (G : FnG X.prog X.w X.K X.mg X.base k f fd ps sp) (hr : Room k X.A) (fr : Free0 X.A) (hg : Gl X x)
    (hm : X.mg x = some (.ref f)) (hk : PySem.W.keepIn X.K (.ref f) = true) (hb : Binds X.K fd ps ds)
    (hd : Vals dvs ds) (ha : PA X (e :: es) t) (hdb : (x == ("__debug__" : Str)) = false := by decide)
    (he : starEach (e :: es) X.env = (false, eval e X.env) :: starEach es X.env := by rfl)
    (hpl : (backTo pos (starEach es X.env)).any (·.1) = false := by rfl) :
    PE X (.Call (.Name x p) (e :: es) [] pos) (tCall sp dvs E0 t) := by
  constructor
  intro pins s σ H Q I h
  refine wpAny_Call_Name_kw (ld_glob I hg hm ?_ hdb)
  refine PySem.W.callWith_K (h₀ := X.base) I.ok.mod.kin hk ?_ he hpl
  refine thn (ha.run pos pins s σ H _ I h) ?_
  intro us s1 hs
  obtain ⟨vs, H1, I1, r, q⟩ := hs
  refine ⟨I1.kIn, ?_⟩
  have rr : Vals (vs ++ dvs) (us ++ ds) := r.append hd
  have ll : (us ++ ds).length = ps.length := rr.length.symm.trans (G.ln _ _ _ _ q)
  have run := G.go X.A X.stack s1 H1 ⟨us, []⟩ (us ++ ds) (vs ++ dvs) Q E0 hr fr I1.env0 (hb s1 us I1.kIn ll) rr q
  refine wpAny_call (codeAny_mono run ?_)
  intro res s' z
  cases res with
  | error er => exact False.elim z
  | ok fl =>
    cases fl with
    | ret u => exact I1.after z
    | next => exact False.elim z
    | brk => exact False.elim z
    | cont => exact False.elim z
end

/-! ### what can be read as data: Dp, or a dict at the top -/
section
variable {X : Cx} {pins : List (Addr × Obj)} {σ : L2.St} {H : Hp} {s : Shared}

inductive Dx (K : PySem.W.Frag) (H : Hp) : V → PyData → Prop
  | flat {v : V} {d : PyData} : Dp K H v d → Dx K H v d
  | dct {a : Addr} {kvs : List (Str × Int)} :
      H a = some (.dK (kvs.map fun p => (Sum.inr p.1, V.int p.2))) →
      Dx K H (.ref a) (.dict (kvs.map fun p => (.str p.1, .int p.2)))

theorem dct_reads {h : Heap} {prog : Program} {w : World} : ∀ (kvs : List (Str × Int)) (es : List DictEntry)
    (vs : List (Key × Value)), KV (kvs.map fun p => ((Sum.inr p.1 : Key), V.int p.2)) vs →
    Pairs (mixKind prog w) es vs →
    ∃ as bs, ReadsAll h (es.map (·.key)) (kvs.map fun p => PyData.str p.1) as ∧ as = [] ∧
      ReadsAll h (es.map (·.val)) (kvs.map fun p => PyData.int p.2) bs ∧ bs = []
  | [], es, vs, kv, ps => by
    cases kv
    cases ps
    exact ⟨_, _, .nil, rfl, .nil, rfl⟩
  | p :: kvs, es, vs, kv, ps => by
    cases kv with
    | cons h1 h2 =>
      cases ps with
      | cons q1 q2 q3 =>
        obtain ⟨as, bs, r1, e1, r2, e2⟩ := dct_reads (h := h) kvs _ _ h2 q3
        obtain ⟨hk, t, hv⟩ := h1
        rename_i b l2 e es'
        obtain ⟨hash, key, val⟩ := e
        have hk0 : (Sum.inr p.1 : Key) = b.1 := hk
        have hk' : keyIs (Sum.inr p.1) key = true := by rw [hk0]; exact q1
        obtain ⟨t2, et⟩ := Value.isStrOf_shape (x := p.1) (v := key) hk'
        have ev : val = Value.int p.2 t := q2.trans hv
        subst et ev e1 e2
        exact ⟨_, _, .cons (.str p.1 t2) r1, rfl, .cons (.int p.2 t) r2, rfl⟩

/-- what the rule of repr asks -/
def rRepr (K : PySem.W.Frag) : List V → Hp → VK → Prop := fun xs H Q =>
  ∃ v d, xs = [v] ∧ Dx K H v d ∧ d.showable = true ∧ d.shown.length ≤ sizeLine ∧ d.depth ≤ 60 ∧ Q (.str d.shown) H

theorem map_fst_dct (kvs : List (Str × Int)) :
    ((kvs.map fun p => (PyData.str p.1, PyData.int p.2)).map (·.1)) = kvs.map fun p => PyData.str p.1 := by
  rw [List.map_map]; rfl
theorem map_snd_dct (kvs : List (Str × Int)) :
    ((kvs.map fun p => (PyData.str p.1, PyData.int p.2)).map (·.2)) = kvs.map fun p => PyData.int p.2 := by
  rw [List.map_map]; rfl

mutual
theorem dp_nodict {K : PySem.W.Frag} : ∀ (d : PyData) (v : V), Dp K H v d → d.hasDict = false
  | .none, _, _ => rfl
  | .bool _, _, _ => rfl
  | .int _, _, _ => rfl
  | .str _, _, _ => rfl
  | .list ds, _, h => by
    cases h with
    | lst _ hd => simp only [PyData.hasDict]; exact dpAll_nodict ds _ hd
  | .tuple ds, _, h => by
    cases h with
    | tup _ hd => simp only [PyData.hasDict]; exact dpAll_nodict ds _ hd
  | .dict _, _, h => by cases h
theorem dpAll_nodict {K : PySem.W.Frag} : ∀ (ds : List PyData) (vs : List V), DpAll K H vs ds → PyData.hasDictAll ds = false
  | [], _, _ => rfl
  | d :: ds, _, h => by
    cases h with
    | cons a b => simp only [PyData.hasDictAll, dp_nodict d _ a, dpAll_nodict ds _ b, Bool.or_false]
end

theorem Dx.ref (I : Inv X pins σ H s) {a : Addr} {d : PyData} (h : Dx X.K H (.ref a) d) :
    ∃ as, Reads s.heap (.ref a) d as ∧ (d.hasDict = true → sysModules ∉ as) := by
  cases h with
  | flat h =>
    obtain ⟨as, r⟩ := Dp.reads I d _ _ h rfl
    refine ⟨as, r, fun z => ?_⟩
    rw [dp_nodict d _ h] at z
    cases z
  | @dct _ kvs ea =>
    have ok : ObjOk X.prog X.w H s.heap a (.dK (kvs.map fun p => (Sum.inr p.1, V.int p.2))) := I.hok a _ ea
    obtain ⟨_, ns, vs, kv, o, es, ep, ho, ex, hd, _, ps, _⟩ := ok
    obtain ⟨as, bs, r1, e1, r2, e2⟩ := dct_reads (h := s.heap) kvs _ _ kv ps
    subst e1 e2
    refine ⟨a :: ([] : List Addr) ++ ([] : List Addr), Reads.dict ho ex.1 hd ?_ ?_, fun _ z => ?_⟩
    · rw [map_fst_dct]; exact r1
    · rw [map_snd_dct]; exact r2
    · have z' : sysModules ∈ ([a] : List Addr) := z
      rw [List.mem_singleton.mp z'] at ns
      exact absurd ns (by simp)

/-- repr(v), v data, where no repr is under way -/
theorem call_repr (fr : Free0 X.A) (hu : X.A.units + 64 < cLine) : CallR X (.builtin "repr") (rRepr X.K) := by
  intro pins s σ H xs us Q I r h
  obtain ⟨v, d, rfl, hd, hs, hz, hp, q⟩ := h
  obtain ⟨u, rfl, ru⟩ := vals1 r
  have fin : ∀ (h' : Heap) (t tk : Tok), (∀ b o, s.heap.get? b = some o → h'.get? b = some o) →
      EP X pins σ Q (.str d.shown t) { s with heap := h', toks := tk } :=
    fun h' t tk hk => ⟨.str d.shown, H, I.kept (t' := tk) hk, ⟨t, rfl⟩, q⟩
  have same : ∀ (t tk : Tok), EP X pins σ Q (.str d.shown t) { s with toks := tk } :=
    fun t tk => fin s.heap t tk fun _ _ z => z
  cases v with
  | ref a =>
    cases ru
    obtain ⟨as, rd, nm⟩ := hd.ref I
    exact repr_of_reads' rd hs nm fr (by omega) (fun _ _ z => z) (fun h' t tk hk => fin h' t tk hk) hz
  | non =>
    cases hd with
    | flat hd =>
      cases hd
      cases ru
      refine PySem.P.repr_of_none ?_
      exact same _ _
  | bl b =>
    cases hd with
    | flat hd =>
      cases hd
      cases ru
      refine PySem.P.repr_of_bool ?_
      have e := same s.toks (s.toks + 1)
      simp only [PyData.shown] at e
      cases b <;> exact e
  | int i =>
    cases hd with
    | flat hd =>
      cases hd
      obtain ⟨t, rfl⟩ := ru
      refine PySem.P.repr_of_int (by simpa [PyData.showable] using hs) ?_
      have e := same s.toks (s.toks + 1)
      simp only [PyData.shown] at e
      exact e
  | str x =>
    cases hd with
    | flat hd =>
      cases hd
      obtain ⟨t, rfl⟩ := ru
      simp only [PyData.shown] at hz
      refine PySem.P.repr_of_str ?_ hz
      have e := same s.toks (s.toks + 1)
      simp only [PyData.shown] at e
      exact e
  | byt b => cases hd with | flat hd => cases hd
  | flt b => cases hd with | flat hd => cases hd
  | ty n => cases hd with | flat hd => cases hd
end
end Sw

set_option Elab.async false
set_option linter.all false
set_option maxRecDepth 100000
set_option maxHeartbeats 4000000
/-! An own exception class called with one keyword. -/
namespace SwK
open PySem PySem.HandSPX Builtin Builtin.ObjectAttr
section
variable {M : Model} {A : Around} {E : Value → Shared → Prop} {hp : Heap} {gs : Array GenState} {dr : Drawn} {tk : Nat} {os : OsState}
variable {nm qn : Str} {C N : Addr} {bs bm tl : List Value} {hdct : Bool} {sn : List Str} {sub : List Value} {ab : Bool}
  {col : Option Bool} {dd : Option Addr} {k0 k1 k2 k3 k5 : Option Value} {B newId initId : String}

theorem new_check (F : ExcBaseFacts B newId initId tl) (hT : ∀ Y : String, bm.contains (.type Y) = tl.contains (.type Y))
    {x : Str} {u : Value} {Q : Unit → Shared → Prop}
    (hC : hp.get? C = some (excClassObj nm qn C N bs bm hdct sn sub ab col dd k0 k1 k2 k3 k5 newId))
    (hq : Q () ⟨hp, gs, dr, tk, os⟩) :
    wpAny M A (checkBuiltinCall newId ⟨[.ref C], [(x, u)]⟩) Q E ⟨hp, gs, dr, tk, os⟩ := by
  have isB : (Value.ref C :: bm).contains (.type B) = true := by
    rw [List.contains_cons, hT, F.hasB, Bool.or_true]
  have star := F.noStar
  simp only [checkBuiltinCall, F.newKind, F.newSplit, F.newRow]
  repeat (first
    | refine wpAny_loadPart_at hC ?_
    | (refine wpAny_isSubtype_exc hC ?_; rw [isB])
    | refine wpAny_staticBase_exc hC ?_
    | refine wpAny_madeBy_exc hC ?_
    | simp only [bne_self_eq_false, Bool.false_eq_true, if_false]
    | wp_step)
  exact hq
end

section
variable {prog : Program} {w : World} {A : Around} {E : Value → Shared → Prop} {R : Result → Shared → Prop} {hp : Heap}
  {gs : Array GenState} {dr : Drawn} {tk : Nat} {os : OsState}
variable {nm qn : Str} {C N : Addr} {bs bm tl : List Value} {hdct : Bool} {sn : List Str} {sub : List Value} {ab : Bool}
  {col : Option Bool} {dd : Option Addr} {k0 k1 k2 k3 k5 : Option Value} {B newId initId : String}

/-- the heap behind: the empty args, the object -/
abbrev born (hp : Heap) (C : Addr) : Heap := (hp.push (W.kdv_tup [])).push (excO C hp.objs.size)

theorem new_kw (F : ExcBaseFacts B newId initId tl) (hT : ∀ Y : String, bm.contains (.type Y) = tl.contains (.type Y))
    {x : Str} {u : Value} (hC : hp.get? C = some (excClassObj nm qn C N bs bm hdct sn sub ab col dd k0 k1 k2 k3 k5 newId))
    (hq : R (.ok (.ret (.ref (hp.objs.size + 1)))) ⟨born hp C, gs, dr, tk, os⟩) :
    codeAny (model prog w) A (.builtin newId ⟨[.ref C], [(x, u)]⟩) R ⟨hp, gs, dr, tk, os⟩ := by
  have fin := F.ends
  have isB : (Value.ref C :: bm).contains (.type B) = true := by
    rw [List.contains_cons, hT, F.hasB, Bool.or_true]
  have noA : (Value.ref C :: bm).contains (.type "AttributeError") = false := by
    rw [List.contains_cons, hT, F.noAttr]; rfl
  have noN : (Value.ref C :: bm).contains (.type "NameError") = false := by
    rw [List.contains_cons, hT, F.noName]; rfl
  refine codeAny_builtinAt F.entry ?_
  unfold Builtin.«BaseException.__new__»
  refine wpAt_bind ?_
  show wpAt _ _ _ (stack >>= _) _ _ _
  refine wpAt_bind (wpAt_stack fun p below => wpAt_of_wpAny ?_)
  wp_walk
  refine wpAt_of_wpAny ?_
  rw [F.owner]
  have small : ([] : List Value).length ≤ sizeLine := Nat.zero_le _
  repeat (first
    | with_reducible refine wpAny_madeHere_exc F.canon hC ?_
    | with_reducible refine wpAny_loadPart_at hC ?_
    | (with_reducible refine wpAny_isSubtype_exc hC ?_; first | rw [isB] | rw [noA] | rw [noN])
    | wp_step)
  show R _ _
  rw [Heap.size_push]
  exact hq

theorem type_kw (F : ExcBaseFacts B newId initId tl) (hT : ∀ Y : String, bm.contains (.type Y) = tl.contains (.type Y))
    {x : Str} {u : Value} {fI : Addr} {Q : Fin → Shared → Prop}
    (hC : hp.get? C = some (excClassObj nm qn C N bs bm hdct sn sub ab col dd k0 k1 k2 k3 k5 newId))
    (hi : W.Looks (model prog w) hp (typeLookup (.ref C) "__init__") (some (.ref fI)))
    (hb : ∀ self, W.Looks (model prog w) hp (bindSpecial (.ref fI) self) (.ref fI, [self]))
    (hq : codeAny (model prog w) A (.call (.ref fI) ⟨[.ref (hp.objs.size + 1)], [(x, u)]⟩)
      (fun r s' => match r with
        | .ok (.ret v) => v = .none ∧ Q (.done (.ret (.ref (hp.objs.size + 1)))) s'
        | .ok _ => False
        | .error e => E e s') ⟨born hp C, gs, dr, tk, os⟩) :
    wpAny (model prog w) A (Builtin.«type.__call__» ⟨[.ref C], [(x, u)]⟩) Q E ⟨hp, gs, dr, tk, os⟩ := by
  repeat (first | with_reducible refine wpAny_loadPart_at hC ?_ | with_reducible refine wpAny_madeBy_exc hC ?_ | wp_step)
  refine codeAny_call_builtin_code (Code.quiet_builtin _ F.quiet) (new_check F hT hC ?_)
  refine new_kw F hT hC ?_
  show wpAny _ _ _ _ _ _
  have keep : ∀ b o, hp.get? b = some o → (born hp C).get? b = some o :=
    fun b o z => Heap.get?_push_of_some _ (Heap.get?_push_of_some _ z)
  have hC2 := keep _ _ hC
  have self2 : (born hp C).get? (hp.objs.size + 1) = some (excO C hp.objs.size) := by heap_get
  have isC : (Value.ref C :: bm).contains (.ref C) = true := by simp
  have hi2 := hi.keeps keep
  have hb2 := (hb (.ref (hp.objs.size + 1))).keeps keep
  unfold isInstance
  repeat (first
    | with_reducible refine wpAny_loadPart_at self2 ?_
    | (with_reducible refine wpAny_isSubtype_exc hC2 ?_; rw [isC])
    | wp_step)
  show wpAny _ _ (typeLookup (.ref C) _) _ _ _
  refine hi2.at ?_
  refine wpAny_holding (wpAny_bind (hb2.at ?_))
  refine wpAny_bind (wpAny_call (codeAny_mono hq ?_))
  intro r s' z
  rcases r with e | (v | _ | _ | _) <;> first | exact z | exact False.elim z | skip
  obtain ⟨rfl, z2⟩ := z
  first
    | exact wpAny_pure (wpAny_pure z2)
    | (wp_walk; exact z2)

theorem call_kw (F : ExcBaseFacts B newId initId tl) (hT : ∀ Y : String, bm.contains (.type Y) = tl.contains (.type Y))
    {x : Str} {u : Value} {fI : Addr}
    (hC : hp.get? C = some (excClassObj nm qn C N bs bm hdct sn sub ab col dd k0 k1 k2 k3 k5 newId))
    (hi : W.Looks (model prog w) hp (typeLookup (.ref C) "__init__") (some (.ref fI)))
    (hb : ∀ self, W.Looks (model prog w) hp (bindSpecial (.ref fI) self) (.ref fI, [self]))
    (hq : codeAny (model prog w) (A.under (.builtin "type.__call__" ⟨[.ref C], [(x, u)]⟩))
      (.call (.ref fI) ⟨[.ref (hp.objs.size + 1)], [(x, u)]⟩) (W.InitBack (hp.objs.size + 1) R) ⟨born hp C, gs, dr, tk, os⟩) :
    codeAny (model prog w) A (.call (.ref C) ⟨[], [(x, u)]⟩) R ⟨hp, gs, dr, tk, os⟩ := by
  have l1 := tc_lookup
  have l2 := tc_bind (.ref C)
  have ty : (⟨hp, gs, dr, tk, os⟩ : Shared).TypeIs (.ref C) "type" := ⟨_, hC, rfl⟩
  refine codeAny_of_tree ?_
  show wpAny _ _ (callAny (.ref C) _) _ _ _
  repeat (any_goals (first | assumption | with_reducible refine wpAny_loadPart_at hC ?_ | wp_step))
  refine ⟨rfl, ?_⟩
  refine codeAny_call_builtin_at (Code.quiet_builtin _ (by decide +kernel)) entry_typeCall
    (wpAny_check_type_call_sub hC (type_kw F hT hC hi hb ?_))
  refine codeAny_mono hq fun r s' z => ?_
  rcases r with e | (v | _ | _ | _) <;> exact z
end
end SwK

set_option Elab.async false
set_option linter.all false
set_option maxRecDepth 100000
set_option maxHeartbeats 4000000
/-! Own exceptions as values: made with their one field, asked for their class, their field read. -/
namespace Sw
open PySem PySem.Spec PyProof.Rows L2 Builtin Builtin.ObjectAttr

/-- what the written part says of an own exception class over the built-in B -/
structure OxC (K : PySem.W.Frag) (C : Addr) (B newId initId : String) (tl : List Value) : Prop where
  fb : ExcBaseFacts B newId initId tl
  sf : StoreFacts B tl "object.__setattr__" "object"
  q : PySem.W.excInitIn K C tl newId = true
  ov : PySem.W.excOver K C tl = true
  sa : PySem.W.findIn K (.ref C) "__setattr__" = some (some (.builtin "object.__setattr__"))
/-- and for its objects' looks -/
structure OxV (K : PySem.W.Frag) (C : Addr) : Prop where
  hd : PySem.W.hasDictIn K C = true
  ga : PySem.W.findIn K (.ref C) "__getattribute__" = some (some (.builtin "BaseException.__getattribute__"))
  gg : PySem.W.findIn K (.ref C) "__getattr__" = some none
  ex : PySem.W.subIn K (.ref C) (.type "BaseException") = some true
  cl : PySem.W.findIn K (.ref C) "__class__" = some (some (.builtin "object.__class__"))
  gt : PySem.W.specialIn K (.builtin "object.__class__") "__get__" = some (some (.builtin "getset_descriptor.__get__"))
  tk : PySem.W.takesIn K (.builtin "object.__class__") = some true
  mo : PySem.W.mroIn K C (.type "object") = some true

section
variable {X : Cx} {pins : List (Addr × Obj)} {σ : L2.St} {H : Hp} {s : Shared} {a C dx : Addr} {f : Str} {y : V} {u : Value}
  {B newId initId : String} {tl : List Value}

/-- self.f = y at an exception that has no dict yet -/
theorem put1 {Q : Unit → Shared → Prop} {E : Value → Shared → Prop} {A : Around} (T : OxC X.K C B newId initId tl)
    (hdi : PySem.W.hasDictIn X.K C = true)
    (I : L2.Inv X pins σ H s) (e : H a = some (exo a C none)) (hno : PySem.W.findIn X.K (.ref C) f = some none)
    (ry : RelV y u) (h : ∀ dx s', H dx = none → dx ≠ a →
      L2.Inv X pins σ (upd (upd H dx (exd dx [(f, y)])) a (exo a C (some dx))) s' → Q () s') :
    wpAny (model X.prog X.w) A (setAttr (.ref a) f u) Q E s := by
  obtain ⟨t1, ho⟩ := exo_at I.hok e
  obtain ⟨cd, hcl, hcd⟩ := PySem.W.any_some hdi
  obtain ⟨hp, g, d, t, os⟩ := s
  have here : PySem.W.InstAt hp a { cls := .ref C, dict := none, data := .fields #[.ref t1, .none, .none, .none, .bool false, .none] } C none :=
    ⟨ho, rfl, rfl, trivial⟩
  refine PySem.W.set_plain I.kIn here T.sa ?_
  refine PySem.W.osa_openX (r := none) T.sf I.kIn here T.ov (by unfold PySem.W.takerIn; rw [hno]; rfl) fun b => ?_
  show wpAny _ _ (storeInOwnDict (.ref a) (.ref C) (.str f t) f u b) _ _ _
  have hcls : PySem.W.Looks (model X.prog X.w) hp (classData C) cd := PySem.W.looks_clsIn I.kIn hcl
  have hxs : a ≠ hp.objs.size := Nat.ne_of_lt (Heap.lt_size ho)
  obtain ⟨nm, bs, mro, ns, qn, hd, sn, sb, ab, col, del⟩ := cd
  dsimp only at hcd
  subst hcd
  have key : ∀ (h' : Heap) (tk' : Nat), h'.Ns1 hp.objs.size (fun z => if z = f then some u else none) →
      h'.get? a = some { cls := .ref C, dict := some hp.objs.size, data := .fields #[.ref t1, .none, .none, .none, .bool false, .none] } →
      (∀ b o, b ≠ a → hp.get? b = some o → h'.get? b = some o) → Q () ⟨h', g, d, tk', os⟩ := by
    intro h' tk' hn hx k
    have dn : hp.objs.size ≤ hp.objs.size := Nat.le_refl _
    have hnd : H hp.objs.size = none := I.hok.fresh dn
    have nd : ∀ {b : Addr} {o : Obj}, hp.get? b = some o → b ≠ hp.objs.size := fun {b o} q => Nat.ne_of_lt (Heap.lt_size q)
    have na : ∀ {b : Addr}, H b = none → b ≠ a := fun {b} n z => by
      rw [z, e] at n
      cases n
    have U : Un X.fs [] H (upd (upd H hp.objs.size (exd hp.objs.size [(f, y)])) a (exo a C (some hp.objs.size))) hp h' := by
      constructor
      · intro b o q n _ _; exact k b o (na n) q
      · intro b o q n _ _; exact ⟨o.slots, k b o (na n) q⟩
      · intro b o q n _; rw [upd_ne (na n), upd_ne (nd q)]; exact n
      · intro b o q _
        by_cases hb : b = a
        · subst hb; exact ⟨_, hx⟩
        · exact ⟨o, k b o hb q⟩
      · intro b xs q; rw [upd_ne (at_ne e q exo_tup), upd_ne (ne_of_none q hnd)]; exact q
      · intro b o v q; rw [upd_ne (at_ne e q exo_frz), upd_ne (ne_of_none q hnd)]; exact q
      · intro b ps q; exact ⟨#[], by rw [upd_ne (at_ne e q exo_tbl), upd_ne (ne_of_none q hnd), q]; simp⟩
    refine h hp.objs.size _ hnd hxs.symm (I.un (t' := tk') U fun b o q => ?_)
    by_cases hb : b = a
    · subst hb
      rw [upd_same] at q
      cases q
      exact exo_ok hx
    · rw [upd_ne hb] at q
      by_cases hd : b = hp.objs.size
      · subst hd
        rw [upd_same] at q
        cases q
        exact exd_ok hn (relO_put (fs := []) ry fun _ => True.intro)
      · rw [upd_ne hd] at q
        refine (I.hok b o q).stay (fun c v hc z => k c v ?_ z) (fun c hc => ?_) (fun c xs hc => ?_)
        · rcases hc with hc | hc
          · subst hc; exact hb
          · exact at_ne e hc exo_own
        · rw [upd_ne (at_ne e hc exo_own), upd_ne (ne_of_none hc hnd)]; exact hc
        · rw [upd_ne (at_ne e hc exo_tup), upd_ne (ne_of_none hc hnd)]; exact hc
  unfold storeInOwnDict ownDictForStores
  repeat (first
    | with_reducible refine PySem.HandSPX.store_in_new ?_ ?_
    | with_reducible refine wpAny_loadPart_at ho ?_
    | with_reducible refine hcls.at ?_
    | wp_step)
  · exact ⟨_, #[], _, (Heap.get?_update_ne _ _ _ _ hxs.symm).trans (Heap.get?_push_at rfl rfl), rfl, fun z hz => absurd hz (by simp), fun _ => rfl⟩
  · intro h' tk' hn' hs
    have ho2 : (hp.push { cls := .type "dict", data := .dict #[] }).get? a = some { cls := .ref C, data := .fields #[.ref t1, .none, .none, .none, .bool false, .none] } := Heap.get?_push_of_some _ ho
    refine key h' tk' hn' ((hs.2 a hxs).trans (Heap.get?_update_self _ ho2 rfl)) (fun b o hb q => ?_)
    exact (hs.2 b (Nat.ne_of_lt (Heap.lt_size q))).trans ((Heap.get?_update_ne _ _ _ _ hb).trans (Heap.get?_push_of_some _ q))

/-! ### __init__ -/
/-- self.f = e at a fresh exception -/
def tPut (C : Addr) (f : Str) (to te : TE) : TS := fun D σ H => te σ H fun y H1 => to σ H1 fun x H2 =>
  ∃ a, x = .ref a ∧ H2 a = some (exo a C none) ∧
    ∀ dx, H2 dx = none → dx ≠ a → D.nx σ (upd (upd H2 dx (exd dx [(f, y)])) a (exo a C (some dx)))
theorem ps_put {o e : Expr} {to te : TE} {p' pos : Pos} (T : OxC X.K C B newId initId tl)
    (hdi : PySem.W.hasDictIn X.K C = true) (hno : PySem.W.findIn X.K (.ref C) f = some none)
    (ho : PE X o to) (he : PE X e te) (hs : swapsWith e (some (.Attribute o f p')) pos.line X.env = pure false := by rfl) :
    PS X (.Assign [.Attribute o f p'] e pos) (tPut C f to te) := by
  constructor
  intro pins s σ H D I h
  refine plainObj_wpAny_Assign_Attribute (thn (he.run pins s σ H _ I h) ?_) hs
  intro v s1 hv
  obtain ⟨y, H1, I1, r1, q1⟩ := hv
  refine thn (ho.run pins s1 σ H1 _ I1 q1) ?_
  intro u s2 hu
  obtain ⟨x, H2, I2, r2, a, ex, ea, q⟩ := hu
  subst ex
  obtain rfl : u = Value.ref a := r2
  exact put1 T hdi I2 ea hno r1 fun dx s' n ne J => ⟨σ, _, J, q dx n ne⟩

def spIni (C : Addr) (f : Str) : Sp := fun vs H Q _ => ∃ a y, vs = [.ref a, y] ∧ H a = some (exo a C none) ∧
  ∀ dx, H dx = none → dx ≠ a → Q .non (upd (upd H dx (exd dx [(f, y)])) a (exo a C (some dx)))
end

section
variable {P : Program} {w : World} {K : PySem.W.Frag} {mg : Str → Option Value} {base : Heap} {C : Addr}
  {B newId initId : String} {tl : List Value}
theorem ok_ini {f : Str} {qual : Str} {st : Stmt} {fA : Addr} {fd : FuncData} {p1 p2 p3 p4 : Pos}
    (F : Fun K "__init__" qual st fA fd) (S : FnScope ["self", f] ["self", f] (defScope st))
    (hb : defBody st = [.Assign [.Attribute (.Name "self" p1) f p2] (.Name f p3) p4])
    (v0 : Vis (defScope st) "self") (v1 : Vis (defScope st) f) (d1 : (f == ("__debug__" : Str)) = false)
    (d2 : (f == ("__classdict__" : Str)) = false)
    (T : OxC K C B newId initId tl) (hdi : PySem.W.hasDictIn K C = true)
    (hno : PySem.W.findIn K (.ref C) f = some none) :
    FnOk P w K mg base CX0 1 fA fd ["self", f] (spIni C f) := by
  refine F.ok S (fun vs H Q E h => ?_) (fun cdv A outer s H vs Q E hr h => ?_)
  · obtain ⟨a, y, rfl, _⟩ := h
    rfl
  · obtain ⟨a, y, rfl, ha, q⟩ := h
    rw [hb]
    refine ⟨_, pss_one (ps_put T hdi hno (pv 0 (hv := v0)) (pv 1 (hv := v1) (hd := d1) (hcd := d2)) (hs := ?_)), ?_⟩
    · rfl
    · exact ⟨y, rfl, .ref a, rfl, a, rfl, ha, q⟩
end
end Sw

set_option Elab.async false
set_option linter.all false
set_option maxRecDepth 100000
set_option maxHeartbeats 4000000
/-! An own exception made as a value, by position and by name; isinstance of it; its field. -/
namespace Sw
open PySem PySem.Spec PyProof.Rows L2 Builtin Builtin.ObjectAttr

/-- all that a call of the class asks -/
structure OxM (P : Program) (w : World) (K : PySem.W.Frag) (mg : Str → Option Value) (base : Heap) (x f : Str)
    (C fI : Addr) (fd : FuncData) : Prop where
  row : ∃ B newId initId tl, OxC K C B newId initId tl
  v : OxV K C
  g : mg x = some (.ref C)
  kC : PySem.W.keepIn K (.ref C) = true
  iC : PySem.W.findIn K (.ref C) "__init__" = some (some (.ref fI))
  tI : PySem.W.typeIn K (.ref fI) = some (.type "function")
  fn : FnOk P w K mg base CX0 1 fI fd ["self", f] (spIni C f)
  b1 : Binds K fd ["self", f] []
  b2 : ∀ (s : Shared) (a u : Value), BindsTo s fd ⟨[a], [(f, u)]⟩ [("self", a), (f, u)]

section
variable {X : Cx} {pins : List (Addr × Obj)} {σ : L2.St} {H : Hp} {s : Shared} {a C fI : Addr} {fd : FuncData} {x f : Str}

/-- the object as it stands behind -/
def withF (H : Hp) (a d C : Addr) (f : Str) (y : V) : Hp := upd (upd H d (exd d [(f, y)])) a (exo a C (some d))

theorem over2 {H : Hp} {a d : Addr} {o u v : HO} (h : d ≠ a) : upd (upd (upd H a o) d u) a v = upd (upd H d u) a v := by
  funext b
  unfold upd
  by_cases h1 : b = a
  · rw [if_pos h1, if_pos h1]
  · rw [if_neg h1, if_neg h1, if_neg h1]

/-- the run of C(y) or C(f = y) -/
theorem run_ox {Q : VK} {us : List Value} {u : Value} {y : V} {kws : List (Str × Value)}
    (M : OxM X.prog X.w X.K X.mg X.base x f C fI fd) (hr : Room 2 X.A) (I : L2.Inv X pins σ H s) (ry : RelV y u)
    (how : (us = [u] ∧ kws = []) ∨ (us = [] ∧ kws = [(f, u)]))
    (h : ∀ a d, H a = none → H d = none → d ≠ a → Q (.ref a) (withF H a d C f y)) :
    wpAny (model X.prog X.w) X.A (call (.ref C) us kws) (EP X pins σ Q) X.xe s := by
  obtain ⟨B, newId, initId, tl, T⟩ := M.row
  obtain ⟨hp, g, dr, tk, os⟩ := s
  obtain ⟨nm, N, qn, bs, bm, hdct, sn, sub, ab, col, dd, k0, k1, k2, k3, k5, hC, hT⟩ := PySem.W.excInit_of I.kIn T.q
  have big : hp.objs.size ≤ hp.objs.size + 1 := Nat.le_succ _
  have hn : H (hp.objs.size + 1) = none := I.hok.fresh big
  have goal : ∀ (b1 : Heap), (∀ b o, hp.get? b = some o → b1.get? b = some o) →
      b1.get? (hp.objs.size + 1) = some (PySem.HandSPX.excO C hp.objs.size) →
      ∀ (A' : Around) (args : Args), Room 1 A' → Env0 X.prog X.w X.K X.mg X.base A' X.stack ⟨b1, g, dr, tk, os⟩ (upd H (hp.objs.size + 1) (exo (hp.objs.size + 1) C none)) →
      BindsTo ⟨b1, g, dr, tk, os⟩ fd args ((["self", f] : List Str).zip [.ref (hp.objs.size + 1), u]) →
      L2.Inv X pins σ (upd H (hp.objs.size + 1) (exo (hp.objs.size + 1) C none)) ⟨b1, g, dr, tk, os⟩ →
      codeAny (model X.prog X.w) A' (.call (.ref fI) args)
        (PySem.W.InitBack (hp.objs.size + 1) fun r s' => match r with
          | .ok (.ret v) => EP X pins σ Q v s' | .ok _ => False | .error e => X.xe e s') ⟨b1, g, dr, tk, os⟩ := by
    intro b1 kk hget A' args room e0 bnd J
    have want : spIni C f [.ref (hp.objs.size + 1), y] (upd H (hp.objs.size + 1) (exo (hp.objs.size + 1) C none))
        (fun v H2 => v = .non ∧ Q (.ref (hp.objs.size + 1)) H2) E0 := by
      refine ⟨_, y, rfl, upd_same, fun dx hdx hne => ⟨rfl, ?_⟩⟩
      rw [upd_ne hne] at hdx
      have z := h (hp.objs.size + 1) dx hn hdx hne
      unfold withF at z
      rw [over2 hne]
      exact z
    have run := M.fn.run A' X.stack ⟨b1, g, dr, tk, os⟩ _ args [.ref (hp.objs.size + 1), u] [.ref (hp.objs.size + 1), y] _ E0 room e0 bnd
      (.cons rfl (.cons ry .nil)) want
    refine codeAny_mono run fun r s' z => ?_
    cases r with
    | error er => exact False.elim z
    | ok fl =>
      cases fl with
      | next => exact False.elim z
      | brk => exact False.elim z
      | cont => exact False.elim z
      | ret v =>
        obtain ⟨v', H2, J2, rv, ev, q⟩ := J.after z
        subst ev
        exact ⟨rv, ⟨.ref (hp.objs.size + 1), H2, J2, rfl, q⟩⟩
  have look := PySem.W.looks_findIn (M := model X.prog X.w) I.kIn M.iC
  rcases how with ⟨rfl, rfl⟩ | ⟨rfl, rfl⟩
  · have kk : ∀ b o, hp.get? b = some o → ((hp.push (PySem.W.kdv_tup [u])).push (PySem.HandSPX.excO C hp.objs.size)).get? b = some o :=
      fun b o e => Heap.get?_push_of_some _ (Heap.get?_push_of_some _ e)
    have hget : ((hp.push (PySem.W.kdv_tup [u])).push (PySem.HandSPX.excO C hp.objs.size)).get? (hp.objs.size + 1) = some (PySem.HandSPX.excO C hp.objs.size) := by heap_get
    have J := I.laid (t' := tk) (a := hp.objs.size + 1) (o := exo (hp.objs.size + 1) C none) kk big (exo_ok hget)
    refine wpAny_call (PySem.HandSPX.call_own T.fb hT hC look (fun self => PySem.W.bind_fn I.kIn self M.tI) (by show 1 ≤ sizeLine; decide) ?_)
    refine goal _ kk hget _ ⟨[.ref (hp.objs.size + 1), u], []⟩ (hr.make C [u] []) (J.env0.make C [u] []) ?_ J
    have bb := M.b1 ⟨(hp.push (PySem.W.kdv_tup [u])).push (PySem.HandSPX.excO C hp.objs.size), g, dr, tk, os⟩ [.ref (hp.objs.size + 1), u] J.kIn rfl
    exact bb
  · have kk : ∀ b o, hp.get? b = some o → (SwK.born hp C).get? b = some o :=
      fun b o e => Heap.get?_push_of_some _ (Heap.get?_push_of_some _ e)
    have hget : (SwK.born hp C).get? (hp.objs.size + 1) = some (PySem.HandSPX.excO C hp.objs.size) := by heap_get
    have J := I.laid (t' := tk) (a := hp.objs.size + 1) (o := exo (hp.objs.size + 1) C none) kk big (exo_ok hget)
    refine wpAny_call (SwK.call_kw T.fb hT hC look (fun self => PySem.W.bind_fn I.kIn self M.tI) ?_)
    refine goal _ kk hget _ ⟨[.ref (hp.objs.size + 1)], [(f, u)]⟩ (hr.make C [] [(f, u)]) (J.env0.make C [] [(f, u)]) ?_ J
    exact M.b2 _ _ _

@[irreducible] def tOx (C : Addr) (f : Str) (t : TA) : TE := fun σ H Q => t σ H fun vs H1 => ∃ y, vs = [y] ∧
  ∀ a d, H1 a = none → H1 d = none → d ≠ a → Q (.ref a) (withF H1 a d C f y)

variable {e : Expr} {t : TA} {p pos kpos : Pos}
/-- C(e) -/
theorem pe_ox (M : OxM X.prog X.w X.K X.mg X.base x f C fI fd) (hr : Room 2 X.A) (hg : Gl X x) (he : PA X [e] t)
    (hs : starEach [e] X.env = (false, eval e X.env) :: starEach [] X.env := by rfl)
    (hdb : (x == ("__debug__" : Str)) = false := by decide) : PE X (.Call (.Name x p) [e] [] pos) (tOx C f t) := by
  constructor
  intro pins s σ H Q I h
  unfold tOx at h
  refine wpAny_Call_Name_kw (ld_glob I hg M.g ?_ hdb)
  refine PySem.W.callWith_K (h₀ := X.base) I.ok.mod.kin M.kC ?_ hs (by rfl)
  refine thn (he.run pos pins s σ H _ I h) ?_
  intro us s1 hu
  obtain ⟨vs, H1, I1, r1, y, rfl, q⟩ := hu
  obtain ⟨u, rfl, ru⟩ := vals1 r1
  exact ⟨I1.kIn, run_ox M hr I1 ru (.inl ⟨rfl, rfl⟩) q⟩
/-- C(f = e) -/
theorem pe_oxk {kws : List Keyword} (M : OxM X.prog X.w X.K X.mg X.base x f C fI fd) (hr : Room 2 X.A) (hg : Gl X x) (hkw : PK X kws t)
    (hall : (backToKw pos (keywordEach kws X.env)).all (·.1.isSome) = true := by rfl)
    (hks : (backToKw pos (keywordEach kws X.env)).filterMap (·.1) = [f] := by rfl)
    (hpl : ((backTo pos (starEach [] X.env)).any (·.1) || (backToKw pos (keywordEach kws X.env)).any (·.1.isNone)) = false := by rfl)
    (hdb : (x == ("__debug__" : Str)) = false := by decide) : PE X (.Call (.Name x p) [] kws pos) (tOx C f t) := by
  constructor
  intro pins s σ H Q I h
  unfold tOx at h
  refine wpAny_Call_Name_kw (ld_glob I hg M.g ?_ hdb)
  refine PySem.W.callWith_KW0 (h₀ := X.base) I.ok.mod.kin M.kC hall ?_ hpl
  refine thn (hkw.run pos pins s σ H _ I h) ?_
  intro ws s2 hw
  obtain ⟨zs, H2, I2, rz, y, rfl, q⟩ := hw
  obtain ⟨u, rfl, ru⟩ := vals1 rz
  refine ⟨I2.kIn, ?_⟩
  rw [hks]
  exact run_ox M hr I2 ru (.inr ⟨rfl, rfl⟩) q

/-- C(), a class without an own __init__ -/
theorem pe_ex0 {bmB : List Value} {B newId initId : String} (F : ExcBaseFacts B newId initId bmB)
    (q : PySem.W.excIn X.K C bmB newId = true) (gC : X.mg x = some (.ref C)) (kC : PySem.W.keepIn X.K (.ref C) = true) (hg : Gl X x)
    (hdb : (x == ("__debug__" : Str)) = false := by decide) :
    PE X (.Call (.Name x p) [] [] pos) (fun _ H Q => ∀ a, H a = none → Q (.ref a) (upd H a (ExO (.ref C) a))) := by
  constructor
  intro pins s σ H Q I h
  refine wpAny_Call_Name_kw (ld_glob I hg gC ?_ hdb)
  refine PySem.W.callWith_K0 I.kIn kC ?_
  show wpAny _ _ (call (.ref C) []) _ _ _
  obtain ⟨bm, N, nm, qn, bs, hdct, sn, sub, ab, col, dd, k0, k1, k2, k3, k5, mN, hC, hN, hni, T⟩ := exc_obj I.kIn q
  refine wpAny_call_exc_subT F T hC hN hni (fun h' a hm => ?_) (Nat.zero_le _)
  have hn : H a = none := I.hok.gone hm.new
  obtain ⟨tt, ht, _, _⟩ := hm.there
  exact ⟨.ref a, upd H a (ExO (.ref C) a), I.laidN hm.keeps hm.new hn (exO_ok ht ⟨rfl, rfl⟩ rfl rfl rfl (show 4 < 6 by decide)), rfl, h a hn⟩

/-- an exception object of the class at C stands at a -/
def Exc (H : Hp) (a C : Addr) : Prop := H a = some (ExO (.ref C) a) ∨ ∃ d fs, H a = some (exo a C (some d)) ∧ H d = some (exd d fs)

theorem cls_bound {K : PySem.W.Frag} {D : Addr} {od : Option Obj} (V : OxV K D) :
    PySem.W.findObj K D od "__class__" = some (.bind (.builtin "getset_descriptor.__get__") (.builtin "object.__class__")) := by
  obtain ⟨cd, hc, _⟩ := PySem.W.any_some V.hd
  unfold PySem.W.findObj
  rw [hc, Option.bind_some, V.cl, Option.bind_some]
  simp [V.gt, V.tk]
end

section
variable {prog : Program} {w : World} {A : Around} {E : Value → Shared → Prop} {s : Shared} {K : PySem.W.Frag} {x D : Addr} {ox : Obj} {od : Option Obj}
open PySem.W PySem.Calls
theorem ask_class {Q : Option Value → Shared → Prop} (V : OxV K D) (X : K.In s.heap) (I : PySem.W.InstAt s.heap x ox D od)
    (h : Q (some (.ref D)) { s with toks := s.toks + 1 }) : wpAny (model prog w) A (getAttr? (.ref x) "__class__") Q E s := by
  have found := cls_bound (od := od) V
  obtain ⟨hp, g, d, t, os⟩ := s
  have ty := I.type (M := model prog w)
  have atr := looks_findIn (M := model prog w) X V.ga
  have hook := looks_findIn (M := model prog w) X V.gg
  have fnd := looks_find (M := model prog w) X I found
  have sub : Looks (model prog w) hp (isInstance (.ref x) (.type "BaseException")) true := ty.andThen (looks_subIn X V.ex)
  have n1 : (false && onTheHeap (Value.builtin "BaseException.__getattribute__")) = false := rfl
  have n2 : (Value.builtin "BaseException.__getattribute__" == Value.builtin "object.__getattribute__") = false := by decide +kernel
  have n3 : (onTheHeap (Value.ref D) && Value.builtin "BaseException.__getattribute__" == Value.builtin "object.__getattribute__") = false := by
    rw [n2]; rfl
  unfold getAttr? getAttrBy? getAttrBy
  refine wpAny_bind (wpAny_mkText (wpAny_bind (wpAny_attempt (wpAny_holding (wpAny_bind (ty.at (wpAny_bind (atr.at ?_))))))))
  show wpAny _ _ (if (onTheHeap (Value.ref D) && Value.builtin "BaseException.__getattribute__" == Value.builtin "object.__getattribute__") = true then _ else _) _ _ _
  rw [n3]
  rw [if_neg Bool.false_ne_true]
  unfold getAttrByItsOwn hookBefore
  refine wpAny_bind ?_
  rw [if_pos (show onTheHeap (Value.ref D) = true from rfl)]
  refine hook.at (wpAny_bind (wpAny_attempt (wpAny_holding ?_)))
  unfold callGetattribute
  rw [n1]
  rw [if_neg Bool.false_ne_true]
  unfold boundAndCalled
  rw [PySem.F.excAttr_ValueError.ga.bind (.ref x)]
  refine wpAny_bind (wpAny_pure ?_)
  show wpAny _ _ (call (.builtin "BaseException.__getattribute__") [.ref x, .str "__class__" t]) _ _ _
  refine wpAny_call (codeAny_call_builtin PySem.F.excAttr_ValueError.ga.plain PySem.F.entry_bexc_ga ?_)
  refine @check_slot (model prog w) _ _ ⟨hp, g, d, t + 1, os⟩ "BaseException.__getattribute__" "BaseException" "__getattribute__"
    (.ref x) [.str "__class__" t] [] _ (by decide +kernel) (by decide +kernel) sub (PySem.F.args_bexc_ga (.ref x) (.str "__class__" t)) ?_
  unfold Builtin.«object.__getattribute__»
  refine wpAny_bind (wpAny_of_eq (a := ((Value.ref x : Value), [Value.str "__class__" t])) (by first | rfl | (simp only [slotArgs]; rfl)) ?_)
  refine wpAny_bind (wpAny_pure (wpAny_bind (ty.at (wpAny_bind (fnd.at ?_)))))
  show wpAny _ _ (holding [Value.builtin "object.__class__"] (call (.builtin "getset_descriptor.__get__") [.builtin "object.__class__", .ref x, .ref D]) >>= ret) _ _ _
  refine wpAny_bind (wpAny_holding (wpAny_call (class_get (s := ⟨hp, g, d, t + 1, os⟩) (ox := ox) (od := od) X I V.mo ?_)))
  refine wpAny_pure ?_
  show wpAny _ _ (handedOut (.ref D)) _ _ _
  rw [handedOut_of (v := .ref D) rfl]
  first
    | exact wpAny_pure (wpAny_pure h)
    | exact wpAny_pure h
    | exact wpAny_pure (wpAny_bind (wpAny_pure (wpAny_pure h)))

theorem kit_exc (V : OxV K D) : KitX K (.ref x) (.ref D) (fun h => InstAt h x ox D od) where
  ty := fun _ _ _ I => I.type
  it := fun _ _ X _ => by
    obtain ⟨cdD, hcD, _⟩ := any_some V.hd
    unfold clsIn at hcD
    split at hcD
    · rename_i ho
      intro A' Q' E' s' k q
      unfold isType loadHead
      exact wpAny_bind (wpAny_loadPart (k _ _ (X _ _ ho)) (wpAny_pure q))
    · cases hcD
  ne := fun h tp dd its n sl X htp => by
    obtain ⟨cdD, hcD, _⟩ := any_some V.hd
    refine Bool.eq_false_iff.mpr fun q => ?_
    obtain rfl : D = tp := Value.ref.inj (beq_iff_eq.mp q)
    unfold clsIn at hcD
    split at hcD
    · rename_i ho
      cases (X _ _ ho).symm.trans htp
    · cases hcD
  ca := fun X I k => ask_class V X I k
end

section
variable {X : Cx} {pins : List (Addr × Obj)} {σ : L2.St} {H : Hp} {s : Shared} {a C : Addr}

theorem Exc.inst (I : L2.Inv X pins σ H s) (h : Exc H a C) : ∃ ox od, PySem.W.InstAt s.heap a ox C od := by
  rcases h with h | ⟨d, fs, h1, h2⟩
  · obtain ⟨⟨oe, vs, ho, hz, hd, _⟩, _, _⟩ := I.hok a _ h
    obtain ⟨oc, od, oda, osl⟩ := oe
    obtain ⟨z1, z2⟩ := hz
    dsimp only at z1 z2 hd
    subst z1 z2 hd
    exact ⟨_, none, ho, rfl, rfl, trivial⟩
  · obtain ⟨t1, ho⟩ := exo_at I.hok h1
    obtain ⟨mA, hns, _⟩ := exd_at I.hok h2
    obtain ⟨od, hod, _⟩ := lookIn_ns hns
    exact ⟨_, some od, ho, rfl, rfl, hod⟩

/-- isinstance(e, c) -/
def rIs (K : PySem.W.Frag) : List V → Hp → VK → Prop := fun xs H Q => ∃ (a C : Addr) (c : V) (cv : Value) (b : Bool),
  xs = [.ref a, c] ∧ Exc H a C ∧ OxV K C ∧ (∀ u, RelV c u → u = cv) ∧ PySem.W.kitOne K (.ref C) cv = some b ∧ Q (.bl b) H
theorem call_is : CallR X (.builtin "isinstance") (rIs X.K) := by
  intro pins s σ H xs us Q I r h
  obtain ⟨a, C, c, cv, b, rfl, he, V, hcv, e, q⟩ := h
  obtain ⟨u, v, rfl, ru, rv⟩ := vals2 r
  cases ru
  obtain rfl := hcv _ rv
  obtain ⟨ox, od, J⟩ := he.inst I
  exact PySem.W.kia_one (kit_exc V) I.kIn J e (fun z => nomatch z) fun tk => ⟨.bl b, H, I.kept (t' := tk) fun _ _ z => z, rfl, q⟩

/-- e.f -/
def tExF (K : PySem.W.Frag) (f : Str) (te : TE) : TE := fun σ H Q => te σ H fun x H1 => ∃ (a C d : Addr) (fs : List (Str × V)) (v : V),
  x = .ref a ∧ H1 a = some (exo a C (some d)) ∧ H1 d = some (exd d fs) ∧ OxV K C ∧ PySem.W.findIn K (.ref C) f = some none ∧
  fs.lookup f = some v ∧ Q v H1
theorem pe_exF {e : Expr} {te : TE} {pos : Pos} {f : Str} (he : PE X e te)
    (hb : attributeBase e f X.env (eval e X.env) = eval e X.env := by rfl) : PE X (.Attribute e f pos) (tExF X.K f te) := by
  constructor
  intro pins s σ H Q I h
  refine attr_of hb (thn (he.run pins s σ H _ I h) ?_)
  intro u s1 hh
  obtain ⟨x, H1, I1, rx, a, C, d, fs, v, ex, ea, ed, V, hno, l, q⟩ := hh
  subst ex
  obtain rfl : u = Value.ref a := rx
  obtain ⟨t1, ho⟩ := exo_at I1.hok ea
  obtain ⟨mA, hns, rel⟩ := exd_at I1.hok ed
  obtain ⟨od, hod, look⟩ := lookIn_ns hns
  obtain ⟨u, hu, ru⟩ := RelO.some_of (v := v) (o := mA f) (by rw [← l]; exact rel f)
  have J : PySem.W.InstAt s1.heap a _ C (some od) := ⟨ho, rfl, rfl, hod⟩
  exact HandSPX.exc_get I1.kIn J V.ga V.gg V.ex (PySem.W.findObj_own V.hd hno rfl (by rw [look, hu])) (handed_of ru) ⟨v, H1, I1.tok _, ru, q⟩
end
end Sw

set_option Elab.async false
set_option linter.all false
set_option maxRecDepth 100000
set_option maxHeartbeats 4000000
/-! The end of a law whose def is called where no guard stands. -/
namespace Sw
open PySem PySem.Spec PyProof.Rows L2

theorem endG {P : Program} {w : World} {K : PySem.W.Frag} {mg mb : Str → Option Value} {k : Nat} {fa a : Addr} {fd : FuncData} {x : Str} {sp : Sp}
    {st : Shared} {vs : List Value} {ns : List Int} (KX : K.In st.heap) (gl : st.heap.Ns mainGlobals mg) (bl : st.heap.Ns builtinsNs mb)
    (bb : ∀ x : Str, x ≠ "__name__" → mb x = bootBuiltins x) (lim : st.heap.NoLimit) (gens : st.gens = #[])
    (obj : st.heap.get? a = some { cls := .type "list", data := .seq vs.toArray }) (areInts : IntsAre vs ns) (small : ns.length ≤ sizeLine) (hr : Room k callerA)
    (F : ∀ base : Heap, K.In base → base.Ns mainGlobals mg → FnG P w K mg base k fa fd [x] sp)
    (bind : ∀ (s : Shared) (u : Value), BindsTo s fd ⟨[u], []⟩ [(x, u)])
    (want : ∀ H : Hp, Only H → SqL K H a (ns.map V.int) → sp [.ref a] H (fun v _ => v = .bl true) E0) :
    codeAny (model P w) callerA (.call (.ref fa) ⟨[.ref a], []⟩)
      (fun r s' => r = .ok (.ret (.bool true)) ∧ OldK st.heap s'.heap ∧ s'.os = st.os ∧ AllBare s'.gens) st := by
  have rel := vals_ints areInts
  have count := areInts.length
  have main : ∀ H : Hp, Only H → SqL K H a (ns.map V.int) → HOk P w H st.heap → (∀ b, H b ≠ none → b = a) → (H a ≠ none → K.lookup a = none) →
      codeAny (model P w) callerA (.call (.ref fa) ⟨[.ref a], []⟩)
        (fun r s' => r = .ok (.ret (.bool true)) ∧ OldK st.heap s'.heap ∧ s'.os = st.os ∧ AllBare s'.gens) st := by
    intro H only seq ok alone notK
    have isA : ∀ {b : Addr} {u : HO}, H b = some u → b = a := fun {b u} z => alone b (by rw [z]; simp)
    have dictFree : ∀ {b : Addr} {o : Obj} {es : Array DictEntry} {ep : Nat}, st.heap.get? b = some o → o.data = .dict es ep → H b = none := by
      intro b o es ep z dz
      cases q : H b with
      | none => rfl
      | some u =>
        obtain rfl := isA q
        rw [obj] at z
        cases z
        cases dz
    have ns2 : ∀ {b : Addr} {m : Str → Option Value}, st.heap.Ns b m → (hidT st.heap H).Ns b m := by
      rintro b m ⟨o, es, ep, z, dz, r⟩
      exact ⟨o, es, ep, hidT_get z (dictFree z dz), dz, r⟩
    have KB : K.In (hidT st.heap H) := by
      intro b o z
      refine hidT_get (KX b o z) ?_
      cases q : H b with
      | none => rfl
      | some u =>
        obtain rfl := isA q
        rw [notK (by rw [q]; simp)] at z
        cases z
    have md : Mod K mg (hidT st.heap H) := ⟨KB, ns2 gl, ⟨mb, ns2 bl, bb⟩, let ⟨mc, z1, z2⟩ := lim; ⟨mc, ns2 z1, z2⟩⟩
    have e0 : Env0 P w K mg (hidT st.heap H) callerA [] st H :=
      ⟨rfl, md, fun b o z => of_hidT z, Nat.le_of_eq (hidT_size _ _), trivial, fun b z => absurd (show b ∈ ([] : List Addr) from z) (by simp), ok, .of_eq gens⟩
    have run := (F _ KB (ns2 gl)).go callerA [] st H ⟨[.ref a], []⟩ [.ref a] [.ref a] _ E0 hr rfl e0 (bind st (.ref a)) (.cons rfl .nil) (want H only seq)
    refine codeAny_mono run ?_
    intro r s' z
    cases r with
    | error e => exact False.elim z
    | ok fl =>
      cases fl with
      | next => exact False.elim z
      | brk => exact False.elim z
      | cont => exact False.elim z
      | ret u =>
        obtain ⟨v, H', os, bare, un, ok', rv, ev⟩ := z
        have ev : v = .bl true := ev
        subst ev
        obtain rfl : u = Value.bool true := rv
        refine ⟨rfl, OldK.of_keep ?_, os, bare⟩
        intro b o z
        cases q : H b with
        | none => exact un.keep b o z q (fun y => absurd (show b ∈ ([] : List Addr) from y) (by simp)) (by simp)
        | some u =>
          rcases only b with y | ⟨ob, xs, y⟩
          · rw [q] at y
            cases y
          · obtain ⟨w1, _⟩ := ok b _ y
            obtain ⟨w2, _⟩ := ok' b _ (un.frzs b ob _ y)
            rw [z] at w1
            cases w1
            exact w2
  cases q : K.lookup a with
  | some o =>
    have z := KX a o q
    rw [obj] at z
    cases z
    refine main (fun _ => none) (fun _ => .inl rfl) (.inr ⟨_, vs.toArray, _, q, rfl, rfl, rfl, by rw [List.size_toArray, count]; exact small, by simpa using rel⟩) ?_ (fun b y => absurd rfl y) (fun y => absurd rfl y)
    intro b u y
    cases (show (none : Option HO) = some u from y)
  | none =>
    let H0 : Hp := fun b => if b = a then some (.frz { cls := .type "list", data := .seq vs.toArray } (.lst (ns.map V.int))) else none
    have at0 : H0 a = some (.frz { cls := .type "list", data := .seq vs.toArray } (.lst (ns.map V.int))) := if_pos rfl
    have off0 : ∀ b, b ≠ a → H0 b = none := fun b hb => if_neg hb
    refine main H0 (fun b => ?_) (.inl (.inr ⟨_, at0⟩)) (fun b u y => ?_) (fun b y => ?_) (fun _ => q)
    · by_cases hb : b = a
      · subst hb
        exact .inr ⟨_, _, at0⟩
      · exact .inl (off0 b hb)
    · by_cases hb : b = a
      · subst hb
        rw [at0] at y
        cases y
        exact ⟨obj, by rw [List.length_map]; exact small, vs, _, rel, obj⟩
      · rw [off0 b hb] at y
        cases y
    · by_cases hb : b = a
      · exact hb
      · exact absurd (off0 b hb) y

/-- the goal that k_head leaves, from the law's promise -/
theorem walkG {l : PySem.W.OpenLaw} {n k : Nat} {q : Program} {loose : List Str} {XP : (Str → Option Value) → Heap → Prop} {YP : World → Heap → Prop} {d : DefRec}
    {K : Params → PySem.W.Frag} {sp : World → Sp} {x : Str} (hn : l.most = some n) (hn2 : n ≤ sizeLine) (hdf : d.params.defaults = []) (hr : Room k callerA)
    (hY : ∀ (w : World) (h : Heap), YP w h → (K w.params).In h)
    (F : ∀ (w : World) (mg : Str → Option Value) (fa : Addr) (h : Heap), (K w.params).In h → h.Ns mainGlobals mg → mg d.name = some (.ref fa) →
      ∃ fd : FuncData, (∀ (s : Shared) (u : Value), BindsTo s fd ⟨[u], []⟩ [(x, u)]) ∧
        ∀ base : Heap, (K w.params).In base → base.Ns mainGlobals mg → FnG l.prog w (K w.params) mg base k fa fd [x] (sp w))
    (want : ∀ (w : World) (H : Hp) (a : Addr) (ns : List Int), ns.length ≤ n → Only H → SqL (K w.params) H a (ns.map V.int) → sp w [.ref a] H (fun v _ => v = .bl true) E0) :
    PySem.W.WalkO q loose XP YP l.row.toRowW d [] (fun f vs => PySem.call f vs) := by
  refine Att.attach_call hn hdf ?_
  intro w s0 s1 mg mb fa o pm cd doc a vs ns G Y ho hd hcd hmg obj areInts len gens
  obtain ⟨fd, bind, hF⟩ := F w mg fa _ (hY w _ Y) G.T.g hmg
  exact endG (hY w _ Y) G.T.g G.T.b G.T.builtins G.T.nolimit gens obj areInts (Nat.le_trans len hn2) hr hF bind (fun H hO hS => want w H a ns len hO hS)
end Sw

set_option Elab.async false
set_option linter.all false
set_option maxRecDepth 100000
set_option maxHeartbeats 4000000
namespace Sw
open PySem PySem.Spec PyProof.Rows L2
abbrev prog1 : Program := PySem.Challenge.pw_switchhills_k01_limits_and_errors
def topS (i : Nat) : Stmt := prog1.main.body.getD i (.Pass ⟨0, 0, 0, 0⟩)
abbrev sJar : Stmt := topS 31
abbrev sDip : Stmt := topS 32
abbrev sPick : Stmt := topS 33
abbrev sBases : Stmt := topS 34
abbrev sOdd : Stmt := topS 35
abbrev sSorts : Stmt := topS 36
abbrev sPlace : Stmt := topS 37
abbrev sWord : Stmt := topS 38
abbrev sKept : Stmt := topS 39
abbrev sRight : Stmt := topS 40
abbrev sLaw : Stmt := topS 41
theorem scJar : FnScope ["script", "k", "mixed", "cell", "own", "digits"] ["script", "k"] (defScope sJar) :=
  ⟨rfl, rfl, rfl, by decide +kernel, rfl, by decide +kernel, by decide +kernel⟩
theorem scDip : FnScope ["jar", "most", "digit", "seed"] ["jar", "most"] (defScope sDip) :=
  ⟨rfl, rfl, rfl, by decide +kernel, rfl, by decide +kernel, by decide +kernel⟩
theorem scPick : FnScope ["jar", "menu", "at"] ["jar", "menu"] (defScope sPick) :=
  ⟨rfl, rfl, rfl, by decide +kernel, rfl, by decide +kernel, by decide +kernel⟩

/-- a jar stands at j: its digits not below nought -/
def JarAt (H : Hp) (j : Addr) : Prop := ∃ d s c : Int, H j = some (.lst [.int d, .int s, .int c]) ∧ 0 ≤ d

def spJar (K : PySem.W.Frag) : Sp := fun vs H Q _ => ∃ (a : Addr) (ns : List Int) (k : Nat), vs = [.ref a, .int k] ∧
  SqL K H a (ns.map V.int) ∧ ns.length ≤ 63 ∧ k < 63 ∧
  ∀ H' p, Same H H' → H p = none → JarAt H' p → Q (.ref p) H'

section
variable {P : Program} {w : World} {K : PySem.W.Frag} {mg : Str → Option Value} {base : Heap}
structure TxJ (mg : Str → Option Value) : Prop where
  len : mg "len" = none
  int : mg "int" = none
  abs : mg "abs" = none

theorem same_new {H : Hp} {p : Addr} {o : HO} (h : H p = none) : Same H (upd H p o) := fun b x e => by
  rw [upd_ne (ne_of_none e h)]; exact e

theorem ok_jar {f : Addr} {fd : FuncData} (F : Fun K "_law_jar" "_law_jar" sJar f fd) (T : TxJ mg) :
    FnOk P w K mg base CX0 1 f fd ["script", "k"] (spJar K) := by
  refine F.ok scJar (fun vs H Q E h => ?_) (fun cdv A outer s H vs Q E hr h => ?_)
  · obtain ⟨a, ns, k, rfl, _⟩ := h
    rfl
  · obtain ⟨a, ns, k, rfl, hS, hl, hk, q⟩ := h
    refine ⟨_, (pss_cons (ps_set (i := 2) scJar.nd rfl (.inl rfl) (pe_op op_add (pe_op op_mul (pe_op op_mul pe_int (pe_op op_add (pv 1) pe_int)) (pe_op op_add (pv 1) pe_int)) (pe_op op_mul pe_int (pe_callB call_len_seq (by rfl) T.len PySem.boot_len (pa_cons (pv 0) pa_nil)))))
      (pss_cons (ps_for PassesOwn.never rfl (pi_list (pe_slice sl_list (pv 0) po_none (po_some pe_int))) (pg_name (i := 3) scJar.nd rfl (.inl rfl)) (pss_one (ps_set (i := 2) scJar.nd rfl (.inl rfl) (pe_op op_mod (pe_callTy call_int1 (by rfl) T.int (by decide +kernel) (pa_cons (pe_op op_add (pe_op op_mul (pv 2) pe_int) (pv 3)) pa_nil)) pe_int))))
      (pss_cons (ps_set (i := 4) scJar.nd rfl (.inl rfl) (pe_ifExp (pt_cmpR op_lt (pv 1) (pe_callB call_len_seq (by rfl) T.len PySem.boot_len (pa_cons (pv 0) pa_nil)) (nomark _)) (pe_ix ix_list (pv 0) (pv 1) (fun _ _ => rfl)) pe_int))
      (pss_cons (ps_set (i := 5) scJar.nd rfl (.inl rfl) (pe_ifExp (PW.pt (pw_or (pt_cmpR op_lt (pv 4) pe_int (nomark _)) (pw_or1 (pt_cmpR op_ge (pv 4) (pe_op op_pow pe_int pe_int) (nomark _))))) (pe_callB call_abs (by rfl) T.abs (by decide +kernel) (pa_cons (pv 4) pa_nil)) pe_int))
      (pss_one (ps_ret (pe_lst (pa_cons (pv 5) (pa_cons (pe_op op_mod (pe_callTy call_int1 (by rfl) T.int (by decide +kernel) (pa_cons (pe_op op_add (pe_op op_add (pe_op op_mul (pv 2) pe_int) (pe_op op_mul (pv 4) pe_int)) (pe_op op_mul pe_int (pe_op op_add (pv 1) pe_int))) pa_nil)) pe_int) (pa_cons pe_int pa_nil)))))))))), ?_⟩
    refine ⟨_, rfl, _, _, rfl, rfl, _, _, rfl, rfl, .inl ⟨by decide, by decide⟩, _, rfl, _, _, rfl, rfl, _, _, rfl, rfl,
      .inr ⟨by omega, by omega⟩, _, rfl, a, _, rfl, .inl hS, _, _, rfl, rfl, .inl ⟨by decide, by decide⟩, _, _, rfl, rfl, ?_⟩
    refine ⟨_, rfl, 4, rfl, a, ns.map V.int, rfl, hS, fun c nc => ?_⟩
    have s1 : Same H (upd H c (.lst (cutV (ns.map V.int) none (some 4)))) := same_new nc
    have itemInt : ∀ (i : Nat) (x : V), (cutV (ns.map V.int) none (some 4))[i]? = some x → ∃ z, x = V.int z := by
      intro i x hx
      have m1 := List.mem_of_getElem? hx
      unfold cutV at m1
      have m2 := List.mem_of_mem_drop (List.mem_of_mem_take m1)
      obtain ⟨z, _, rfl⟩ := List.mem_map.mp m2
      exact ⟨z, rfl⟩
    refine ⟨c, rfl, ⟨_, .inl (.inl upd_same)⟩, for_list (K := K) (a := c) (xs := cutV (ns.map V.int) none (some 4))
      (fun i σ H2 => ∃ (m : Int) (y : Option V), σ = [some (.ref a), some (.int k), some (.int m), y, none, none] ∧
        H2 = upd H c (.lst (cutV (ns.map V.int) none (some 4))))
      ⟨_, none, rfl, rfl⟩ (fun i σ H2 _ ⟨_, _, _, e⟩ => by rw [e]; exact .inl (.inl upd_same)) ?_ ?_⟩
    · rintro i x σ H2 hx ⟨m, y, rfl, rfl⟩
      obtain ⟨z, rfl⟩ := itemInt i x hx
      refine ⟨_, rfl, _, _, rfl, rfl, .inr ⟨by decide, by decide⟩, _, rfl, _, _, rfl, rfl, .inl ⟨_, rfl, _, _, rfl, rfl, (by show (0 : Int) < _; decide), ?_⟩⟩
      exact ⟨_, _, rfl, rfl⟩
    · rintro σ H2 ⟨m, y, rfl, rfl⟩
      have hS1 := s1.seq hS
      have done : ∀ (H' : Hp) (p : Addr) (d s : Int), Same (upd H c (.lst (cutV (ns.map V.int) none (some 4)))) H' → H' p = none → 0 ≤ d →
          Q (.ref p) (upd H' p (.lst [.int d, .int s, .int 0])) := by
        intro H' p d s sm np hd
        have sm2 := s1.trans (sm.trans (same_new (o := .lst [.int d, .int s, .int 0]) np))
        exact q _ p sm2 ((s1.trans sm).free np) ⟨d, s, 0, upd_same, hd⟩
      have s0 := Same.refl (upd H c (.lst (cutV (ns.map V.int) none (some 4))))
      refine ⟨_, rfl, _, rfl, a, _, rfl, .inl hS1, _, _, rfl, rfl, _, rfl, ite2 (fun e => ?_) (fun e => ?_)⟩
      · have lt : k < ns.length := by
          have e2 := of_decide_eq_true e
          rw [List.length_map] at e2
          omega
        refine ⟨_, rfl, _, rfl, a, _, _, .int ns[k], rfl, rfl, hS1, atI_nat (j := k) (by rw [List.getElem?_map, List.getElem?_eq_getElem lt]; rfl), ?_⟩
        refine ⟨_, rfl, _, _, rfl, rfl, _, rfl, ite2 (fun e1 => ?_) (fun e1 => ⟨_, rfl, _, _, rfl, rfl, ⟨by decide, by decide, by decide⟩, _, _, rfl, rfl, _, rfl, ite2 (fun e2 => ?_) (fun e2 => ?_)⟩)⟩
        · refine ⟨_, rfl, _, rfl, _, rfl, _, rfl, _, _, rfl, rfl, .inr ⟨by decide, by decide⟩, _, rfl, _, _, rfl, rfl, .inr ⟨by decide, by decide⟩, _, _, rfl, rfl, _, rfl, _, _, rfl, rfl, _, _, rfl, rfl, .inl ⟨by decide, by decide⟩, _, _, rfl, rfl, .inl ⟨_, rfl, _, _, rfl, rfl, (by show (0 : Int) < _; decide), (by show 3 ≤ sizeLine; decide), fun p np => ?_⟩⟩
          refine done _ p _ _ s0 np ?_
          split <;> omega
        · refine ⟨_, rfl, _, rfl, _, rfl, _, rfl, _, _, rfl, rfl, .inr ⟨by decide, by decide⟩, _, rfl, _, _, rfl, rfl, .inr ⟨by decide, by decide⟩, _, _, rfl, rfl, _, rfl, _, _, rfl, rfl, _, _, rfl, rfl, .inl ⟨by decide, by decide⟩, _, _, rfl, rfl, .inl ⟨_, rfl, _, _, rfl, rfl, (by show (0 : Int) < _; decide), (by show 3 ≤ sizeLine; decide), fun p np => ?_⟩⟩
          refine done _ p _ _ s0 np ?_
          split <;> omega
        · refine ⟨_, rfl, _, rfl, _, _, rfl, rfl, .inr ⟨by decide, by decide⟩, _, rfl, _, _, rfl, rfl, .inr ⟨by decide, by decide⟩, _, _, rfl, rfl, _, rfl, _, _, rfl, rfl, _, _, rfl, rfl, .inl ⟨by decide, by decide⟩, _, _, rfl, rfl, .inl ⟨_, rfl, _, _, rfl, rfl, (by show (0 : Int) < _; decide), (by show 3 ≤ sizeLine; decide), fun p np => ?_⟩⟩
          exact done _ p _ _ s0 np (Int.le_refl _)
      · refine ⟨_, rfl, _, _, rfl, rfl, _, rfl, ite2 (fun e1 => ?_) (fun e1 => ⟨_, rfl, _, _, rfl, rfl, ⟨by decide, by decide, by decide⟩, _, _, rfl, rfl, _, rfl, ite2 (fun e2 => ?_) (fun e2 => ?_)⟩)⟩
        · exact absurd (of_decide_eq_true e1) (by decide)
        · exact absurd (of_decide_eq_true e2) (by decide)
        · refine ⟨_, rfl, _, rfl, _, _, rfl, rfl, .inr ⟨by decide, by decide⟩, _, rfl, _, _, rfl, rfl, .inr ⟨by decide, by decide⟩, _, _, rfl, rfl, _, rfl, _, _, rfl, rfl, _, _, rfl, rfl, .inl ⟨by decide, by decide⟩, _, _, rfl, rfl, .inl ⟨_, rfl, _, _, rfl, rfl, (by show (0 : Int) < _; decide), (by show 3 ≤ sizeLine; decide), fun p np => ?_⟩⟩
          exact done _ p _ _ s0 np (Int.le_refl _)

/-- the jar at j as it was drawn from -/
def jarAs (d s c : Int) : HO := .lst [.int d, .int s, .int c]
def spDip : Sp := fun vs H Q _ => ∃ (j : Addr) (m d s c : Int), vs = [.ref j, .int m] ∧ H j = some (jarAs d s c) ∧ 0 ≤ d ∧ 0 < m ∧ m < 1000 ∧
  ∀ r d' s' c' : Int, 0 ≤ r → r < m → 0 ≤ d' → Q (.int r) (upd H j (jarAs d' s' c'))
theorem ok_dip {f : Addr} {fd : FuncData} (F : Fun K "_law_dip" "_law_dip" sDip f fd) (T : TxJ mg) :
    FnOk P w K mg base CX0 1 f fd ["jar", "most"] spDip := by
  refine F.ok scDip (fun vs H Q E h => ?_) (fun cdv A outer s H vs Q E hr h => ?_)
  · obtain ⟨j, m, d, s, c, rfl, _⟩ := h
    rfl
  · obtain ⟨j, m, d, s, c, rfl, hj, hd, hm0, hm, q⟩ := h
    refine ⟨_, (pss_cons (ps_asg (pe_op op_add (pe_ix ix_list (pv 0) pe_int (fun _ _ => rfl)) pe_int) (pg_sub (pv 0) pe_int set_list))
      (pss_cons (ps_if (pt_cmpR op_gt (pe_ix ix_list (pv 0) pe_int (fun _ _ => rfl)) pe_int (nomark _)) (pss_cons (ps_set (i := 2) scDip.nd rfl (.inl rfl) (pe_op op_modN (pe_callTy call_int1 (by rfl) T.int (by decide +kernel) (pa_cons (pe_ix ix_list (pv 0) pe_int (fun _ _ => rfl)) pa_nil)) (pv 1)))
      (pss_cons (ps_asg (pe_op op_fdivN (pe_callTy call_int1 (by rfl) T.int (by decide +kernel) (pa_cons (pe_ix ix_list (pv 0) pe_int (fun _ _ => rfl)) pa_nil)) (pv 1)) (pg_sub (pv 0) pe_int set_list))
      (pss_one (ps_ret (pv 2))))) pss_nil)
      (pss_cons (ps_set (i := 3) scDip.nd rfl (.inl rfl) (pe_callTy call_int1 (by rfl) T.int (by decide +kernel) (pa_cons (pe_ix ix_list (pv 0) pe_int (fun _ _ => rfl)) pa_nil)))
      (pss_cons (ps_asg (pe_op op_mod (pe_callTy call_int1 (by rfl) T.int (by decide +kernel) (pa_cons (pe_op op_add (pe_op op_add (pe_op op_mul (pv 3) pe_int) (pe_op op_mul (pe_ix ix_list (pv 0) pe_int (fun _ _ => rfl)) pe_int)) pe_int) pa_nil)) pe_int) (pg_sub (pv 0) pe_int set_list))
      (pss_one (ps_ret (pe_op op_modN (pe_callTy call_int1 (by rfl) T.int (by decide +kernel) (pa_cons (pe_op op_fdiv (pe_ix ix_list (pv 0) pe_int (fun _ _ => rfl)) pe_int) pa_nil)) (pv 1)))))))), ?_⟩
    refine ⟨_, rfl, j, _, 2, .int c, rfl, rfl, .inl (.inl hj), rfl, _, _, rfl, rfl, _, rfl, j, _, _, 2, rfl, rfl, hj, rfl, ?_⟩
    have h1 : (upd H j (jarAs d s (c + 1))) j = some (jarAs d s (c + 1)) := upd_same
    have fin : ∀ (r d' s' c' : Int) (o1 : HO), 0 ≤ r → r < m → 0 ≤ d' → Q (.int r) (upd (upd H j o1) j (jarAs d' s' c')) := by
      intro r d' s' c' o1 a1 a2 a3
      rw [upd_upd]
      exact q r d' s' c' a1 a2 a3
    refine ⟨_, rfl, j, _, 0, .int d, rfl, rfl, .inl (.inl h1), rfl, _, _, rfl, rfl, _, rfl, ite2 (fun e => ?_) (fun e => ?_)⟩
    · have hd2 : 0 < d := of_decide_eq_true e
      refine ⟨_, rfl, j, _, 0, .int d, rfl, rfl, .inl (.inl h1), rfl, .inl ⟨_, rfl, _, rfl, _, _, rfl, rfl, by omega, ?_⟩⟩
      refine ⟨_, rfl, j, _, 0, .int d, rfl, rfl, .inl (.inl h1), rfl, .inl ⟨_, rfl, _, rfl, _, _, rfl, rfl, ⟨by omega, by omega⟩, ?_⟩⟩
      refine ⟨_, rfl, j, _, _, 0, rfl, rfl, h1, rfl, _, rfl, ?_⟩
      have r0 : 0 ≤ d.fmod m := Int.fmod_nonneg_of_pos _ hm0
      have r1 : d.fmod m < m := Int.fmod_lt_of_pos _ hm0
      have r2 : 0 ≤ d.fdiv m := Int.fdiv_nonneg (by omega) (by omega)
      exact fin _ _ s (c + 1) _ r0 r1 r2
    · refine ⟨_, rfl, j, _, 1, .int s, rfl, rfl, .inl (.inl h1), rfl, .inl ⟨_, rfl, ?_⟩⟩
      refine ⟨_, rfl, _, _, rfl, rfl, .inr ⟨by decide, by decide⟩, _, rfl, j, _, 2, .int (c + 1), rfl, rfl, .inl (.inl h1), rfl, _, _, rfl, rfl, .inr ⟨by decide, by decide⟩,
        _, _, rfl, rfl, _, _, rfl, rfl, .inl ⟨_, rfl, _, _, rfl, rfl, (by show (0 : Int) < _; decide), ?_⟩⟩
      refine ⟨_, rfl, j, _, _, 1, rfl, rfl, h1, rfl, ?_⟩
      have h2 : ∀ z : Int, (upd (upd H j (jarAs d s (c + 1))) j (jarAs d z (c + 1))) j = some (jarAs d z (c + 1)) := fun z => upd_same
      refine ⟨_, rfl, j, _, 1, .int _, rfl, rfl, .inl (.inl (h2 _)), rfl, _, _, rfl, rfl, ⟨by decide, by decide⟩, .inl ⟨_, rfl, _, rfl, _, _, rfl, rfl, by omega, ?_⟩⟩
      have r0 : ∀ z : Int, 0 ≤ z.fmod m := fun z => Int.fmod_nonneg_of_pos _ hm0
      have r1 : ∀ z : Int, z.fmod m < m := fun z => Int.fmod_lt_of_pos _ hm0
      exact fin _ d _ (c + 1) _ (r0 _) (r1 _) hd

/-- one of several things -/
def spPick : Sp := fun vs H Q _ => ∃ (j l : Addr) (xs : List V) (d s c : Int), vs = [.ref j, .ref l] ∧ H j = some (jarAs d s c) ∧ 0 ≤ d ∧
  H l = some (.lst xs) ∧ l ≠ j ∧ 0 < xs.length ∧ xs.length < 1000 ∧
  ∀ (v : V) (d' s' c' : Int), v ∈ xs → 0 ≤ d' → Q v (upd H j (jarAs d' s' c'))
theorem ok_pick {f fD : Addr} {fd fdD : FuncData} (F : Fun K "_law_pick" "_law_pick" sPick f fd) (FD : Fun K "_law_dip" "_law_dip" sDip fD fdD)
    (bD : Binds K fdD ["jar", "most"] []) (gD : mg "_law_dip" = some (.ref fD)) (T : TxJ mg) :
    FnOk P w K mg base CX0 2 f fd ["jar", "menu"] spPick := by
  have GD : FnOk P w K mg base CX0 1 fD fdD ["jar", "most"] spDip := ok_dip FD T
  refine F.ok scPick (fun vs H Q E h => ?_) (fun cdv A outer s H vs Q E hr h => ?_)
  · obtain ⟨j, l, xs, d, s, c, rfl, _⟩ := h
    rfl
  · obtain ⟨j, l, xs, d, s, c, rfl, hj, hd, hl, ne, h0, h1, q⟩ := h
    refine ⟨_, (pss_cons (ps_set (i := 2) scPick.nd rfl (.inl rfl) (pe_call GD hr (by rfl) gD FD.kp bD .nil pass0 (pa_cons (pv 0) (pa_cons (pe_callB call_len_seq (by rfl) T.len PySem.boot_len (pa_cons (pv 1) pa_nil)) pa_nil))))
      (pss_one (ps_ret (pe_ix ix_list (pv 1) (pv 2) (fun _ _ => rfl))))), ?_⟩
    refine ⟨_, rfl, _, rfl, l, _, rfl, .inl (.inl (.inl hl)), j, _, d, s, c, rfl, hj, hd, by omega, by omega, fun r d' s' c' a1 a2 a3 => ?_⟩
    obtain ⟨n, rfl⟩ := Int.eq_ofNat_of_zero_le a1
    have lt : n < xs.length := by omega
    have hl2 : (upd H j (jarAs d' s' c')) l = some (.lst xs) := by rw [upd_ne ne]; exact hl
    refine ⟨_, rfl, _, rfl, l, _, _, xs[n], rfl, rfl, .inl (.inl hl2), atI_nat (List.getElem?_eq_getElem lt), ?_⟩
    exact q _ d' s' c' (List.getElem_mem lt) a3

end
end Sw

set_option Elab.async false
set_option linter.all false
set_option maxRecDepth 100000
set_option maxHeartbeats 16000000
namespace Sw
open PySem PySem.Spec PyProof.Rows L2
theorem scBases : FnScope ["e", "found"] ["e"] (defScope sBases) :=
  ⟨rfl, rfl, rfl, by decide +kernel, rfl, by decide +kernel, by decide +kernel⟩
theorem scSorts : FnScope ["e", "found"] ["e"] (defScope sSorts) :=
  ⟨rfl, rfl, rfl, by decide +kernel, rfl, by decide +kernel, by decide +kernel⟩
def nm (i : Nat) : Str := (["InvalidText", "InvalidPart", "InvalidSquare", "InvalidFact", "InvalidIndex", "InvalidWish", "InvalidCommand", "NotABoard", "NotNotes", "NotARanking", "OtherBoard", "SameSetting", "InvalidSizes", "InvalidFacts", "InvalidOrder", "InvalidPeaks", "InvalidWalks", "InvalidRests", "UnknownSetting", "TooMany", "Broken", "NothingToUndo"] : List Str).getD i ""
def fl (i : Nat) : Str := (["given", "given", "given", "given", "given", "given", "given", "given", "given", "given", "given", "given", "index", "index", "index", "index", "index", "index", "given", "given", "index"] : List Str).getD i ""
def bn (i : Nat) : Str := (["WrongValue", "WrongName", "NotPossible"] : List Str).getD i ""
def tn (i : Nat) : String := (["ValueError", "LookupError", "ArithmeticError"] : List String).getD i ""
def kd (i : Nat) : Nat := if i < 18 then 0 else if i = 18 then 1 else 2
/-- what the top has made of the classes -/
structure Tx1 (P : Program) (w : World) (K : PySem.W.Frag) (mg : Str → Option Value) (base : Heap) (C fI : Nat → Addr) (fd : Nat → FuncData) (B : Nat → Addr) : Prop where
  ox : ∀ i, i < 21 → OxM P w K mg base (nm i) (fl i) (C i) (fI i) (fd i)
  g : ∀ i, i < 22 → mg (nm i) = some (.ref (C i))
  gB : ∀ i, i < 3 → mg (bn i) = some (.ref (B i))
  gT : ∀ i, i < 3 → mg (tn i) = none
  v : ∀ i, i < 22 → OxV K (C i)
  vB : ∀ i, i < 3 → OxV K (B i)
  isS : ∀ i j, i < 22 → j < 22 → PySem.W.kitOne K (.ref (C i)) (.ref (C j)) = some (decide (j = i))
  isB : ∀ i j, i < 22 → j < 3 → PySem.W.kitOne K (.ref (C i)) (.ref (B j)) = some (decide (j = kd i))
  isT : ∀ i j, i < 22 → j < 3 → PySem.W.kitOne K (.ref (C i)) (.type (tn j)) = some (decide (j = kd i))
  isBB : ∀ i j, i < 3 → j < 3 → PySem.W.kitOne K (.ref (B i)) (.ref (B j)) = some (decide (j = i))
  isBT : ∀ i j, i < 3 → j < 3 → PySem.W.kitOne K (.ref (B i)) (.type (tn j)) = some (decide (j = i))
  nof : ∀ i, i < 21 → PySem.W.findIn K (.ref (C i)) (fl i) = some none
  isi : mg "isinstance" = none
theorem Exc.same {H H' : Hp} {a C : Addr} (e : Exc H a C) (s : Same H H') : Exc H' a C := by
  rcases e with e | ⟨d, fs, e1, e2⟩
  · exact .inl (s _ _ e)
  · exact .inr ⟨d, fs, s _ _ e1, s _ _ e2⟩
section
variable {P : Program} {w : World} {K : PySem.W.Frag} {mg : Str → Option Value} {base : Heap} {C fI : Nat → Addr} {fd : Nat → FuncData} {B : Nat → Addr}

/-- the class D is told of by its three tests -/
def Told3 (K : PySem.W.Frag) (B : Nat → Addr) (D : Addr) (k : Nat) : Prop := ∀ j, j < 3 →
  PySem.W.kitOne K (.ref D) (.ref (B j)) = some (decide (j = k)) ∧ PySem.W.kitOne K (.ref D) (.type (tn j)) = some (decide (j = k))
theorem read_both {a D : Addr} {j k : Nat} {σ : L2.St} {H : Hp} {Q : VK} (hj : j < 3) (t3 : Told3 K B D k) (he : Exc H a D) (hV : OxV K D)
    (h0 : σ[0]? = some (some (.ref a))) (q : Q (.bl (decide (j = k))) H) :
    tAndV (tCB (rIs K) (tCons (tVar 0) (tCons (tC (.ref (B j))) tNil))) (tCB (rIs K) (tCons (tVar 0) (tCons (tC (.ty (tn j))) tNil))) σ H Q := by
  refine ⟨_, h0, a, D, _, _, _, rfl, he, hV, fun u r => r, (t3 j hj).1, _, rfl, ?_⟩
  by_cases e : j = k
  · rw [if_pos (decide_eq_true e)]
    exact ⟨_, h0, a, D, _, _, _, rfl, he, hV, fun u r => r, (t3 j hj).2, q⟩
  · rw [if_neg (by simpa using e)]
    rw [decide_eq_false e] at q
    exact q
def spBases (K : PySem.W.Frag) (B : Nat → Addr) : Sp := fun vs H Q _ => ∃ (a D : Addr) (k : Nat), vs = [.ref a] ∧ Exc H a D ∧ OxV K D ∧ Told3 K B D k ∧
  ∀ H' p, Same H H' → H p = none → H' p = some (.lst [.bl (decide (0 = k)), .bl (decide (1 = k)), .bl (decide (2 = k))]) → Q (.ref p) H'
theorem ok_bases {f : Addr} {fdf : FuncData} (F : Fun K "_law_bases" "_law_bases" sBases f fdf) (T : Tx1 P w K mg base C fI fd B) :
    FnOk P w K mg base CX0 1 f fdf ["e"] (spBases K B) := by
  refine F.ok scBases (fun vs H Q E h => ?_) (fun cdv A outer s H vs Q E hr h => ?_)
  · obtain ⟨a, D, k, rfl, _⟩ := h
    rfl
  · obtain ⟨a, D, k, rfl, he, hV, t3, q⟩ := h
    refine ⟨_, (pss_cons (ps_set (i := 1) scBases.nd rfl (.inl rfl) (pe_lst (pa_cons (pe_and (pe_callB call_is (by rfl) T.isi (by decide +kernel) (pa_cons (pv 0) (pa_cons (pe_glob (v := .ref (B 0)) (by rfl) (T.gB 0 (by decide) : mg "WrongValue" = some (.ref (B 0))) rfl) pa_nil))) (pe_one (pe_callB call_is (by rfl) T.isi (by decide +kernel) (pa_cons (pv 0) (pa_cons (pe_bltn (v := .ty "ValueError") (by rfl) (T.gT 0 (by decide) : mg "ValueError" = none) (by decide +kernel) rfl) pa_nil))))) pa_nil)))
      (pss_cons (ps_expr (pe_bm PySem.F.plainAttrs_list PySem.F.slot_list_append PySem.F.type_list_append mt_append (pv 1) (pa_cons (pe_and (pe_callB call_is (by rfl) T.isi (by decide +kernel) (pa_cons (pv 0) (pa_cons (pe_glob (v := .ref (B 1)) (by rfl) (T.gB 1 (by decide) : mg "WrongName" = some (.ref (B 1))) rfl) pa_nil))) (pe_one (pe_callB call_is (by rfl) T.isi (by decide +kernel) (pa_cons (pv 0) (pa_cons (pe_bltn (v := .ty "LookupError") (by rfl) (T.gT 1 (by decide) : mg "LookupError" = none) (by decide +kernel) rfl) pa_nil))))) pa_nil)))
      (pss_one (ps_ret (pe_op op_cat (pv 1) (pe_lst (pa_cons (pe_and (pe_callB call_is (by rfl) T.isi (by decide +kernel) (pa_cons (pv 0) (pa_cons (pe_glob (v := .ref (B 2)) (by rfl) (T.gB 2 (by decide) : mg "NotPossible" = some (.ref (B 2))) rfl) pa_nil))) (pe_one (pe_callB call_is (by rfl) T.isi (by decide +kernel) (pa_cons (pv 0) (pa_cons (pe_bltn (v := .ty "ArithmeticError") (by rfl) (T.gT 2 (by decide) : mg "ArithmeticError" = none) (by decide +kernel) rfl) pa_nil))))) pa_nil))))))), ?_⟩
    have one : (L2.start ["e", "found"] [V.ref a])[0]? = some (some (.ref a)) := rfl
    refine read_both (k := k) (j := 0) (by decide) t3 he hV rfl ?_
    refine ⟨by show 1 ≤ sizeLine; decide, fun l nl => ?_⟩
    have s1 : Same H (upd H l (.lst [.bl (decide (0 = k))])) := same_new nl
    refine ⟨_, rfl, .inl ⟨rfl, _, .inl (.inl upd_same)⟩, ?_⟩
    refine read_both (k := k) (j := 1) (by decide) t3 (he.same s1) hV rfl ?_
    refine ⟨l, _, _, rfl, rfl, upd_same, by show 1 < sizeLine; decide, ?_⟩
    rw [upd_upd]
    have s2 : Same H (upd H l (.lst [.bl (decide (0 = k)), .bl (decide (1 = k))])) := same_new nl
    refine ⟨_, rfl, ?_⟩
    refine read_both (k := k) (j := 2) (by decide) t3 (he.same s2) hV rfl ?_
    refine ⟨by show 1 ≤ sizeLine; decide, fun m nm => ?_⟩
    have s3 := same_new (o := .lst [.bl (decide (2 = k))]) nm
    have el := s3 l _ upd_same
    refine ⟨l, m, _, _, rfl, rfl, el, upd_same, by show 2 + 1 ≤ sizeLine; decide, fun p np => ?_⟩
    exact q _ p (s2.trans (s3.trans (same_new np))) ((s2.trans s3).free np) upd_same
theorem read_is {a : Addr} {i j : Nat} {σ : L2.St} {H : Hp} {Q : VK} (hj : j < 22) (hi : i < 22) (T : Tx1 P w K mg base C fI fd B) (he : Exc H a (C i))
    (h0 : σ[0]? = some (some (.ref a))) (q : Q (.bl (decide (j = i))) H) :
    tCB (rIs K) (tCons (tVar 0) (tCons (tC (.ref (C j))) tNil)) σ H Q :=
  ⟨_, h0, a, C i, _, _, _, rfl, he, T.v i hi, fun u r => r, T.isS i j hi hj, q⟩
def spSorts (C : Nat → Addr) : Sp := fun vs H Q _ => ∃ (a : Addr) (i : Nat), vs = [.ref a] ∧ Exc H a (C i) ∧ i < 22 ∧
  ∀ H' p, Same H H' → H p = none → H' p = some (.lst ((List.range 22).map fun j => V.bl (decide (j = i)))) → Q (.ref p) H'
theorem ok_sorts {f : Addr} {fdf : FuncData} (F : Fun K "_law_sorts" "_law_sorts" sSorts f fdf) (T : Tx1 P w K mg base C fI fd B) :
    FnOk P w K mg base CX0 1 f fdf ["e"] (spSorts C) := by
  refine F.ok scSorts (fun vs H Q E h => ?_) (fun cdv A outer s H vs Q E hr h => ?_)
  · obtain ⟨a, i, rfl, _⟩ := h
    rfl
  · obtain ⟨a, i, rfl, he, hi, q⟩ := h
    refine ⟨_, (pss_cons (ps_set (i := 1) scSorts.nd rfl (.inl rfl) (pe_lst (pa_cons (pe_callB call_is (by rfl) T.isi (by decide +kernel) (pa_cons (pv 0) (pa_cons (pe_glob (v := .ref (C 0)) (by rfl) (T.g 0 (by decide) : mg "InvalidText" = some (.ref (C 0))) rfl) pa_nil))) (pa_cons (pe_callB call_is (by rfl) T.isi (by decide +kernel) (pa_cons (pv 0) (pa_cons (pe_glob (v := .ref (C 1)) (by rfl) (T.g 1 (by decide) : mg "InvalidPart" = some (.ref (C 1))) rfl) pa_nil))) (pa_cons (pe_callB call_is (by rfl) T.isi (by decide +kernel) (pa_cons (pv 0) (pa_cons (pe_glob (v := .ref (C 2)) (by rfl) (T.g 2 (by decide) : mg "InvalidSquare" = some (.ref (C 2))) rfl) pa_nil))) pa_nil)))))
      (pss_cons (ps_set (i := 1) scSorts.nd rfl (.inl rfl) (pe_op op_cat (pv 1) (pe_lst (pa_cons (pe_callB call_is (by rfl) T.isi (by decide +kernel) (pa_cons (pv 0) (pa_cons (pe_glob (v := .ref (C 3)) (by rfl) (T.g 3 (by decide) : mg "InvalidFact" = some (.ref (C 3))) rfl) pa_nil))) (pa_cons (pe_callB call_is (by rfl) T.isi (by decide +kernel) (pa_cons (pv 0) (pa_cons (pe_glob (v := .ref (C 4)) (by rfl) (T.g 4 (by decide) : mg "InvalidIndex" = some (.ref (C 4))) rfl) pa_nil))) (pa_cons (pe_callB call_is (by rfl) T.isi (by decide +kernel) (pa_cons (pv 0) (pa_cons (pe_glob (v := .ref (C 5)) (by rfl) (T.g 5 (by decide) : mg "InvalidWish" = some (.ref (C 5))) rfl) pa_nil))) pa_nil))))))
      (pss_cons (ps_set (i := 1) scSorts.nd rfl (.inl rfl) (pe_op op_cat (pv 1) (pe_lst (pa_cons (pe_callB call_is (by rfl) T.isi (by decide +kernel) (pa_cons (pv 0) (pa_cons (pe_glob (v := .ref (C 6)) (by rfl) (T.g 6 (by decide) : mg "InvalidCommand" = some (.ref (C 6))) rfl) pa_nil))) (pa_cons (pe_callB call_is (by rfl) T.isi (by decide +kernel) (pa_cons (pv 0) (pa_cons (pe_glob (v := .ref (C 7)) (by rfl) (T.g 7 (by decide) : mg "NotABoard" = some (.ref (C 7))) rfl) pa_nil))) (pa_cons (pe_callB call_is (by rfl) T.isi (by decide +kernel) (pa_cons (pv 0) (pa_cons (pe_glob (v := .ref (C 8)) (by rfl) (T.g 8 (by decide) : mg "NotNotes" = some (.ref (C 8))) rfl) pa_nil))) pa_nil))))))
      (pss_cons (ps_set (i := 1) scSorts.nd rfl (.inl rfl) (pe_op op_cat (pv 1) (pe_lst (pa_cons (pe_callB call_is (by rfl) T.isi (by decide +kernel) (pa_cons (pv 0) (pa_cons (pe_glob (v := .ref (C 9)) (by rfl) (T.g 9 (by decide) : mg "NotARanking" = some (.ref (C 9))) rfl) pa_nil))) (pa_cons (pe_callB call_is (by rfl) T.isi (by decide +kernel) (pa_cons (pv 0) (pa_cons (pe_glob (v := .ref (C 10)) (by rfl) (T.g 10 (by decide) : mg "OtherBoard" = some (.ref (C 10))) rfl) pa_nil))) (pa_cons (pe_callB call_is (by rfl) T.isi (by decide +kernel) (pa_cons (pv 0) (pa_cons (pe_glob (v := .ref (C 11)) (by rfl) (T.g 11 (by decide) : mg "SameSetting" = some (.ref (C 11))) rfl) pa_nil))) pa_nil))))))
      (pss_cons (ps_set (i := 1) scSorts.nd rfl (.inl rfl) (pe_op op_cat (pv 1) (pe_lst (pa_cons (pe_callB call_is (by rfl) T.isi (by decide +kernel) (pa_cons (pv 0) (pa_cons (pe_glob (v := .ref (C 12)) (by rfl) (T.g 12 (by decide) : mg "InvalidSizes" = some (.ref (C 12))) rfl) pa_nil))) (pa_cons (pe_callB call_is (by rfl) T.isi (by decide +kernel) (pa_cons (pv 0) (pa_cons (pe_glob (v := .ref (C 13)) (by rfl) (T.g 13 (by decide) : mg "InvalidFacts" = some (.ref (C 13))) rfl) pa_nil))) (pa_cons (pe_callB call_is (by rfl) T.isi (by decide +kernel) (pa_cons (pv 0) (pa_cons (pe_glob (v := .ref (C 14)) (by rfl) (T.g 14 (by decide) : mg "InvalidOrder" = some (.ref (C 14))) rfl) pa_nil))) pa_nil))))))
      (pss_cons (ps_set (i := 1) scSorts.nd rfl (.inl rfl) (pe_op op_cat (pv 1) (pe_lst (pa_cons (pe_callB call_is (by rfl) T.isi (by decide +kernel) (pa_cons (pv 0) (pa_cons (pe_glob (v := .ref (C 15)) (by rfl) (T.g 15 (by decide) : mg "InvalidPeaks" = some (.ref (C 15))) rfl) pa_nil))) (pa_cons (pe_callB call_is (by rfl) T.isi (by decide +kernel) (pa_cons (pv 0) (pa_cons (pe_glob (v := .ref (C 16)) (by rfl) (T.g 16 (by decide) : mg "InvalidWalks" = some (.ref (C 16))) rfl) pa_nil))) (pa_cons (pe_callB call_is (by rfl) T.isi (by decide +kernel) (pa_cons (pv 0) (pa_cons (pe_glob (v := .ref (C 17)) (by rfl) (T.g 17 (by decide) : mg "InvalidRests" = some (.ref (C 17))) rfl) pa_nil))) pa_nil))))))
      (pss_cons (ps_set (i := 1) scSorts.nd rfl (.inl rfl) (pe_op op_cat (pv 1) (pe_lst (pa_cons (pe_callB call_is (by rfl) T.isi (by decide +kernel) (pa_cons (pv 0) (pa_cons (pe_glob (v := .ref (C 18)) (by rfl) (T.g 18 (by decide) : mg "UnknownSetting" = some (.ref (C 18))) rfl) pa_nil))) (pa_cons (pe_callB call_is (by rfl) T.isi (by decide +kernel) (pa_cons (pv 0) (pa_cons (pe_glob (v := .ref (C 19)) (by rfl) (T.g 19 (by decide) : mg "TooMany" = some (.ref (C 19))) rfl) pa_nil))) (pa_cons (pe_callB call_is (by rfl) T.isi (by decide +kernel) (pa_cons (pv 0) (pa_cons (pe_glob (v := .ref (C 20)) (by rfl) (T.g 20 (by decide) : mg "Broken" = some (.ref (C 20))) rfl) pa_nil))) pa_nil))))))
      (pss_cons (ps_set (i := 1) scSorts.nd rfl (.inl rfl) (pe_op op_cat (pv 1) (pe_lst (pa_cons (pe_callB call_is (by rfl) T.isi (by decide +kernel) (pa_cons (pv 0) (pa_cons (pe_glob (v := .ref (C 21)) (by rfl) (T.g 21 (by decide) : mg "NothingToUndo" = some (.ref (C 21))) rfl) pa_nil))) pa_nil))))
      (pss_one (ps_ret (pv 1))))))))))), ?_⟩
    refine read_is (i := i) (j := 0) (by decide) hi T (he.same (Same.refl H)) rfl ?_
    refine read_is (i := i) (j := 1) (by decide) hi T (he.same (Same.refl H)) rfl ?_
    refine read_is (i := i) (j := 2) (by decide) hi T (he.same (Same.refl H)) rfl ?_
    refine ⟨by show 3 ≤ sizeLine; decide, fun p0 np0 => ?_⟩
    have s0 := same_new (o := .lst [.bl (decide (0 = i)), .bl (decide (1 = i)), .bl (decide (2 = i))]) np0
    have e0 : ∀ H0 : Hp, (upd H0 p0 (.lst [.bl (decide (0 = i)), .bl (decide (1 = i)), .bl (decide (2 = i))])) p0 = some (.lst [.bl (decide (0 = i)), .bl (decide (1 = i)), .bl (decide (2 = i))]) := fun _ => upd_same
    refine ⟨_, rfl, ?_⟩
    refine read_is (i := i) (j := 3) (by decide) hi T (he.same s0) rfl ?_
    refine read_is (i := i) (j := 4) (by decide) hi T (he.same s0) rfl ?_
    refine read_is (i := i) (j := 5) (by decide) hi T (he.same s0) rfl ?_
    refine ⟨by show 3 ≤ sizeLine; decide, fun l0 nl0 => ?_⟩
    have a0 := s0.trans (same_new (o := .lst [.bl (decide (3 = i)), .bl (decide (4 = i)), .bl (decide (5 = i))]) nl0)
    have b0 := same_new (o := .lst [.bl (decide (3 = i)), .bl (decide (4 = i)), .bl (decide (5 = i))]) nl0 p0 _ (e0 _)
    refine ⟨p0, l0, _, _, rfl, rfl, b0, upd_same, by show 3 + 3 ≤ sizeLine; decide, fun p1 np1 => ?_⟩
    have s1 := a0.trans (same_new (o := .lst (([.bl (decide (0 = i)), .bl (decide (1 = i)), .bl (decide (2 = i))] : List V) ++ [.bl (decide (3 = i)), .bl (decide (4 = i)), .bl (decide (5 = i))])) np1)
    have f1 := a0.free np1
    have e1 : ∀ H0 : Hp, (upd H0 p1 (.lst [.bl (decide (0 = i)), .bl (decide (1 = i)), .bl (decide (2 = i)), .bl (decide (3 = i)), .bl (decide (4 = i)), .bl (decide (5 = i))])) p1 = some (.lst [.bl (decide (0 = i)), .bl (decide (1 = i)), .bl (decide (2 = i)), .bl (decide (3 = i)), .bl (decide (4 = i)), .bl (decide (5 = i))]) := fun _ => upd_same
    refine ⟨_, rfl, ?_⟩
    refine read_is (i := i) (j := 6) (by decide) hi T (he.same s1) rfl ?_
    refine read_is (i := i) (j := 7) (by decide) hi T (he.same s1) rfl ?_
    refine read_is (i := i) (j := 8) (by decide) hi T (he.same s1) rfl ?_
    refine ⟨by show 3 ≤ sizeLine; decide, fun l1 nl1 => ?_⟩
    have a1 := s1.trans (same_new (o := .lst [.bl (decide (6 = i)), .bl (decide (7 = i)), .bl (decide (8 = i))]) nl1)
    have b1 := same_new (o := .lst [.bl (decide (6 = i)), .bl (decide (7 = i)), .bl (decide (8 = i))]) nl1 p1 _ (e1 _)
    refine ⟨p1, l1, _, _, rfl, rfl, b1, upd_same, by show 6 + 3 ≤ sizeLine; decide, fun p2 np2 => ?_⟩
    have s2 := a1.trans (same_new (o := .lst (([.bl (decide (0 = i)), .bl (decide (1 = i)), .bl (decide (2 = i)), .bl (decide (3 = i)), .bl (decide (4 = i)), .bl (decide (5 = i))] : List V) ++ [.bl (decide (6 = i)), .bl (decide (7 = i)), .bl (decide (8 = i))])) np2)
    have f2 := a1.free np2
    have e2 : ∀ H0 : Hp, (upd H0 p2 (.lst [.bl (decide (0 = i)), .bl (decide (1 = i)), .bl (decide (2 = i)), .bl (decide (3 = i)), .bl (decide (4 = i)), .bl (decide (5 = i)), .bl (decide (6 = i)), .bl (decide (7 = i)), .bl (decide (8 = i))])) p2 = some (.lst [.bl (decide (0 = i)), .bl (decide (1 = i)), .bl (decide (2 = i)), .bl (decide (3 = i)), .bl (decide (4 = i)), .bl (decide (5 = i)), .bl (decide (6 = i)), .bl (decide (7 = i)), .bl (decide (8 = i))]) := fun _ => upd_same
    refine ⟨_, rfl, ?_⟩
    refine read_is (i := i) (j := 9) (by decide) hi T (he.same s2) rfl ?_
    refine read_is (i := i) (j := 10) (by decide) hi T (he.same s2) rfl ?_
    refine read_is (i := i) (j := 11) (by decide) hi T (he.same s2) rfl ?_
    refine ⟨by show 3 ≤ sizeLine; decide, fun l2 nl2 => ?_⟩
    have a2 := s2.trans (same_new (o := .lst [.bl (decide (9 = i)), .bl (decide (10 = i)), .bl (decide (11 = i))]) nl2)
    have b2 := same_new (o := .lst [.bl (decide (9 = i)), .bl (decide (10 = i)), .bl (decide (11 = i))]) nl2 p2 _ (e2 _)
    refine ⟨p2, l2, _, _, rfl, rfl, b2, upd_same, by show 9 + 3 ≤ sizeLine; decide, fun p3 np3 => ?_⟩
    have s3 := a2.trans (same_new (o := .lst (([.bl (decide (0 = i)), .bl (decide (1 = i)), .bl (decide (2 = i)), .bl (decide (3 = i)), .bl (decide (4 = i)), .bl (decide (5 = i)), .bl (decide (6 = i)), .bl (decide (7 = i)), .bl (decide (8 = i))] : List V) ++ [.bl (decide (9 = i)), .bl (decide (10 = i)), .bl (decide (11 = i))])) np3)
    have f3 := a2.free np3
    have e3 : ∀ H0 : Hp, (upd H0 p3 (.lst [.bl (decide (0 = i)), .bl (decide (1 = i)), .bl (decide (2 = i)), .bl (decide (3 = i)), .bl (decide (4 = i)), .bl (decide (5 = i)), .bl (decide (6 = i)), .bl (decide (7 = i)), .bl (decide (8 = i)), .bl (decide (9 = i)), .bl (decide (10 = i)), .bl (decide (11 = i))])) p3 = some (.lst [.bl (decide (0 = i)), .bl (decide (1 = i)), .bl (decide (2 = i)), .bl (decide (3 = i)), .bl (decide (4 = i)), .bl (decide (5 = i)), .bl (decide (6 = i)), .bl (decide (7 = i)), .bl (decide (8 = i)), .bl (decide (9 = i)), .bl (decide (10 = i)), .bl (decide (11 = i))]) := fun _ => upd_same
    refine ⟨_, rfl, ?_⟩
    refine read_is (i := i) (j := 12) (by decide) hi T (he.same s3) rfl ?_
    refine read_is (i := i) (j := 13) (by decide) hi T (he.same s3) rfl ?_
    refine read_is (i := i) (j := 14) (by decide) hi T (he.same s3) rfl ?_
    refine ⟨by show 3 ≤ sizeLine; decide, fun l3 nl3 => ?_⟩
    have a3 := s3.trans (same_new (o := .lst [.bl (decide (12 = i)), .bl (decide (13 = i)), .bl (decide (14 = i))]) nl3)
    have b3 := same_new (o := .lst [.bl (decide (12 = i)), .bl (decide (13 = i)), .bl (decide (14 = i))]) nl3 p3 _ (e3 _)
    refine ⟨p3, l3, _, _, rfl, rfl, b3, upd_same, by show 12 + 3 ≤ sizeLine; decide, fun p4 np4 => ?_⟩
    have s4 := a3.trans (same_new (o := .lst (([.bl (decide (0 = i)), .bl (decide (1 = i)), .bl (decide (2 = i)), .bl (decide (3 = i)), .bl (decide (4 = i)), .bl (decide (5 = i)), .bl (decide (6 = i)), .bl (decide (7 = i)), .bl (decide (8 = i)), .bl (decide (9 = i)), .bl (decide (10 = i)), .bl (decide (11 = i))] : List V) ++ [.bl (decide (12 = i)), .bl (decide (13 = i)), .bl (decide (14 = i))])) np4)
    have f4 := a3.free np4
    have e4 : ∀ H0 : Hp, (upd H0 p4 (.lst [.bl (decide (0 = i)), .bl (decide (1 = i)), .bl (decide (2 = i)), .bl (decide (3 = i)), .bl (decide (4 = i)), .bl (decide (5 = i)), .bl (decide (6 = i)), .bl (decide (7 = i)), .bl (decide (8 = i)), .bl (decide (9 = i)), .bl (decide (10 = i)), .bl (decide (11 = i)), .bl (decide (12 = i)), .bl (decide (13 = i)), .bl (decide (14 = i))])) p4 = some (.lst [.bl (decide (0 = i)), .bl (decide (1 = i)), .bl (decide (2 = i)), .bl (decide (3 = i)), .bl (decide (4 = i)), .bl (decide (5 = i)), .bl (decide (6 = i)), .bl (decide (7 = i)), .bl (decide (8 = i)), .bl (decide (9 = i)), .bl (decide (10 = i)), .bl (decide (11 = i)), .bl (decide (12 = i)), .bl (decide (13 = i)), .bl (decide (14 = i))]) := fun _ => upd_same
    refine ⟨_, rfl, ?_⟩
    refine read_is (i := i) (j := 15) (by decide) hi T (he.same s4) rfl ?_
    refine read_is (i := i) (j := 16) (by decide) hi T (he.same s4) rfl ?_
    refine read_is (i := i) (j := 17) (by decide) hi T (he.same s4) rfl ?_
    refine ⟨by show 3 ≤ sizeLine; decide, fun l4 nl4 => ?_⟩
    have a4 := s4.trans (same_new (o := .lst [.bl (decide (15 = i)), .bl (decide (16 = i)), .bl (decide (17 = i))]) nl4)
    have b4 := same_new (o := .lst [.bl (decide (15 = i)), .bl (decide (16 = i)), .bl (decide (17 = i))]) nl4 p4 _ (e4 _)
    refine ⟨p4, l4, _, _, rfl, rfl, b4, upd_same, by show 15 + 3 ≤ sizeLine; decide, fun p5 np5 => ?_⟩
    have s5 := a4.trans (same_new (o := .lst (([.bl (decide (0 = i)), .bl (decide (1 = i)), .bl (decide (2 = i)), .bl (decide (3 = i)), .bl (decide (4 = i)), .bl (decide (5 = i)), .bl (decide (6 = i)), .bl (decide (7 = i)), .bl (decide (8 = i)), .bl (decide (9 = i)), .bl (decide (10 = i)), .bl (decide (11 = i)), .bl (decide (12 = i)), .bl (decide (13 = i)), .bl (decide (14 = i))] : List V) ++ [.bl (decide (15 = i)), .bl (decide (16 = i)), .bl (decide (17 = i))])) np5)
    have f5 := a4.free np5
    have e5 : ∀ H0 : Hp, (upd H0 p5 (.lst [.bl (decide (0 = i)), .bl (decide (1 = i)), .bl (decide (2 = i)), .bl (decide (3 = i)), .bl (decide (4 = i)), .bl (decide (5 = i)), .bl (decide (6 = i)), .bl (decide (7 = i)), .bl (decide (8 = i)), .bl (decide (9 = i)), .bl (decide (10 = i)), .bl (decide (11 = i)), .bl (decide (12 = i)), .bl (decide (13 = i)), .bl (decide (14 = i)), .bl (decide (15 = i)), .bl (decide (16 = i)), .bl (decide (17 = i))])) p5 = some (.lst [.bl (decide (0 = i)), .bl (decide (1 = i)), .bl (decide (2 = i)), .bl (decide (3 = i)), .bl (decide (4 = i)), .bl (decide (5 = i)), .bl (decide (6 = i)), .bl (decide (7 = i)), .bl (decide (8 = i)), .bl (decide (9 = i)), .bl (decide (10 = i)), .bl (decide (11 = i)), .bl (decide (12 = i)), .bl (decide (13 = i)), .bl (decide (14 = i)), .bl (decide (15 = i)), .bl (decide (16 = i)), .bl (decide (17 = i))]) := fun _ => upd_same
    refine ⟨_, rfl, ?_⟩
    refine read_is (i := i) (j := 18) (by decide) hi T (he.same s5) rfl ?_
    refine read_is (i := i) (j := 19) (by decide) hi T (he.same s5) rfl ?_
    refine read_is (i := i) (j := 20) (by decide) hi T (he.same s5) rfl ?_
    refine ⟨by show 3 ≤ sizeLine; decide, fun l5 nl5 => ?_⟩
    have a5 := s5.trans (same_new (o := .lst [.bl (decide (18 = i)), .bl (decide (19 = i)), .bl (decide (20 = i))]) nl5)
    have b5 := same_new (o := .lst [.bl (decide (18 = i)), .bl (decide (19 = i)), .bl (decide (20 = i))]) nl5 p5 _ (e5 _)
    refine ⟨p5, l5, _, _, rfl, rfl, b5, upd_same, by show 18 + 3 ≤ sizeLine; decide, fun p6 np6 => ?_⟩
    have s6 := a5.trans (same_new (o := .lst (([.bl (decide (0 = i)), .bl (decide (1 = i)), .bl (decide (2 = i)), .bl (decide (3 = i)), .bl (decide (4 = i)), .bl (decide (5 = i)), .bl (decide (6 = i)), .bl (decide (7 = i)), .bl (decide (8 = i)), .bl (decide (9 = i)), .bl (decide (10 = i)), .bl (decide (11 = i)), .bl (decide (12 = i)), .bl (decide (13 = i)), .bl (decide (14 = i)), .bl (decide (15 = i)), .bl (decide (16 = i)), .bl (decide (17 = i))] : List V) ++ [.bl (decide (18 = i)), .bl (decide (19 = i)), .bl (decide (20 = i))])) np6)
    have f6 := a5.free np6
    have e6 : ∀ H0 : Hp, (upd H0 p6 (.lst [.bl (decide (0 = i)), .bl (decide (1 = i)), .bl (decide (2 = i)), .bl (decide (3 = i)), .bl (decide (4 = i)), .bl (decide (5 = i)), .bl (decide (6 = i)), .bl (decide (7 = i)), .bl (decide (8 = i)), .bl (decide (9 = i)), .bl (decide (10 = i)), .bl (decide (11 = i)), .bl (decide (12 = i)), .bl (decide (13 = i)), .bl (decide (14 = i)), .bl (decide (15 = i)), .bl (decide (16 = i)), .bl (decide (17 = i)), .bl (decide (18 = i)), .bl (decide (19 = i)), .bl (decide (20 = i))])) p6 = some (.lst [.bl (decide (0 = i)), .bl (decide (1 = i)), .bl (decide (2 = i)), .bl (decide (3 = i)), .bl (decide (4 = i)), .bl (decide (5 = i)), .bl (decide (6 = i)), .bl (decide (7 = i)), .bl (decide (8 = i)), .bl (decide (9 = i)), .bl (decide (10 = i)), .bl (decide (11 = i)), .bl (decide (12 = i)), .bl (decide (13 = i)), .bl (decide (14 = i)), .bl (decide (15 = i)), .bl (decide (16 = i)), .bl (decide (17 = i)), .bl (decide (18 = i)), .bl (decide (19 = i)), .bl (decide (20 = i))]) := fun _ => upd_same
    refine ⟨_, rfl, ?_⟩
    refine read_is (i := i) (j := 21) (by decide) hi T (he.same s6) rfl ?_
    refine ⟨by show 1 ≤ sizeLine; decide, fun l6 nl6 => ?_⟩
    have a6 := s6.trans (same_new (o := .lst [.bl (decide (21 = i))]) nl6)
    have b6 := same_new (o := .lst [.bl (decide (21 = i))]) nl6 p6 _ (e6 _)
    refine ⟨p6, l6, _, _, rfl, rfl, b6, upd_same, by show 21 + 1 ≤ sizeLine; decide, fun p7 np7 => ?_⟩
    have s7 := a6.trans (same_new (o := .lst (([.bl (decide (0 = i)), .bl (decide (1 = i)), .bl (decide (2 = i)), .bl (decide (3 = i)), .bl (decide (4 = i)), .bl (decide (5 = i)), .bl (decide (6 = i)), .bl (decide (7 = i)), .bl (decide (8 = i)), .bl (decide (9 = i)), .bl (decide (10 = i)), .bl (decide (11 = i)), .bl (decide (12 = i)), .bl (decide (13 = i)), .bl (decide (14 = i)), .bl (decide (15 = i)), .bl (decide (16 = i)), .bl (decide (17 = i)), .bl (decide (18 = i)), .bl (decide (19 = i)), .bl (decide (20 = i))] : List V) ++ [.bl (decide (21 = i))])) np7)
    have f7 := a6.free np7
    have e7 : ∀ H0 : Hp, (upd H0 p7 (.lst [.bl (decide (0 = i)), .bl (decide (1 = i)), .bl (decide (2 = i)), .bl (decide (3 = i)), .bl (decide (4 = i)), .bl (decide (5 = i)), .bl (decide (6 = i)), .bl (decide (7 = i)), .bl (decide (8 = i)), .bl (decide (9 = i)), .bl (decide (10 = i)), .bl (decide (11 = i)), .bl (decide (12 = i)), .bl (decide (13 = i)), .bl (decide (14 = i)), .bl (decide (15 = i)), .bl (decide (16 = i)), .bl (decide (17 = i)), .bl (decide (18 = i)), .bl (decide (19 = i)), .bl (decide (20 = i)), .bl (decide (21 = i))])) p7 = some (.lst [.bl (decide (0 = i)), .bl (decide (1 = i)), .bl (decide (2 = i)), .bl (decide (3 = i)), .bl (decide (4 = i)), .bl (decide (5 = i)), .bl (decide (6 = i)), .bl (decide (7 = i)), .bl (decide (8 = i)), .bl (decide (9 = i)), .bl (decide (10 = i)), .bl (decide (11 = i)), .bl (decide (12 = i)), .bl (decide (13 = i)), .bl (decide (14 = i)), .bl (decide (15 = i)), .bl (decide (16 = i)), .bl (decide (17 = i)), .bl (decide (18 = i)), .bl (decide (19 = i)), .bl (decide (20 = i)), .bl (decide (21 = i))]) := fun _ => upd_same
    exact ⟨_, rfl, q _ p7 s7 f7 (e7 _)⟩
end
end Sw

set_option Elab.async false
set_option linter.all false
set_option maxRecDepth 100000
set_option maxHeartbeats 16000000
namespace Sw
open PySem PySem.Spec PyProof.Rows L2
theorem scPlace : FnScope ["first", "second", "found"] ["first", "second"] (defScope sPlace) :=
  ⟨rfl, rfl, rfl, by decide +kernel, rfl, by decide +kernel, by decide +kernel⟩
theorem scWord : FnScope ["first", "second", "found"] ["first", "second"] (defScope sWord) :=
  ⟨rfl, rfl, rfl, by decide +kernel, rfl, by decide +kernel, by decide +kernel⟩
section
variable {P : Program} {w : World} {K : PySem.W.Frag} {mg : Str → Option Value} {base : Heap} {C fI : Nat → Addr} {fd : Nat → FuncData} {B : Nat → Addr}
/-- at a: the exception of class n, made with v -/
def MadeAt (C : Nat → Addr) (H : Hp) (n : Nat) (a : Addr) (v : V) : Prop := ∃ d, H a = some (exo a (C n) (some d)) ∧ H d = some (exd d [(fl n, v)])
theorem MadeAt.same {H H' : Hp} {n : Nat} {a : Addr} {v : V} (m : MadeAt C H n a v) (s : Same H H') : MadeAt C H' n a v :=
  let ⟨d, e1, e2⟩ := m; ⟨d, s _ _ e1, s _ _ e2⟩
/-- the exceptions from the n-th class on -/
inductive Made (C : Nat → Addr) (H : Hp) (x y : V) : Nat → List V → Prop
  | nil {n : Nat} : Made C H x y n []
  | cons {n : Nat} {a : Addr} {es : List V} : MadeAt C H n a (if n % 2 = 0 then x else y) → Made C H x y (n + 1) es → Made C H x y n (.ref a :: es)
theorem Made.same {H H' : Hp} {x y : V} (s : Same H H') : ∀ {n : Nat} {es : List V}, Made C H x y n es → Made C H' x y n es
  | _, _, .nil => .nil
  | _, _, .cons m r => .cons (m.same s) (Made.same s r)
theorem Made.append {H : Hp} {x y : V} : ∀ {n : Nat} {es fs : List V}, Made C H x y n es → Made C H x y (n + es.length) fs → Made C H x y n (es ++ fs)
  | _, _, _, .nil, r => r
  | n, _ :: es, fs, .cons m t, r => .cons m (Made.append t (by
      have e : n + 1 + es.length = n + (es.length + 1) := by omega
      rw [e]; exact r))
theorem Made.at {H : Hp} {x y : V} : ∀ {n : Nat} {es : List V} {k : Nat}, Made C H x y n es → k < es.length →
    ∃ a, es[k]? = some (.ref a) ∧ MadeAt C H (n + k) a (if (n + k) % 2 = 0 then x else y)
  | n, _ :: es, 0, .cons m _, _ => ⟨_, rfl, m⟩
  | n, _ :: es, k + 1, .cons _ r, h => by
    obtain ⟨a, e, m⟩ := Made.at (k := k) r (by simpa using h)
    have q : n + 1 + k = n + (k + 1) := by omega
    rw [q] at m
    exact ⟨a, by simpa using e, m⟩

theorem read_ox {i : Nat} {y : V} {σ : L2.St} {s : Nat} {H : Hp} {Q : VK} (h0 : σ[s]? = some (some y))
    (q : ∀ a H', Same H H' → MadeAt C H' i a y → Q (.ref a) H') : tOx (C i) (fl i) (tCons (tVar s) tNil) σ H Q := by
  unfold tOx
  refine ⟨y, h0, y, rfl, fun a d na nd ne => q a _ (fun b o e => ?_) ⟨d, ?_, ?_⟩⟩
  · unfold withF
    rw [upd_ne (ne_of_none e na), upd_ne (ne_of_none e nd)]
    exact e
  · exact upd_same
  · unfold withF
    rw [upd_ne ne, upd_same]
theorem lst_new {xs : List V} {H : Hp} {Q : VK} (hl : xs.length ≤ sizeLine)
    (q : ∀ p H', Same H H' → H p = none → H' p = some (.lst xs) → Q (.ref p) H') :
    xs.length ≤ sizeLine ∧ ∀ p, H p = none → Q (.ref p) (upd H p (.lst xs)) :=
  ⟨hl, fun p np => q p _ (same_new np) np upd_same⟩
theorem cat_new {l b : Addr} {xs zs : List V} {H : Hp} {Q : VK} (h1 : H l = some (.lst xs)) (h2 : H b = some (.lst zs)) (hl : xs.length + zs.length ≤ sizeLine)
    (q : ∀ p H', Same H H' → H p = none → H' p = some (.lst (xs ++ zs)) → Q (.ref p) H') : rCat (.ref l) (.ref b) H Q :=
  ⟨l, b, xs, zs, rfl, rfl, h1, h2, hl, fun p np => q p _ (same_new np) np upd_same⟩

def spMade (C : Nat → Addr) : Sp := fun vs H Q _ => ∃ x y, vs = [x, y] ∧
  ∀ (es : List V) H' p, Same H H' → H p = none → H' p = some (.lst es) → es.length = 21 → Made C H' x y 0 es → Q (.ref p) H'
theorem ok_place {f : Addr} {fdf : FuncData} (F : Fun K "_law_by_place" "_law_by_place" sPlace f fdf) (T : Tx1 P w K mg base C fI fd B) :
    FnOk P w K mg base CX0 3 f fdf ["first", "second"] (spMade C) := by
  refine F.ok scPlace (fun vs H Q E h => ?_) (fun cdv A outer s H vs Q E hr h => ?_)
  · obtain ⟨x, y, rfl, _⟩ := h
    rfl
  · obtain ⟨x, y, rfl, q⟩ := h
    refine ⟨_, (pss_cons (ps_set (i := 2) scPlace.nd rfl (.inl rfl) (pe_lst (pa_cons (pe_ox (x := "InvalidText") (f := "given") (T.ox 0 (by decide)) hr (by rfl) (pa_cons (pv 0) pa_nil)) (pa_cons (pe_ox (x := "InvalidPart") (f := "given") (T.ox 1 (by decide)) hr (by rfl) (pa_cons (pv 1) pa_nil)) (pa_cons (pe_ox (x := "InvalidSquare") (f := "given") (T.ox 2 (by decide)) hr (by rfl) (pa_cons (pv 0) pa_nil)) (pa_cons (pe_ox (x := "InvalidFact") (f := "given") (T.ox 3 (by decide)) hr (by rfl) (pa_cons (pv 1) pa_nil)) pa_nil))))))
      (pss_cons (ps_set (i := 2) scPlace.nd rfl (.inl rfl) (pe_op op_cat (pv 2) (pe_lst (pa_cons (pe_ox (x := "InvalidIndex") (f := "given") (T.ox 4 (by decide)) hr (by rfl) (pa_cons (pv 0) pa_nil)) (pa_cons (pe_ox (x := "InvalidWish") (f := "given") (T.ox 5 (by decide)) hr (by rfl) (pa_cons (pv 1) pa_nil)) (pa_cons (pe_ox (x := "InvalidCommand") (f := "given") (T.ox 6 (by decide)) hr (by rfl) (pa_cons (pv 0) pa_nil)) (pa_cons (pe_ox (x := "NotABoard") (f := "given") (T.ox 7 (by decide)) hr (by rfl) (pa_cons (pv 1) pa_nil)) pa_nil)))))))
      (pss_cons (ps_set (i := 2) scPlace.nd rfl (.inl rfl) (pe_op op_cat (pv 2) (pe_lst (pa_cons (pe_ox (x := "NotNotes") (f := "given") (T.ox 8 (by decide)) hr (by rfl) (pa_cons (pv 0) pa_nil)) (pa_cons (pe_ox (x := "NotARanking") (f := "given") (T.ox 9 (by decide)) hr (by rfl) (pa_cons (pv 1) pa_nil)) (pa_cons (pe_ox (x := "OtherBoard") (f := "given") (T.ox 10 (by decide)) hr (by rfl) (pa_cons (pv 0) pa_nil)) (pa_cons (pe_ox (x := "SameSetting") (f := "given") (T.ox 11 (by decide)) hr (by rfl) (pa_cons (pv 1) pa_nil)) pa_nil)))))))
      (pss_cons (ps_set (i := 2) scPlace.nd rfl (.inl rfl) (pe_op op_cat (pv 2) (pe_lst (pa_cons (pe_ox (x := "InvalidSizes") (f := "index") (T.ox 12 (by decide)) hr (by rfl) (pa_cons (pv 0) pa_nil)) (pa_cons (pe_ox (x := "InvalidFacts") (f := "index") (T.ox 13 (by decide)) hr (by rfl) (pa_cons (pv 1) pa_nil)) (pa_cons (pe_ox (x := "InvalidOrder") (f := "index") (T.ox 14 (by decide)) hr (by rfl) (pa_cons (pv 0) pa_nil)) (pa_cons (pe_ox (x := "InvalidPeaks") (f := "index") (T.ox 15 (by decide)) hr (by rfl) (pa_cons (pv 1) pa_nil)) pa_nil)))))))
      (pss_cons (ps_set (i := 2) scPlace.nd rfl (.inl rfl) (pe_op op_cat (pv 2) (pe_lst (pa_cons (pe_ox (x := "InvalidWalks") (f := "index") (T.ox 16 (by decide)) hr (by rfl) (pa_cons (pv 0) pa_nil)) (pa_cons (pe_ox (x := "InvalidRests") (f := "index") (T.ox 17 (by decide)) hr (by rfl) (pa_cons (pv 1) pa_nil)) (pa_cons (pe_ox (x := "UnknownSetting") (f := "given") (T.ox 18 (by decide)) hr (by rfl) (pa_cons (pv 0) pa_nil)) (pa_cons (pe_ox (x := "TooMany") (f := "given") (T.ox 19 (by decide)) hr (by rfl) (pa_cons (pv 1) pa_nil)) pa_nil)))))))
      (pss_cons (ps_set (i := 2) scPlace.nd rfl (.inl rfl) (pe_op op_cat (pv 2) (pe_lst (pa_cons (pe_ox (x := "Broken") (f := "index") (T.ox 20 (by decide)) hr (by rfl) (pa_cons (pv 0) pa_nil)) pa_nil))))
      (pss_one (ps_ret (pv 2))))))))), ?_⟩
    refine read_ox (i := 0) (y := x) rfl (fun a0 h0 s0 m0 => ?_)
    refine read_ox (i := 1) (y := y) rfl (fun a1 h1 s1 m1 => ?_)
    refine read_ox (i := 2) (y := x) rfl (fun a2 h2 s2 m2 => ?_)
    refine read_ox (i := 3) (y := y) rfl (fun a3 h3 s3 m3 => ?_)
    refine ⟨by show 4 ≤ sizeLine; decide, fun l0 nl0 => ?_⟩
    have sl0 := same_new (o := .lst [V.ref a0, V.ref a1, V.ref a2, V.ref a3]) nl0
    have el0 : ∀ H0 : Hp, (upd H0 l0 (.lst [V.ref a0, V.ref a1, V.ref a2, V.ref a3])) l0 = some (.lst [V.ref a0, V.ref a1, V.ref a2, V.ref a3]) := fun _ => upd_same
    have mk0 : Made C (upd h3 l0 (.lst [V.ref a0, V.ref a1, V.ref a2, V.ref a3])) x y 0 [V.ref a0, V.ref a1, V.ref a2, V.ref a3] := (.cons (m0.same ((((s1).trans s2).trans s3).trans sl0)) (.cons (m1.same (((s2).trans s3).trans sl0)) (.cons (m2.same ((s3).trans sl0)) (.cons (m3.same (sl0)) .nil))))
    have c0 := ((((s0).trans s1).trans s2).trans s3).trans sl0
    have f0 := ((((s0).trans s1).trans s2).trans s3).free nl0
    have ma0 := mk0
    have e0 := el0
    refine ⟨_, rfl, ?_⟩
    refine read_ox (i := 4) (y := x) rfl (fun a4 h4 s4 m4 => ?_)
    refine read_ox (i := 5) (y := y) rfl (fun a5 h5 s5 m5 => ?_)
    refine read_ox (i := 6) (y := x) rfl (fun a6 h6 s6 m6 => ?_)
    refine read_ox (i := 7) (y := y) rfl (fun a7 h7 s7 m7 => ?_)
    refine ⟨by show 4 ≤ sizeLine; decide, fun l1 nl1 => ?_⟩
    have sl1 := same_new (o := .lst [V.ref a4, V.ref a5, V.ref a6, V.ref a7]) nl1
    have el1 : ∀ H0 : Hp, (upd H0 l1 (.lst [V.ref a4, V.ref a5, V.ref a6, V.ref a7])) l1 = some (.lst [V.ref a4, V.ref a5, V.ref a6, V.ref a7]) := fun _ => upd_same
    have mk1 : Made C (upd h7 l1 (.lst [V.ref a4, V.ref a5, V.ref a6, V.ref a7])) x y 4 [V.ref a4, V.ref a5, V.ref a6, V.ref a7] := (.cons (m4.same ((((s5).trans s6).trans s7).trans sl1)) (.cons (m5.same (((s6).trans s7).trans sl1)) (.cons (m6.same ((s7).trans sl1)) (.cons (m7.same (sl1)) .nil))))
    refine ⟨l0, l1, _, _, rfl, rfl, (((((s4).trans s5).trans s6).trans s7).trans sl1) _ _ (e0 _), el1 _, by show 4 + 4 ≤ sizeLine; decide, fun p1 np1 => ?_⟩
    have sp1 := same_new (o := .lst [V.ref a0, V.ref a1, V.ref a2, V.ref a3, V.ref a4, V.ref a5, V.ref a6, V.ref a7]) np1
    have c1 := (c0.trans (((((s4).trans s5).trans s6).trans s7).trans sl1)).trans sp1
    have f1 := (c0.trans (((((s4).trans s5).trans s6).trans s7).trans sl1)).free np1
    have ma1 := ((ma0.same (((((s4).trans s5).trans s6).trans s7).trans sl1)).append (mk1 : Made C _ x y (0 + 4) _)).same sp1
    have e1 : ∀ H0 : Hp, (upd H0 p1 (.lst [V.ref a0, V.ref a1, V.ref a2, V.ref a3, V.ref a4, V.ref a5, V.ref a6, V.ref a7])) p1 = some (.lst [V.ref a0, V.ref a1, V.ref a2, V.ref a3, V.ref a4, V.ref a5, V.ref a6, V.ref a7]) := fun _ => upd_same
    refine ⟨_, rfl, ?_⟩
    refine read_ox (i := 8) (y := x) rfl (fun a8 h8 s8 m8 => ?_)
    refine read_ox (i := 9) (y := y) rfl (fun a9 h9 s9 m9 => ?_)
    refine read_ox (i := 10) (y := x) rfl (fun a10 h10 s10 m10 => ?_)
    refine read_ox (i := 11) (y := y) rfl (fun a11 h11 s11 m11 => ?_)
    refine ⟨by show 4 ≤ sizeLine; decide, fun l2 nl2 => ?_⟩
    have sl2 := same_new (o := .lst [V.ref a8, V.ref a9, V.ref a10, V.ref a11]) nl2
    have el2 : ∀ H0 : Hp, (upd H0 l2 (.lst [V.ref a8, V.ref a9, V.ref a10, V.ref a11])) l2 = some (.lst [V.ref a8, V.ref a9, V.ref a10, V.ref a11]) := fun _ => upd_same
    have mk2 : Made C (upd h11 l2 (.lst [V.ref a8, V.ref a9, V.ref a10, V.ref a11])) x y 8 [V.ref a8, V.ref a9, V.ref a10, V.ref a11] := (.cons (m8.same ((((s9).trans s10).trans s11).trans sl2)) (.cons (m9.same (((s10).trans s11).trans sl2)) (.cons (m10.same ((s11).trans sl2)) (.cons (m11.same (sl2)) .nil))))
    refine ⟨p1, l2, _, _, rfl, rfl, (((((s8).trans s9).trans s10).trans s11).trans sl2) _ _ (e1 _), el2 _, by show 8 + 4 ≤ sizeLine; decide, fun p2 np2 => ?_⟩
    have sp2 := same_new (o := .lst [V.ref a0, V.ref a1, V.ref a2, V.ref a3, V.ref a4, V.ref a5, V.ref a6, V.ref a7, V.ref a8, V.ref a9, V.ref a10, V.ref a11]) np2
    have c2 := (c1.trans (((((s8).trans s9).trans s10).trans s11).trans sl2)).trans sp2
    have f2 := (c1.trans (((((s8).trans s9).trans s10).trans s11).trans sl2)).free np2
    have ma2 := ((ma1.same (((((s8).trans s9).trans s10).trans s11).trans sl2)).append (mk2 : Made C _ x y (0 + 8) _)).same sp2
    have e2 : ∀ H0 : Hp, (upd H0 p2 (.lst [V.ref a0, V.ref a1, V.ref a2, V.ref a3, V.ref a4, V.ref a5, V.ref a6, V.ref a7, V.ref a8, V.ref a9, V.ref a10, V.ref a11])) p2 = some (.lst [V.ref a0, V.ref a1, V.ref a2, V.ref a3, V.ref a4, V.ref a5, V.ref a6, V.ref a7, V.ref a8, V.ref a9, V.ref a10, V.ref a11]) := fun _ => upd_same
    refine ⟨_, rfl, ?_⟩
    refine read_ox (i := 12) (y := x) rfl (fun a12 h12 s12 m12 => ?_)
    refine read_ox (i := 13) (y := y) rfl (fun a13 h13 s13 m13 => ?_)
    refine read_ox (i := 14) (y := x) rfl (fun a14 h14 s14 m14 => ?_)
    refine read_ox (i := 15) (y := y) rfl (fun a15 h15 s15 m15 => ?_)
    refine ⟨by show 4 ≤ sizeLine; decide, fun l3 nl3 => ?_⟩
    have sl3 := same_new (o := .lst [V.ref a12, V.ref a13, V.ref a14, V.ref a15]) nl3
    have el3 : ∀ H0 : Hp, (upd H0 l3 (.lst [V.ref a12, V.ref a13, V.ref a14, V.ref a15])) l3 = some (.lst [V.ref a12, V.ref a13, V.ref a14, V.ref a15]) := fun _ => upd_same
    have mk3 : Made C (upd h15 l3 (.lst [V.ref a12, V.ref a13, V.ref a14, V.ref a15])) x y 12 [V.ref a12, V.ref a13, V.ref a14, V.ref a15] := (.cons (m12.same ((((s13).trans s14).trans s15).trans sl3)) (.cons (m13.same (((s14).trans s15).trans sl3)) (.cons (m14.same ((s15).trans sl3)) (.cons (m15.same (sl3)) .nil))))
    refine ⟨p2, l3, _, _, rfl, rfl, (((((s12).trans s13).trans s14).trans s15).trans sl3) _ _ (e2 _), el3 _, by show 12 + 4 ≤ sizeLine; decide, fun p3 np3 => ?_⟩
    have sp3 := same_new (o := .lst [V.ref a0, V.ref a1, V.ref a2, V.ref a3, V.ref a4, V.ref a5, V.ref a6, V.ref a7, V.ref a8, V.ref a9, V.ref a10, V.ref a11, V.ref a12, V.ref a13, V.ref a14, V.ref a15]) np3
    have c3 := (c2.trans (((((s12).trans s13).trans s14).trans s15).trans sl3)).trans sp3
    have f3 := (c2.trans (((((s12).trans s13).trans s14).trans s15).trans sl3)).free np3
    have ma3 := ((ma2.same (((((s12).trans s13).trans s14).trans s15).trans sl3)).append (mk3 : Made C _ x y (0 + 12) _)).same sp3
    have e3 : ∀ H0 : Hp, (upd H0 p3 (.lst [V.ref a0, V.ref a1, V.ref a2, V.ref a3, V.ref a4, V.ref a5, V.ref a6, V.ref a7, V.ref a8, V.ref a9, V.ref a10, V.ref a11, V.ref a12, V.ref a13, V.ref a14, V.ref a15])) p3 = some (.lst [V.ref a0, V.ref a1, V.ref a2, V.ref a3, V.ref a4, V.ref a5, V.ref a6, V.ref a7, V.ref a8, V.ref a9, V.ref a10, V.ref a11, V.ref a12, V.ref a13, V.ref a14, V.ref a15]) := fun _ => upd_same
    refine ⟨_, rfl, ?_⟩
    refine read_ox (i := 16) (y := x) rfl (fun a16 h16 s16 m16 => ?_)
    refine read_ox (i := 17) (y := y) rfl (fun a17 h17 s17 m17 => ?_)
    refine read_ox (i := 18) (y := x) rfl (fun a18 h18 s18 m18 => ?_)
    refine read_ox (i := 19) (y := y) rfl (fun a19 h19 s19 m19 => ?_)
    refine ⟨by show 4 ≤ sizeLine; decide, fun l4 nl4 => ?_⟩
    have sl4 := same_new (o := .lst [V.ref a16, V.ref a17, V.ref a18, V.ref a19]) nl4
    have el4 : ∀ H0 : Hp, (upd H0 l4 (.lst [V.ref a16, V.ref a17, V.ref a18, V.ref a19])) l4 = some (.lst [V.ref a16, V.ref a17, V.ref a18, V.ref a19]) := fun _ => upd_same
    have mk4 : Made C (upd h19 l4 (.lst [V.ref a16, V.ref a17, V.ref a18, V.ref a19])) x y 16 [V.ref a16, V.ref a17, V.ref a18, V.ref a19] := (.cons (m16.same ((((s17).trans s18).trans s19).trans sl4)) (.cons (m17.same (((s18).trans s19).trans sl4)) (.cons (m18.same ((s19).trans sl4)) (.cons (m19.same (sl4)) .nil))))
    refine ⟨p3, l4, _, _, rfl, rfl, (((((s16).trans s17).trans s18).trans s19).trans sl4) _ _ (e3 _), el4 _, by show 16 + 4 ≤ sizeLine; decide, fun p4 np4 => ?_⟩
    have sp4 := same_new (o := .lst [V.ref a0, V.ref a1, V.ref a2, V.ref a3, V.ref a4, V.ref a5, V.ref a6, V.ref a7, V.ref a8, V.ref a9, V.ref a10, V.ref a11, V.ref a12, V.ref a13, V.ref a14, V.ref a15, V.ref a16, V.ref a17, V.ref a18, V.ref a19]) np4
    have c4 := (c3.trans (((((s16).trans s17).trans s18).trans s19).trans sl4)).trans sp4
    have f4 := (c3.trans (((((s16).trans s17).trans s18).trans s19).trans sl4)).free np4
    have ma4 := ((ma3.same (((((s16).trans s17).trans s18).trans s19).trans sl4)).append (mk4 : Made C _ x y (0 + 16) _)).same sp4
    have e4 : ∀ H0 : Hp, (upd H0 p4 (.lst [V.ref a0, V.ref a1, V.ref a2, V.ref a3, V.ref a4, V.ref a5, V.ref a6, V.ref a7, V.ref a8, V.ref a9, V.ref a10, V.ref a11, V.ref a12, V.ref a13, V.ref a14, V.ref a15, V.ref a16, V.ref a17, V.ref a18, V.ref a19])) p4 = some (.lst [V.ref a0, V.ref a1, V.ref a2, V.ref a3, V.ref a4, V.ref a5, V.ref a6, V.ref a7, V.ref a8, V.ref a9, V.ref a10, V.ref a11, V.ref a12, V.ref a13, V.ref a14, V.ref a15, V.ref a16, V.ref a17, V.ref a18, V.ref a19]) := fun _ => upd_same
    refine ⟨_, rfl, ?_⟩
    refine read_ox (i := 20) (y := x) rfl (fun a20 h20 s20 m20 => ?_)
    refine ⟨by show 1 ≤ sizeLine; decide, fun l5 nl5 => ?_⟩
    have sl5 := same_new (o := .lst [V.ref a20]) nl5
    have el5 : ∀ H0 : Hp, (upd H0 l5 (.lst [V.ref a20])) l5 = some (.lst [V.ref a20]) := fun _ => upd_same
    have mk5 : Made C (upd h20 l5 (.lst [V.ref a20])) x y 20 [V.ref a20] := (.cons (m20.same (sl5)) .nil)
    refine ⟨p4, l5, _, _, rfl, rfl, ((s20).trans sl5) _ _ (e4 _), el5 _, by show 20 + 1 ≤ sizeLine; decide, fun p5 np5 => ?_⟩
    have sp5 := same_new (o := .lst [V.ref a0, V.ref a1, V.ref a2, V.ref a3, V.ref a4, V.ref a5, V.ref a6, V.ref a7, V.ref a8, V.ref a9, V.ref a10, V.ref a11, V.ref a12, V.ref a13, V.ref a14, V.ref a15, V.ref a16, V.ref a17, V.ref a18, V.ref a19, V.ref a20]) np5
    have c5 := (c4.trans ((s20).trans sl5)).trans sp5
    have f5 := (c4.trans ((s20).trans sl5)).free np5
    have ma5 := ((ma4.same ((s20).trans sl5)).append (mk5 : Made C _ x y (0 + 20) _)).same sp5
    have e5 : ∀ H0 : Hp, (upd H0 p5 (.lst [V.ref a0, V.ref a1, V.ref a2, V.ref a3, V.ref a4, V.ref a5, V.ref a6, V.ref a7, V.ref a8, V.ref a9, V.ref a10, V.ref a11, V.ref a12, V.ref a13, V.ref a14, V.ref a15, V.ref a16, V.ref a17, V.ref a18, V.ref a19, V.ref a20])) p5 = some (.lst [V.ref a0, V.ref a1, V.ref a2, V.ref a3, V.ref a4, V.ref a5, V.ref a6, V.ref a7, V.ref a8, V.ref a9, V.ref a10, V.ref a11, V.ref a12, V.ref a13, V.ref a14, V.ref a15, V.ref a16, V.ref a17, V.ref a18, V.ref a19, V.ref a20]) := fun _ => upd_same
    exact ⟨_, rfl, q _ _ _ c5 f5 (e5 _) rfl ma5⟩
theorem ok_word {f : Addr} {fdf : FuncData} (F : Fun K "_law_by_word" "_law_by_word" sWord f fdf) (T : Tx1 P w K mg base C fI fd B) :
    FnOk P w K mg base CX0 3 f fdf ["first", "second"] (spMade C) := by
  refine F.ok scWord (fun vs H Q E h => ?_) (fun cdv A outer s H vs Q E hr h => ?_)
  · obtain ⟨x, y, rfl, _⟩ := h
    rfl
  · obtain ⟨x, y, rfl, q⟩ := h
    refine ⟨_, (pss_cons (ps_set (i := 2) scWord.nd rfl (.inl rfl) (pe_lst (pa_cons (pe_oxk (x := "InvalidText") (f := "given") (T.ox 0 (by decide)) hr (by rfl) (pk_cons (pv 0) pk_nil)) (pa_cons (pe_oxk (x := "InvalidPart") (f := "given") (T.ox 1 (by decide)) hr (by rfl) (pk_cons (pv 1) pk_nil)) (pa_cons (pe_oxk (x := "InvalidSquare") (f := "given") (T.ox 2 (by decide)) hr (by rfl) (pk_cons (pv 0) pk_nil)) pa_nil)))))
      (pss_cons (ps_set (i := 2) scWord.nd rfl (.inl rfl) (pe_op op_cat (pv 2) (pe_lst (pa_cons (pe_oxk (x := "InvalidFact") (f := "given") (T.ox 3 (by decide)) hr (by rfl) (pk_cons (pv 1) pk_nil)) (pa_cons (pe_oxk (x := "InvalidIndex") (f := "given") (T.ox 4 (by decide)) hr (by rfl) (pk_cons (pv 0) pk_nil)) (pa_cons (pe_oxk (x := "InvalidWish") (f := "given") (T.ox 5 (by decide)) hr (by rfl) (pk_cons (pv 1) pk_nil)) pa_nil))))))
      (pss_cons (ps_set (i := 2) scWord.nd rfl (.inl rfl) (pe_op op_cat (pv 2) (pe_lst (pa_cons (pe_oxk (x := "InvalidCommand") (f := "given") (T.ox 6 (by decide)) hr (by rfl) (pk_cons (pv 0) pk_nil)) (pa_cons (pe_oxk (x := "NotABoard") (f := "given") (T.ox 7 (by decide)) hr (by rfl) (pk_cons (pv 1) pk_nil)) (pa_cons (pe_oxk (x := "NotNotes") (f := "given") (T.ox 8 (by decide)) hr (by rfl) (pk_cons (pv 0) pk_nil)) pa_nil))))))
      (pss_cons (ps_set (i := 2) scWord.nd rfl (.inl rfl) (pe_op op_cat (pv 2) (pe_lst (pa_cons (pe_oxk (x := "NotARanking") (f := "given") (T.ox 9 (by decide)) hr (by rfl) (pk_cons (pv 1) pk_nil)) (pa_cons (pe_oxk (x := "OtherBoard") (f := "given") (T.ox 10 (by decide)) hr (by rfl) (pk_cons (pv 0) pk_nil)) (pa_cons (pe_oxk (x := "SameSetting") (f := "given") (T.ox 11 (by decide)) hr (by rfl) (pk_cons (pv 1) pk_nil)) pa_nil))))))
      (pss_cons (ps_set (i := 2) scWord.nd rfl (.inl rfl) (pe_op op_cat (pv 2) (pe_lst (pa_cons (pe_oxk (x := "InvalidSizes") (f := "index") (T.ox 12 (by decide)) hr (by rfl) (pk_cons (pv 0) pk_nil)) (pa_cons (pe_oxk (x := "InvalidFacts") (f := "index") (T.ox 13 (by decide)) hr (by rfl) (pk_cons (pv 1) pk_nil)) (pa_cons (pe_oxk (x := "InvalidOrder") (f := "index") (T.ox 14 (by decide)) hr (by rfl) (pk_cons (pv 0) pk_nil)) pa_nil))))))
      (pss_cons (ps_set (i := 2) scWord.nd rfl (.inl rfl) (pe_op op_cat (pv 2) (pe_lst (pa_cons (pe_oxk (x := "InvalidPeaks") (f := "index") (T.ox 15 (by decide)) hr (by rfl) (pk_cons (pv 1) pk_nil)) (pa_cons (pe_oxk (x := "InvalidWalks") (f := "index") (T.ox 16 (by decide)) hr (by rfl) (pk_cons (pv 0) pk_nil)) (pa_cons (pe_oxk (x := "InvalidRests") (f := "index") (T.ox 17 (by decide)) hr (by rfl) (pk_cons (pv 1) pk_nil)) pa_nil))))))
      (pss_cons (ps_set (i := 2) scWord.nd rfl (.inl rfl) (pe_op op_cat (pv 2) (pe_lst (pa_cons (pe_oxk (x := "UnknownSetting") (f := "given") (T.ox 18 (by decide)) hr (by rfl) (pk_cons (pv 0) pk_nil)) (pa_cons (pe_oxk (x := "TooMany") (f := "given") (T.ox 19 (by decide)) hr (by rfl) (pk_cons (pv 1) pk_nil)) (pa_cons (pe_oxk (x := "Broken") (f := "index") (T.ox 20 (by decide)) hr (by rfl) (pk_cons (pv 0) pk_nil)) pa_nil))))))
      (pss_one (ps_ret (pv 2)))))))))), ?_⟩
    refine read_ox (i := 0) (y := x) rfl (fun a0 h0 s0 m0 => ?_)
    refine read_ox (i := 1) (y := y) rfl (fun a1 h1 s1 m1 => ?_)
    refine read_ox (i := 2) (y := x) rfl (fun a2 h2 s2 m2 => ?_)
    refine ⟨by show 3 ≤ sizeLine; decide, fun l0 nl0 => ?_⟩
    have sl0 := same_new (o := .lst [V.ref a0, V.ref a1, V.ref a2]) nl0
    have el0 : ∀ H0 : Hp, (upd H0 l0 (.lst [V.ref a0, V.ref a1, V.ref a2])) l0 = some (.lst [V.ref a0, V.ref a1, V.ref a2]) := fun _ => upd_same
    have mk0 : Made C (upd h2 l0 (.lst [V.ref a0, V.ref a1, V.ref a2])) x y 0 [V.ref a0, V.ref a1, V.ref a2] := (.cons (m0.same (((s1).trans s2).trans sl0)) (.cons (m1.same ((s2).trans sl0)) (.cons (m2.same (sl0)) .nil)))
    have c0 := (((s0).trans s1).trans s2).trans sl0
    have f0 := (((s0).trans s1).trans s2).free nl0
    have ma0 := mk0
    have e0 := el0
    refine ⟨_, rfl, ?_⟩
    refine read_ox (i := 3) (y := y) rfl (fun a3 h3 s3 m3 => ?_)
    refine read_ox (i := 4) (y := x) rfl (fun a4 h4 s4 m4 => ?_)
    refine read_ox (i := 5) (y := y) rfl (fun a5 h5 s5 m5 => ?_)
    refine ⟨by show 3 ≤ sizeLine; decide, fun l1 nl1 => ?_⟩
    have sl1 := same_new (o := .lst [V.ref a3, V.ref a4, V.ref a5]) nl1
    have el1 : ∀ H0 : Hp, (upd H0 l1 (.lst [V.ref a3, V.ref a4, V.ref a5])) l1 = some (.lst [V.ref a3, V.ref a4, V.ref a5]) := fun _ => upd_same
    have mk1 : Made C (upd h5 l1 (.lst [V.ref a3, V.ref a4, V.ref a5])) x y 3 [V.ref a3, V.ref a4, V.ref a5] := (.cons (m3.same (((s4).trans s5).trans sl1)) (.cons (m4.same ((s5).trans sl1)) (.cons (m5.same (sl1)) .nil)))
    refine ⟨l0, l1, _, _, rfl, rfl, ((((s3).trans s4).trans s5).trans sl1) _ _ (e0 _), el1 _, by show 3 + 3 ≤ sizeLine; decide, fun p1 np1 => ?_⟩
    have sp1 := same_new (o := .lst [V.ref a0, V.ref a1, V.ref a2, V.ref a3, V.ref a4, V.ref a5]) np1
    have c1 := (c0.trans ((((s3).trans s4).trans s5).trans sl1)).trans sp1
    have f1 := (c0.trans ((((s3).trans s4).trans s5).trans sl1)).free np1
    have ma1 := ((ma0.same ((((s3).trans s4).trans s5).trans sl1)).append (mk1 : Made C _ x y (0 + 3) _)).same sp1
    have e1 : ∀ H0 : Hp, (upd H0 p1 (.lst [V.ref a0, V.ref a1, V.ref a2, V.ref a3, V.ref a4, V.ref a5])) p1 = some (.lst [V.ref a0, V.ref a1, V.ref a2, V.ref a3, V.ref a4, V.ref a5]) := fun _ => upd_same
    refine ⟨_, rfl, ?_⟩
    refine read_ox (i := 6) (y := x) rfl (fun a6 h6 s6 m6 => ?_)
    refine read_ox (i := 7) (y := y) rfl (fun a7 h7 s7 m7 => ?_)
    refine read_ox (i := 8) (y := x) rfl (fun a8 h8 s8 m8 => ?_)
    refine ⟨by show 3 ≤ sizeLine; decide, fun l2 nl2 => ?_⟩
    have sl2 := same_new (o := .lst [V.ref a6, V.ref a7, V.ref a8]) nl2
    have el2 : ∀ H0 : Hp, (upd H0 l2 (.lst [V.ref a6, V.ref a7, V.ref a8])) l2 = some (.lst [V.ref a6, V.ref a7, V.ref a8]) := fun _ => upd_same
    have mk2 : Made C (upd h8 l2 (.lst [V.ref a6, V.ref a7, V.ref a8])) x y 6 [V.ref a6, V.ref a7, V.ref a8] := (.cons (m6.same (((s7).trans s8).trans sl2)) (.cons (m7.same ((s8).trans sl2)) (.cons (m8.same (sl2)) .nil)))
    refine ⟨p1, l2, _, _, rfl, rfl, ((((s6).trans s7).trans s8).trans sl2) _ _ (e1 _), el2 _, by show 6 + 3 ≤ sizeLine; decide, fun p2 np2 => ?_⟩
    have sp2 := same_new (o := .lst [V.ref a0, V.ref a1, V.ref a2, V.ref a3, V.ref a4, V.ref a5, V.ref a6, V.ref a7, V.ref a8]) np2
    have c2 := (c1.trans ((((s6).trans s7).trans s8).trans sl2)).trans sp2
    have f2 := (c1.trans ((((s6).trans s7).trans s8).trans sl2)).free np2
    have ma2 := ((ma1.same ((((s6).trans s7).trans s8).trans sl2)).append (mk2 : Made C _ x y (0 + 6) _)).same sp2
    have e2 : ∀ H0 : Hp, (upd H0 p2 (.lst [V.ref a0, V.ref a1, V.ref a2, V.ref a3, V.ref a4, V.ref a5, V.ref a6, V.ref a7, V.ref a8])) p2 = some (.lst [V.ref a0, V.ref a1, V.ref a2, V.ref a3, V.ref a4, V.ref a5, V.ref a6, V.ref a7, V.ref a8]) := fun _ => upd_same
    refine ⟨_, rfl, ?_⟩
    refine read_ox (i := 9) (y := y) rfl (fun a9 h9 s9 m9 => ?_)
    refine read_ox (i := 10) (y := x) rfl (fun a10 h10 s10 m10 => ?_)
    refine read_ox (i := 11) (y := y) rfl (fun a11 h11 s11 m11 => ?_)
    refine ⟨by show 3 ≤ sizeLine; decide, fun l3 nl3 => ?_⟩
    have sl3 := same_new (o := .lst [V.ref a9, V.ref a10, V.ref a11]) nl3
    have el3 : ∀ H0 : Hp, (upd H0 l3 (.lst [V.ref a9, V.ref a10, V.ref a11])) l3 = some (.lst [V.ref a9, V.ref a10, V.ref a11]) := fun _ => upd_same
    have mk3 : Made C (upd h11 l3 (.lst [V.ref a9, V.ref a10, V.ref a11])) x y 9 [V.ref a9, V.ref a10, V.ref a11] := (.cons (m9.same (((s10).trans s11).trans sl3)) (.cons (m10.same ((s11).trans sl3)) (.cons (m11.same (sl3)) .nil)))
    refine ⟨p2, l3, _, _, rfl, rfl, ((((s9).trans s10).trans s11).trans sl3) _ _ (e2 _), el3 _, by show 9 + 3 ≤ sizeLine; decide, fun p3 np3 => ?_⟩
    have sp3 := same_new (o := .lst [V.ref a0, V.ref a1, V.ref a2, V.ref a3, V.ref a4, V.ref a5, V.ref a6, V.ref a7, V.ref a8, V.ref a9, V.ref a10, V.ref a11]) np3
    have c3 := (c2.trans ((((s9).trans s10).trans s11).trans sl3)).trans sp3
    have f3 := (c2.trans ((((s9).trans s10).trans s11).trans sl3)).free np3
    have ma3 := ((ma2.same ((((s9).trans s10).trans s11).trans sl3)).append (mk3 : Made C _ x y (0 + 9) _)).same sp3
    have e3 : ∀ H0 : Hp, (upd H0 p3 (.lst [V.ref a0, V.ref a1, V.ref a2, V.ref a3, V.ref a4, V.ref a5, V.ref a6, V.ref a7, V.ref a8, V.ref a9, V.ref a10, V.ref a11])) p3 = some (.lst [V.ref a0, V.ref a1, V.ref a2, V.ref a3, V.ref a4, V.ref a5, V.ref a6, V.ref a7, V.ref a8, V.ref a9, V.ref a10, V.ref a11]) := fun _ => upd_same
    refine ⟨_, rfl, ?_⟩
    refine read_ox (i := 12) (y := x) rfl (fun a12 h12 s12 m12 => ?_)
    refine read_ox (i := 13) (y := y) rfl (fun a13 h13 s13 m13 => ?_)
    refine read_ox (i := 14) (y := x) rfl (fun a14 h14 s14 m14 => ?_)
    refine ⟨by show 3 ≤ sizeLine; decide, fun l4 nl4 => ?_⟩
    have sl4 := same_new (o := .lst [V.ref a12, V.ref a13, V.ref a14]) nl4
    have el4 : ∀ H0 : Hp, (upd H0 l4 (.lst [V.ref a12, V.ref a13, V.ref a14])) l4 = some (.lst [V.ref a12, V.ref a13, V.ref a14]) := fun _ => upd_same
    have mk4 : Made C (upd h14 l4 (.lst [V.ref a12, V.ref a13, V.ref a14])) x y 12 [V.ref a12, V.ref a13, V.ref a14] := (.cons (m12.same (((s13).trans s14).trans sl4)) (.cons (m13.same ((s14).trans sl4)) (.cons (m14.same (sl4)) .nil)))
    refine ⟨p3, l4, _, _, rfl, rfl, ((((s12).trans s13).trans s14).trans sl4) _ _ (e3 _), el4 _, by show 12 + 3 ≤ sizeLine; decide, fun p4 np4 => ?_⟩
    have sp4 := same_new (o := .lst [V.ref a0, V.ref a1, V.ref a2, V.ref a3, V.ref a4, V.ref a5, V.ref a6, V.ref a7, V.ref a8, V.ref a9, V.ref a10, V.ref a11, V.ref a12, V.ref a13, V.ref a14]) np4
    have c4 := (c3.trans ((((s12).trans s13).trans s14).trans sl4)).trans sp4
    have f4 := (c3.trans ((((s12).trans s13).trans s14).trans sl4)).free np4
    have ma4 := ((ma3.same ((((s12).trans s13).trans s14).trans sl4)).append (mk4 : Made C _ x y (0 + 12) _)).same sp4
    have e4 : ∀ H0 : Hp, (upd H0 p4 (.lst [V.ref a0, V.ref a1, V.ref a2, V.ref a3, V.ref a4, V.ref a5, V.ref a6, V.ref a7, V.ref a8, V.ref a9, V.ref a10, V.ref a11, V.ref a12, V.ref a13, V.ref a14])) p4 = some (.lst [V.ref a0, V.ref a1, V.ref a2, V.ref a3, V.ref a4, V.ref a5, V.ref a6, V.ref a7, V.ref a8, V.ref a9, V.ref a10, V.ref a11, V.ref a12, V.ref a13, V.ref a14]) := fun _ => upd_same
    refine ⟨_, rfl, ?_⟩
    refine read_ox (i := 15) (y := y) rfl (fun a15 h15 s15 m15 => ?_)
    refine read_ox (i := 16) (y := x) rfl (fun a16 h16 s16 m16 => ?_)
    refine read_ox (i := 17) (y := y) rfl (fun a17 h17 s17 m17 => ?_)
    refine ⟨by show 3 ≤ sizeLine; decide, fun l5 nl5 => ?_⟩
    have sl5 := same_new (o := .lst [V.ref a15, V.ref a16, V.ref a17]) nl5
    have el5 : ∀ H0 : Hp, (upd H0 l5 (.lst [V.ref a15, V.ref a16, V.ref a17])) l5 = some (.lst [V.ref a15, V.ref a16, V.ref a17]) := fun _ => upd_same
    have mk5 : Made C (upd h17 l5 (.lst [V.ref a15, V.ref a16, V.ref a17])) x y 15 [V.ref a15, V.ref a16, V.ref a17] := (.cons (m15.same (((s16).trans s17).trans sl5)) (.cons (m16.same ((s17).trans sl5)) (.cons (m17.same (sl5)) .nil)))
    refine ⟨p4, l5, _, _, rfl, rfl, ((((s15).trans s16).trans s17).trans sl5) _ _ (e4 _), el5 _, by show 15 + 3 ≤ sizeLine; decide, fun p5 np5 => ?_⟩
    have sp5 := same_new (o := .lst [V.ref a0, V.ref a1, V.ref a2, V.ref a3, V.ref a4, V.ref a5, V.ref a6, V.ref a7, V.ref a8, V.ref a9, V.ref a10, V.ref a11, V.ref a12, V.ref a13, V.ref a14, V.ref a15, V.ref a16, V.ref a17]) np5
    have c5 := (c4.trans ((((s15).trans s16).trans s17).trans sl5)).trans sp5
    have f5 := (c4.trans ((((s15).trans s16).trans s17).trans sl5)).free np5
    have ma5 := ((ma4.same ((((s15).trans s16).trans s17).trans sl5)).append (mk5 : Made C _ x y (0 + 15) _)).same sp5
    have e5 : ∀ H0 : Hp, (upd H0 p5 (.lst [V.ref a0, V.ref a1, V.ref a2, V.ref a3, V.ref a4, V.ref a5, V.ref a6, V.ref a7, V.ref a8, V.ref a9, V.ref a10, V.ref a11, V.ref a12, V.ref a13, V.ref a14, V.ref a15, V.ref a16, V.ref a17])) p5 = some (.lst [V.ref a0, V.ref a1, V.ref a2, V.ref a3, V.ref a4, V.ref a5, V.ref a6, V.ref a7, V.ref a8, V.ref a9, V.ref a10, V.ref a11, V.ref a12, V.ref a13, V.ref a14, V.ref a15, V.ref a16, V.ref a17]) := fun _ => upd_same
    refine ⟨_, rfl, ?_⟩
    refine read_ox (i := 18) (y := x) rfl (fun a18 h18 s18 m18 => ?_)
    refine read_ox (i := 19) (y := y) rfl (fun a19 h19 s19 m19 => ?_)
    refine read_ox (i := 20) (y := x) rfl (fun a20 h20 s20 m20 => ?_)
    refine ⟨by show 3 ≤ sizeLine; decide, fun l6 nl6 => ?_⟩
    have sl6 := same_new (o := .lst [V.ref a18, V.ref a19, V.ref a20]) nl6
    have el6 : ∀ H0 : Hp, (upd H0 l6 (.lst [V.ref a18, V.ref a19, V.ref a20])) l6 = some (.lst [V.ref a18, V.ref a19, V.ref a20]) := fun _ => upd_same
    have mk6 : Made C (upd h20 l6 (.lst [V.ref a18, V.ref a19, V.ref a20])) x y 18 [V.ref a18, V.ref a19, V.ref a20] := (.cons (m18.same (((s19).trans s20).trans sl6)) (.cons (m19.same ((s20).trans sl6)) (.cons (m20.same (sl6)) .nil)))
    refine ⟨p5, l6, _, _, rfl, rfl, ((((s18).trans s19).trans s20).trans sl6) _ _ (e5 _), el6 _, by show 18 + 3 ≤ sizeLine; decide, fun p6 np6 => ?_⟩
    have sp6 := same_new (o := .lst [V.ref a0, V.ref a1, V.ref a2, V.ref a3, V.ref a4, V.ref a5, V.ref a6, V.ref a7, V.ref a8, V.ref a9, V.ref a10, V.ref a11, V.ref a12, V.ref a13, V.ref a14, V.ref a15, V.ref a16, V.ref a17, V.ref a18, V.ref a19, V.ref a20]) np6
    have c6 := (c5.trans ((((s18).trans s19).trans s20).trans sl6)).trans sp6
    have f6 := (c5.trans ((((s18).trans s19).trans s20).trans sl6)).free np6
    have ma6 := ((ma5.same ((((s18).trans s19).trans s20).trans sl6)).append (mk6 : Made C _ x y (0 + 18) _)).same sp6
    have e6 : ∀ H0 : Hp, (upd H0 p6 (.lst [V.ref a0, V.ref a1, V.ref a2, V.ref a3, V.ref a4, V.ref a5, V.ref a6, V.ref a7, V.ref a8, V.ref a9, V.ref a10, V.ref a11, V.ref a12, V.ref a13, V.ref a14, V.ref a15, V.ref a16, V.ref a17, V.ref a18, V.ref a19, V.ref a20])) p6 = some (.lst [V.ref a0, V.ref a1, V.ref a2, V.ref a3, V.ref a4, V.ref a5, V.ref a6, V.ref a7, V.ref a8, V.ref a9, V.ref a10, V.ref a11, V.ref a12, V.ref a13, V.ref a14, V.ref a15, V.ref a16, V.ref a17, V.ref a18, V.ref a19, V.ref a20]) := fun _ => upd_same
    exact ⟨_, rfl, q _ _ _ c6 f6 (e6 _) rfl ma6⟩
end
end Sw

set_option Elab.async false
set_option linter.all false
set_option maxRecDepth 100000
set_option maxHeartbeats 16000000
namespace Sw
open PySem PySem.Spec PyProof.Rows L2
theorem scKept : FnScope ["e", "at"] ["e", "at"] (defScope sKept) :=
  ⟨rfl, rfl, rfl, by decide +kernel, rfl, by decide +kernel, by decide +kernel⟩
theorem scOdd : FnScope ["jar", "menu"] ["jar"] (defScope sOdd) :=
  ⟨rfl, rfl, rfl, by decide +kernel, rfl, by decide +kernel, by decide +kernel⟩
section
variable {P : Program} {w : World} {K : PySem.W.Frag} {mg : Str → Option Value} {base : Heap} {C fI : Nat → Addr} {fd : Nat → FuncData} {B : Nat → Addr}
def spKept (C : Nat → Addr) : Sp := fun vs H Q _ => ∃ (a : Addr) (i : Nat) (v : V), vs = [.ref a, .int i] ∧ MadeAt C H i a v ∧ i < 21 ∧ Q v H
theorem ok_kept {f : Addr} {fdf : FuncData} (F : Fun K "_law_kept" "_law_kept" sKept f fdf) (T : Tx1 P w K mg base C fI fd B) :
    FnOk P w K mg base CX0 1 f fdf ["e", "at"] (spKept C) := by
  refine F.ok scKept (fun vs H Q E h => ?_) (fun cdv A outer s H vs Q E hr h => ?_)
  · obtain ⟨a, i, v, rfl, _⟩ := h
    rfl
  · obtain ⟨a, i, v, rfl, ⟨d, e1, e2⟩, hi, q⟩ := h
    refine ⟨_, (pss_one (ps_ret (pe_ifExp (PW.pt (pw_or (pt_chain op_lt op_lt pe_int (pv 1) pe_int) (pw_or1 (pt_cmpR op_eq (pv 1) pe_int (nomark _))))) (pe_exF (pv 0)) (pe_exF (pv 0))))), ?_⟩
    have nof := T.nof i hi
    have look : ([(fl i, v)] : List (Str × V)).lookup (fl i) = some v := by simp
    have idx : (11 < i ∧ i < 18) ∨ i = 20 → fl i = "index" := by
      intro h
      have : i = 12 ∨ i = 13 ∨ i = 14 ∨ i = 15 ∨ i = 16 ∨ i = 17 ∨ i = 20 := by omega
      rcases this with rfl | rfl | rfl | rfl | rfl | rfl | rfl <;> rfl
    have giv : ¬ ((11 < i ∧ i < 18) ∨ i = 20) → fl i = "given" := by
      intro h
      have : i = 0 ∨ i = 1 ∨ i = 2 ∨ i = 3 ∨ i = 4 ∨ i = 5 ∨ i = 6 ∨ i = 7 ∨ i = 8 ∨ i = 9 ∨ i = 10 ∨ i = 11 ∨ i = 18 ∨ i = 19 := by omega
      rcases this with rfl | rfl | rfl | rfl | rfl | rfl | rfl | rfl | rfl | rfl | rfl | rfl | rfl | rfl <;> rfl
    have yes : ∀ (σ : L2.St) (f : Str), σ[0]? = some (some (V.ref a)) → fl i = f → tExF K f (tVar 0) σ H Q := by
      intro σ f h0 e
      subst e
      exact ⟨_, h0, a, C i, d, _, v, rfl, e1, e2, T.v i (by omega), nof, look, q⟩
    refine ⟨_, rfl, _, _, rfl, rfl, _, rfl, ite2 (fun h1 => ⟨_, _, rfl, rfl, _, rfl, ite2 (fun h2 => yes _ _ rfl ?_) (fun h2 => ⟨_, rfl, rfl, _, rfl, ite2 (fun h3 => yes _ _ rfl ?_) (fun h3 => yes _ _ rfl ?_)⟩)⟩) (fun h1 => ⟨_, rfl, ite2 (fun z => ?_) (fun _ => ⟨_, rfl, rfl, _, rfl, ite2 (fun h3 => yes _ _ rfl ?_) (fun h3 => yes _ _ rfl ?_)⟩)⟩)⟩
    · have g1 := of_decide_eq_true h1
      have g2 := of_decide_eq_true h2
      exact idx (.inl ⟨by omega, by omega⟩)
    · have g3 := V.int.inj (of_decide_eq_true h3)
      exact idx (.inr (by omega))
    · have g1 := of_decide_eq_true h1
      have g2 : ¬ ((i : Int) < 18) := fun z => h2 (decide_eq_true z)
      have g3 : ¬ ((i : Int) = 20) := fun z => h3 (decide_eq_true (by rw [z]))
      exact giv (by omega)
    · cases z
    · have g3 := V.int.inj (of_decide_eq_true h3)
      exact idx (.inr (by omega))
    · have g1 : ¬ ((11 : Int) < i) := fun z => h1 (decide_eq_true z)
      have g3 : ¬ ((i : Int) = 20) := fun z => h3 (decide_eq_true (by rw [z]))
      exact giv (by omega)
/-- all but what stands at j is as it was -/
def Off (j : Addr) (H H' : Hp) : Prop := ∀ b o, H b = some o → b ≠ j → H' b = some o
theorem Off.refl (j : Addr) (H : Hp) : Off j H H := fun _ _ e _ => e
theorem Off.trans {j : Addr} {H H1 H2 : Hp} (a : Off j H H1) (b : Off j H1 H2) : Off j H H2 := fun c o e n => b c o (a c o e n) n
theorem Off.of {j : Addr} {H H' : Hp} (a : Same H H') : Off j H H' := fun c o e _ => a c o e
def Odd (K : PySem.W.Frag) (j : Addr) (H : Hp) (v : V) : Prop := ∃ d, (∀ H', Off j H H' → Dx K H' v d) ∧ d.showable = true ∧ d.shown.length ≤ 1000 ∧ d.depth ≤ 60
theorem fm {α : Type} {P : α → Prop} {a : α} {l : List α} (h : P a) (t : ∀ x ∈ l, P x) : ∀ x ∈ a :: l, P x := List.forall_mem_cons.mpr ⟨h, t⟩
def spOdd (K : PySem.W.Frag) : Sp := fun vs H Q _ => ∃ (j : Addr) (d s c : Int), vs = [.ref j] ∧ H j = some (jarAs d s c) ∧ 0 ≤ d ∧
  ∀ v H', Odd K j H' v → JarAt H' j → Off j H H' → Q v H'
theorem ok_odd {f fD fP : Addr} {fdf fdD fdP : FuncData} (F : Fun K "_law_odd" "_law_odd" sOdd f fdf) (FP : Fun K "_law_pick" "_law_pick" sPick fP fdP)
    (FD : Fun K "_law_dip" "_law_dip" sDip fD fdD) (bD : Binds K fdD ["jar", "most"] []) (gD : mg "_law_dip" = some (.ref fD))
    (bP : Binds K fdP ["jar", "menu"] []) (gP : mg "_law_pick" = some (.ref fP)) (TJ : TxJ mg) :
    FnOk P w K mg base CX0 3 f fdf ["jar"] (spOdd K) := by
  have GP : FnOk P w K mg base CX0 2 fP fdP ["jar", "menu"] spPick := ok_pick FP FD bD gD TJ
  refine F.ok scOdd (fun vs H Q E h => ?_) (fun cdv A outer s H vs Q E hr h => ?_)
  · obtain ⟨j, d, s, c, rfl, _⟩ := h
    rfl
  · obtain ⟨j, d, s, c, rfl, hj, hd, q⟩ := h
    refine ⟨_, (pss_cons (ps_set (i := 1) scOdd.nd rfl (.inl rfl) (pe_lst (pa_cons pe_non (pa_cons pe_bl (pa_cons pe_bl (pa_cons pe_int (pa_cons pe_int (pa_cons (pe_un un_neg pe_int) (pa_cons pe_int (pa_cons (pe_op op_pow pe_int pe_int) (pa_cons pe_str (pa_cons pe_str pa_nil))))))))))))
      (pss_cons (ps_set (i := 1) scOdd.nd rfl (.inl rfl) (pe_op op_cat (pv 1) (pe_lst (pa_cons pe_str (pa_cons pe_str (pa_cons pe_str (pa_cons (pe_tup pa_nil) (pa_cons (pe_tup (pa_cons pe_int pa_nil)) (pa_cons (pe_tup (pa_cons pe_str pa_nil)) (pa_cons (pe_tup (pa_cons pe_str (pa_cons pe_str pa_nil))) (pa_cons (pe_lst (pa_cons pe_str pa_nil)) (pa_cons (pe_lst pa_nil) pa_nil))))))))))))
      (pss_one (ps_ret (pe_call GP hr (by rfl) gP FP.kp bP .nil pass0 (pa_cons (pv 0) (pa_cons (pe_op op_cat (pv 1) (pe_lst (pa_cons pe_dnewK (pa_cons (pe_disp (pps_cons pe_str pe_int pps_nil) (by rfl) (by rfl) (fun z => by cases z) (by decide)) (pa_cons (pe_tup (pa_cons pe_non (pa_cons pe_int pa_nil))) (pa_cons pe_str (pa_cons (pe_tup (pa_cons (pe_tup (pa_cons pe_str (pa_cons pe_str pa_nil))) pa_nil)) (pa_cons (pe_tup (pa_cons pe_str (pa_cons pe_str pa_nil))) (pa_cons (pe_lst (pa_cons (pe_lst pa_nil) pa_nil)) (pa_cons pe_str (pa_cons (pe_tup (pa_cons (pe_tup pa_nil) pa_nil)) (pa_cons (pe_tup (pa_cons pe_int (pa_cons pe_int pa_nil))) pa_nil)))))))))))) pa_nil))))))), ?_⟩
    refine ⟨_, rfl, ?_⟩
    refine ⟨_, _, rfl, rfl, ⟨by decide, by decide, by decide⟩, ?_⟩
    refine ⟨by show 10 ≤ sizeLine; decide, fun t0 nt0 => ?_⟩
    have s0 := same_new (o := .lst [V.non, V.bl true, V.bl false, V.int 0, V.int 1, V.int (-1), V.int 2, V.int (10 ^ 30), V.str "", V.str "0"]) nt0
    refine ⟨_, rfl, ?_⟩
    refine ⟨by show 0 ≤ sizeLine; decide, fun t1 nt1 => ?_⟩
    have s1 := same_new (o := .tup []) nt1
    refine ⟨by show 1 ≤ sizeLine; decide, fun t2 nt2 => ?_⟩
    have s2 := same_new (o := .tup [V.int 1]) nt2
    refine ⟨by show 1 ≤ sizeLine; decide, fun t3 nt3 => ?_⟩
    have s3 := same_new (o := .tup [V.str "0"]) nt3
    refine ⟨by show 2 ≤ sizeLine; decide, fun t4 nt4 => ?_⟩
    have s4 := same_new (o := .tup [V.str "0", V.str "1"]) nt4
    refine ⟨by show 1 ≤ sizeLine; decide, fun t5 nt5 => ?_⟩
    have s5 := same_new (o := .lst [V.str "0"]) nt5
    refine ⟨by show 0 ≤ sizeLine; decide, fun t6 nt6 => ?_⟩
    have s6 := same_new (o := .lst []) nt6
    refine ⟨by show 9 ≤ sizeLine; decide, fun t7 nt7 => ?_⟩
    have s7 := same_new (o := .lst [V.str "00", V.str "3", V.str "0 1", V.ref t1, V.ref t2, V.ref t3, V.ref t4, V.ref t5, V.ref t6]) nt7
    refine ⟨t0, t7, _, _, rfl, rfl, (((((((s1).trans s2).trans s3).trans s4).trans s5).trans s6).trans s7) _ _ upd_same, upd_same, by show 19 ≤ sizeLine; decide, fun t8 nt8 => ?_⟩
    have s8 := same_new (o := .lst [V.non, V.bl true, V.bl false, V.int 0, V.int 1, V.int (-1), V.int 2, V.int (10 ^ 30), V.str "", V.str "0", V.str "00", V.str "3", V.str "0 1", V.ref t1, V.ref t2, V.ref t3, V.ref t4, V.ref t5, V.ref t6]) nt8
    refine ⟨_, rfl, _, rfl, ?_⟩
    refine fun t9 nt9 => ?_
    have s9 := same_new (o := .dK []) nt9
    refine fun t10 nt10 => ⟨upd_same, [(Sum.inr "0", V.int 1)], rfl, by decide, ?_⟩
    rw [upd_upd]
    have s10 := same_new (o := .dK [((Sum.inr "0" : Key), V.int 1)]) nt10
    refine ⟨by show 2 ≤ sizeLine; decide, fun t11 nt11 => ?_⟩
    have s11 := same_new (o := .tup [V.non, V.int 0]) nt11
    refine ⟨by show 2 ≤ sizeLine; decide, fun t12 nt12 => ?_⟩
    have s12 := same_new (o := .tup [V.str "0", V.str "1"]) nt12
    refine ⟨by show 1 ≤ sizeLine; decide, fun t13 nt13 => ?_⟩
    have s13 := same_new (o := .tup [V.ref t12]) nt13
    refine ⟨by show 2 ≤ sizeLine; decide, fun t14 nt14 => ?_⟩
    have s14 := same_new (o := .tup [V.str "0", V.str "0"]) nt14
    refine ⟨by show 0 ≤ sizeLine; decide, fun t15 nt15 => ?_⟩
    have s15 := same_new (o := .lst []) nt15
    refine ⟨by show 1 ≤ sizeLine; decide, fun t16 nt16 => ?_⟩
    have s16 := same_new (o := .lst [V.ref t15]) nt16
    refine ⟨by show 0 ≤ sizeLine; decide, fun t17 nt17 => ?_⟩
    have s17 := same_new (o := .tup []) nt17
    refine ⟨by show 1 ≤ sizeLine; decide, fun t18 nt18 => ?_⟩
    have s18 := same_new (o := .tup [V.ref t17]) nt18
    refine ⟨by show 2 ≤ sizeLine; decide, fun t19 nt19 => ?_⟩
    have s19 := same_new (o := .tup [V.int 2, V.int 2]) nt19
    refine ⟨by show 10 ≤ sizeLine; decide, fun t20 nt20 => ?_⟩
    have s20 := same_new (o := .lst [V.ref t9, V.ref t10, V.ref t11, V.str "0\n1", V.ref t13, V.ref t14, V.ref t16, V.str "000000", V.ref t18, V.ref t19]) nt20
    refine ⟨t8, t20, _, _, rfl, rfl, ((((((((((((s9).trans s10).trans s11).trans s12).trans s13).trans s14).trans s15).trans s16).trans s17).trans s18).trans s19).trans s20) _ _ upd_same, upd_same, by show 29 ≤ sizeLine; decide, fun t21 nt21 => ?_⟩
    have s21 := same_new (o := .lst [V.non, V.bl true, V.bl false, V.int 0, V.int 1, V.int (-1), V.int 2, V.int (10 ^ 30), V.str "", V.str "0", V.str "00", V.str "3", V.str "0 1", V.ref t1, V.ref t2, V.ref t3, V.ref t4, V.ref t5, V.ref t6, V.ref t9, V.ref t10, V.ref t11, V.str "0\n1", V.ref t13, V.ref t14, V.ref t16, V.str "000000", V.ref t18, V.ref t19]) nt21
    have all := (((((((((((((((((((((s0).trans s1).trans s2).trans s3).trans s4).trans s5).trans s6).trans s7).trans s8).trans s9).trans s10).trans s11).trans s12).trans s13).trans s14).trans s15).trans s16).trans s17).trans s18).trans s19).trans s20).trans s21
    have hj2 := all _ _ hj
    refine ⟨j, t21, [V.non, V.bl true, V.bl false, V.int 0, V.int 1, V.int (-1), V.int 2, V.int (10 ^ 30), V.str "", V.str "0", V.str "00", V.str "3", V.str "0 1", V.ref t1, V.ref t2, V.ref t3, V.ref t4, V.ref t5, V.ref t6, V.ref t9, V.ref t10, V.ref t11, V.str "0\n1", V.ref t13, V.ref t14, V.ref t16, V.str "000000", V.ref t18, V.ref t19], d, s, c, rfl, hj2, hd, upd_same, ?_, by show 0 < 29; decide, by show 29 < 1000; decide, fun v dj sj cj hv hdj => ?_⟩
    · intro z; rw [z] at nt21; have y := (((((((((((((((((((((((s0).trans s1).trans s2).trans s3).trans s4).trans s5).trans s6).trans s7).trans s8).trans s9).trans s10).trans s11).trans s12).trans s13).trans s14).trans s15).trans s16).trans s17).trans s18).trans s19).trans s20) _ _ hj).symm.trans nt21); cases y
    refine q v _ ?_ ⟨dj, sj, cj, upd_same, hdj⟩ (fun b o z ne => by rw [upd_ne ne]; exact all _ _ z)
    have N1 : t1 ≠ j := fun z => by rw [z] at nt1; have y := ((s0) _ _ hj).symm.trans nt1; cases y
    have E1 := (upd_ne (o := jarAs dj sj cj) N1).trans (((((((((((((((((((((s2).trans s3).trans s4).trans s5).trans s6).trans s7).trans s8).trans s9).trans s10).trans s11).trans s12).trans s13).trans s14).trans s15).trans s16).trans s17).trans s18).trans s19).trans s20).trans s21) _ _ upd_same)
    have N2 : t2 ≠ j := fun z => by rw [z] at nt2; have y := (((s0).trans s1) _ _ hj).symm.trans nt2; cases y
    have E2 := (upd_ne (o := jarAs dj sj cj) N2).trans ((((((((((((((((((((s3).trans s4).trans s5).trans s6).trans s7).trans s8).trans s9).trans s10).trans s11).trans s12).trans s13).trans s14).trans s15).trans s16).trans s17).trans s18).trans s19).trans s20).trans s21) _ _ upd_same)
    have N3 : t3 ≠ j := fun z => by rw [z] at nt3; have y := ((((s0).trans s1).trans s2) _ _ hj).symm.trans nt3; cases y
    have E3 := (upd_ne (o := jarAs dj sj cj) N3).trans (((((((((((((((((((s4).trans s5).trans s6).trans s7).trans s8).trans s9).trans s10).trans s11).trans s12).trans s13).trans s14).trans s15).trans s16).trans s17).trans s18).trans s19).trans s20).trans s21) _ _ upd_same)
    have N4 : t4 ≠ j := fun z => by rw [z] at nt4; have y := (((((s0).trans s1).trans s2).trans s3) _ _ hj).symm.trans nt4; cases y
    have E4 := (upd_ne (o := jarAs dj sj cj) N4).trans ((((((((((((((((((s5).trans s6).trans s7).trans s8).trans s9).trans s10).trans s11).trans s12).trans s13).trans s14).trans s15).trans s16).trans s17).trans s18).trans s19).trans s20).trans s21) _ _ upd_same)
    have N5 : t5 ≠ j := fun z => by rw [z] at nt5; have y := ((((((s0).trans s1).trans s2).trans s3).trans s4) _ _ hj).symm.trans nt5; cases y
    have E5 := (upd_ne (o := jarAs dj sj cj) N5).trans (((((((((((((((((s6).trans s7).trans s8).trans s9).trans s10).trans s11).trans s12).trans s13).trans s14).trans s15).trans s16).trans s17).trans s18).trans s19).trans s20).trans s21) _ _ upd_same)
    have N6 : t6 ≠ j := fun z => by rw [z] at nt6; have y := (((((((s0).trans s1).trans s2).trans s3).trans s4).trans s5) _ _ hj).symm.trans nt6; cases y
    have E6 := (upd_ne (o := jarAs dj sj cj) N6).trans ((((((((((((((((s7).trans s8).trans s9).trans s10).trans s11).trans s12).trans s13).trans s14).trans s15).trans s16).trans s17).trans s18).trans s19).trans s20).trans s21) _ _ upd_same)
    have N9 : t9 ≠ j := fun z => by rw [z] at nt9; have y := ((((((((((s0).trans s1).trans s2).trans s3).trans s4).trans s5).trans s6).trans s7).trans s8) _ _ hj).symm.trans nt9; cases y
    have E9 := (upd_ne (o := jarAs dj sj cj) N9).trans (((((((((((((s10).trans s11).trans s12).trans s13).trans s14).trans s15).trans s16).trans s17).trans s18).trans s19).trans s20).trans s21) _ _ upd_same)
    have N10 : t10 ≠ j := fun z => by rw [z] at nt10; have y := (((((((((((s0).trans s1).trans s2).trans s3).trans s4).trans s5).trans s6).trans s7).trans s8).trans s9) _ _ hj).symm.trans nt10; cases y
    have E10 := (upd_ne (o := jarAs dj sj cj) N10).trans ((((((((((((s11).trans s12).trans s13).trans s14).trans s15).trans s16).trans s17).trans s18).trans s19).trans s20).trans s21) _ _ upd_same)
    have N11 : t11 ≠ j := fun z => by rw [z] at nt11; have y := ((((((((((((s0).trans s1).trans s2).trans s3).trans s4).trans s5).trans s6).trans s7).trans s8).trans s9).trans s10) _ _ hj).symm.trans nt11; cases y
    have E11 := (upd_ne (o := jarAs dj sj cj) N11).trans (((((((((((s12).trans s13).trans s14).trans s15).trans s16).trans s17).trans s18).trans s19).trans s20).trans s21) _ _ upd_same)
    have N12 : t12 ≠ j := fun z => by rw [z] at nt12; have y := (((((((((((((s0).trans s1).trans s2).trans s3).trans s4).trans s5).trans s6).trans s7).trans s8).trans s9).trans s10).trans s11) _ _ hj).symm.trans nt12; cases y
    have E12 := (upd_ne (o := jarAs dj sj cj) N12).trans ((((((((((s13).trans s14).trans s15).trans s16).trans s17).trans s18).trans s19).trans s20).trans s21) _ _ upd_same)
    have N13 : t13 ≠ j := fun z => by rw [z] at nt13; have y := ((((((((((((((s0).trans s1).trans s2).trans s3).trans s4).trans s5).trans s6).trans s7).trans s8).trans s9).trans s10).trans s11).trans s12) _ _ hj).symm.trans nt13; cases y
    have E13 := (upd_ne (o := jarAs dj sj cj) N13).trans (((((((((s14).trans s15).trans s16).trans s17).trans s18).trans s19).trans s20).trans s21) _ _ upd_same)
    have N14 : t14 ≠ j := fun z => by rw [z] at nt14; have y := (((((((((((((((s0).trans s1).trans s2).trans s3).trans s4).trans s5).trans s6).trans s7).trans s8).trans s9).trans s10).trans s11).trans s12).trans s13) _ _ hj).symm.trans nt14; cases y
    have E14 := (upd_ne (o := jarAs dj sj cj) N14).trans ((((((((s15).trans s16).trans s17).trans s18).trans s19).trans s20).trans s21) _ _ upd_same)
    have N15 : t15 ≠ j := fun z => by rw [z] at nt15; have y := ((((((((((((((((s0).trans s1).trans s2).trans s3).trans s4).trans s5).trans s6).trans s7).trans s8).trans s9).trans s10).trans s11).trans s12).trans s13).trans s14) _ _ hj).symm.trans nt15; cases y
    have E15 := (upd_ne (o := jarAs dj sj cj) N15).trans (((((((s16).trans s17).trans s18).trans s19).trans s20).trans s21) _ _ upd_same)
    have N16 : t16 ≠ j := fun z => by rw [z] at nt16; have y := (((((((((((((((((s0).trans s1).trans s2).trans s3).trans s4).trans s5).trans s6).trans s7).trans s8).trans s9).trans s10).trans s11).trans s12).trans s13).trans s14).trans s15) _ _ hj).symm.trans nt16; cases y
    have E16 := (upd_ne (o := jarAs dj sj cj) N16).trans ((((((s17).trans s18).trans s19).trans s20).trans s21) _ _ upd_same)
    have N17 : t17 ≠ j := fun z => by rw [z] at nt17; have y := ((((((((((((((((((s0).trans s1).trans s2).trans s3).trans s4).trans s5).trans s6).trans s7).trans s8).trans s9).trans s10).trans s11).trans s12).trans s13).trans s14).trans s15).trans s16) _ _ hj).symm.trans nt17; cases y
    have E17 := (upd_ne (o := jarAs dj sj cj) N17).trans (((((s18).trans s19).trans s20).trans s21) _ _ upd_same)
    have N18 : t18 ≠ j := fun z => by rw [z] at nt18; have y := (((((((((((((((((((s0).trans s1).trans s2).trans s3).trans s4).trans s5).trans s6).trans s7).trans s8).trans s9).trans s10).trans s11).trans s12).trans s13).trans s14).trans s15).trans s16).trans s17) _ _ hj).symm.trans nt18; cases y
    have E18 := (upd_ne (o := jarAs dj sj cj) N18).trans ((((s19).trans s20).trans s21) _ _ upd_same)
    have N19 : t19 ≠ j := fun z => by rw [z] at nt19; have y := ((((((((((((((((((((s0).trans s1).trans s2).trans s3).trans s4).trans s5).trans s6).trans s7).trans s8).trans s9).trans s10).trans s11).trans s12).trans s13).trans s14).trans s15).trans s16).trans s17).trans s18) _ _ hj).symm.trans nt19; cases y
    have E19 := (upd_ne (o := jarAs dj sj cj) N19).trans (((s20).trans s21) _ _ upd_same)
    revert v
    refine fm (⟨_, fun _ off => .flat .non, by decide +kernel, by decide +kernel, by decide +kernel⟩) ?_
    refine fm (⟨_, fun _ off => .flat (.bl _), by decide +kernel, by decide +kernel, by decide +kernel⟩) ?_
    refine fm (⟨_, fun _ off => .flat (.bl _), by decide +kernel, by decide +kernel, by decide +kernel⟩) ?_
    refine fm (⟨_, fun _ off => .flat (.int _), by decide +kernel, by decide +kernel, by decide +kernel⟩) ?_
    refine fm (⟨_, fun _ off => .flat (.int _), by decide +kernel, by decide +kernel, by decide +kernel⟩) ?_
    refine fm (⟨_, fun _ off => .flat (.int _), by decide +kernel, by decide +kernel, by decide +kernel⟩) ?_
    refine fm (⟨_, fun _ off => .flat (.int _), by decide +kernel, by decide +kernel, by decide +kernel⟩) ?_
    refine fm (⟨_, fun _ off => .flat (.int _), by decide +kernel, by decide +kernel, by decide +kernel⟩) ?_
    refine fm (⟨_, fun _ off => .flat (.str _), by decide +kernel, by decide +kernel, by decide +kernel⟩) ?_
    refine fm (⟨_, fun _ off => .flat (.str _), by decide +kernel, by decide +kernel, by decide +kernel⟩) ?_
    refine fm (⟨_, fun _ off => .flat (.str _), by decide +kernel, by decide +kernel, by decide +kernel⟩) ?_
    refine fm (⟨_, fun _ off => .flat (.str _), by decide +kernel, by decide +kernel, by decide +kernel⟩) ?_
    refine fm (⟨_, fun _ off => .flat (.str _), by decide +kernel, by decide +kernel, by decide +kernel⟩) ?_
    refine fm (⟨_, fun _ off => .flat (.tup (.inl (.inl (off _ _ E1 N1))) .nil), by decide +kernel, by decide +kernel, by decide +kernel⟩) ?_
    refine fm (⟨_, fun _ off => .flat (.tup (.inl (.inl (off _ _ E2 N2))) (.cons (.int _) .nil)), by decide +kernel, by decide +kernel, by decide +kernel⟩) ?_
    refine fm (⟨_, fun _ off => .flat (.tup (.inl (.inl (off _ _ E3 N3))) (.cons (.str _) .nil)), by decide +kernel, by decide +kernel, by decide +kernel⟩) ?_
    refine fm (⟨_, fun _ off => .flat (.tup (.inl (.inl (off _ _ E4 N4))) (.cons (.str _) (.cons (.str _) .nil))), by decide +kernel, by decide +kernel, by decide +kernel⟩) ?_
    refine fm (⟨_, fun _ off => .flat (.lst (.inl (.inl (off _ _ E5 N5))) (.cons (.str _) .nil)), by decide +kernel, by decide +kernel, by decide +kernel⟩) ?_
    refine fm (⟨_, fun _ off => .flat (.lst (.inl (.inl (off _ _ E6 N6))) .nil), by decide +kernel, by decide +kernel, by decide +kernel⟩) ?_
    refine fm (⟨_, fun _ off => .dct (kvs := []) (off _ _ E9 N9), by decide +kernel, by decide +kernel, by decide +kernel⟩) ?_
    refine fm (⟨_, fun _ off => .dct (kvs := [("0", 1)]) (off _ _ E10 N10), by decide +kernel, by decide +kernel, by decide +kernel⟩) ?_
    refine fm (⟨_, fun _ off => .flat (.tup (.inl (.inl (off _ _ E11 N11))) (.cons .non (.cons (.int _) .nil))), by decide +kernel, by decide +kernel, by decide +kernel⟩) ?_
    refine fm (⟨_, fun _ off => .flat (.str _), by decide +kernel, by decide +kernel, by decide +kernel⟩) ?_
    refine fm (⟨_, fun _ off => .flat (.tup (.inl (.inl (off _ _ E13 N13))) (.cons (.tup (.inl (.inl (off _ _ E12 N12))) (.cons (.str _) (.cons (.str _) .nil))) .nil)), by decide +kernel, by decide +kernel, by decide +kernel⟩) ?_
    refine fm (⟨_, fun _ off => .flat (.tup (.inl (.inl (off _ _ E14 N14))) (.cons (.str _) (.cons (.str _) .nil))), by decide +kernel, by decide +kernel, by decide +kernel⟩) ?_
    refine fm (⟨_, fun _ off => .flat (.lst (.inl (.inl (off _ _ E16 N16))) (.cons (.lst (.inl (.inl (off _ _ E15 N15))) .nil) .nil)), by decide +kernel, by decide +kernel, by decide +kernel⟩) ?_
    refine fm (⟨_, fun _ off => .flat (.str _), by decide +kernel, by decide +kernel, by decide +kernel⟩) ?_
    refine fm (⟨_, fun _ off => .flat (.tup (.inl (.inl (off _ _ E18 N18))) (.cons (.tup (.inl (.inl (off _ _ E17 N17))) .nil) .nil)), by decide +kernel, by decide +kernel, by decide +kernel⟩) ?_
    refine fm (⟨_, fun _ off => .flat (.tup (.inl (.inl (off _ _ E19 N19))) (.cons (.int _) (.cons (.int _) .nil))), by decide +kernel, by decide +kernel, by decide +kernel⟩) ?_
    exact fun _ z => absurd z (by simp)
end
end Sw

set_option Elab.async false
set_option linter.all false
set_option maxRecDepth 100000
set_option maxHeartbeats 16000000
namespace Sw
open PySem PySem.Spec PyProof.Rows L2
theorem scRight : FnScope ["jar", "first", "second", "made", "at", "kept", "due", "k"] ["jar"] (defScope sRight) :=
  ⟨rfl, rfl, rfl, by decide +kernel, rfl, by decide +kernel, by decide +kernel⟩
section
variable {P : Program} {w : World} {K : PySem.W.Frag} {mg : Str → Option Value} {base : Heap} {C fI : Nat → Addr} {fd : Nat → FuncData} {B : Nat → Addr}
/-- the law's own defs as the top has left them -/
structure Tx2 (K : PySem.W.Frag) (mg : Str → Option Value) (C : Nat → Addr) (a : Nat → Addr) (d : Nat → FuncData) : Prop where
  J : TxJ mg
  FD : Fun K "_law_dip" "_law_dip" sDip (a 0) (d 0)
  bD : Binds K (d 0) ["jar", "most"] []
  gD : mg "_law_dip" = some (.ref (a 0))
  FP : Fun K "_law_pick" "_law_pick" sPick (a 1) (d 1)
  bP : Binds K (d 1) ["jar", "menu"] []
  gP : mg "_law_pick" = some (.ref (a 1))
  FB : Fun K "_law_bases" "_law_bases" sBases (a 2) (d 2)
  bB : Binds K (d 2) ["e"] []
  gB : mg "_law_bases" = some (.ref (a 2))
  FO : Fun K "_law_odd" "_law_odd" sOdd (a 3) (d 3)
  bO : Binds K (d 3) ["jar"] []
  gO : mg "_law_odd" = some (.ref (a 3))
  FS : Fun K "_law_sorts" "_law_sorts" sSorts (a 4) (d 4)
  bS : Binds K (d 4) ["e"] []
  gS : mg "_law_sorts" = some (.ref (a 4))
  FPl : Fun K "_law_by_place" "_law_by_place" sPlace (a 5) (d 5)
  bPl : Binds K (d 5) ["first", "second"] []
  gPl : mg "_law_by_place" = some (.ref (a 5))
  FW : Fun K "_law_by_word" "_law_by_word" sWord (a 6) (d 6)
  bW : Binds K (d 6) ["first", "second"] []
  gW : mg "_law_by_word" = some (.ref (a 6))
  FK : Fun K "_law_kept" "_law_kept" sKept (a 7) (d 7)
  bK : Binds K (d 7) ["e", "at"] []
  gK : mg "_law_kept" = some (.ref (a 7))
  e21 : PySem.W.excIn K (C 21) [.type "ArithmeticError", .type "Exception", .type "BaseException", .type "object"] "ArithmeticError.__new__" = true
  k21 : PySem.W.keepIn K (.ref (C 21)) = true
  repr : mg "repr" = none
  range : mg "range" = none

theorem dp_bools {H : Hp} : ∀ bs : List Bool, DpAll K H (bs.map V.bl) (bs.map PyData.bool)
  | [] => .nil
  | b :: bs => .cons (.bl b) (dp_bools bs)
theorem lay_bools : ∀ bs : List Bool, PyData.canLayAll0 (bs.map PyData.bool) = true
  | [] => rfl
  | b :: bs => by
    show (PyData.canLay0 (.bool b) && PyData.canLayAll0 (bs.map PyData.bool)) = true
    rw [lay_bools bs]; rfl
theorem deep_bools : ∀ bs : List Bool, PyData.depthAll (bs.map PyData.bool) ≤ 1
  | [] => by decide
  | b :: bs => by
    show max (PyData.depth (.bool b)) (PyData.depthAll (bs.map PyData.bool)) ≤ 1
    have h := deep_bools bs
    have h2 : PyData.depth (.bool b) ≤ 1 := by simp [PyData.depth]
    omega
theorem shape_bools (bs : List Bool) : SeqAt.shaped (.list (bs.map PyData.bool)) = true := by
  unfold SeqAt.shaped
  have h1 : PyData.canLay0 (.list (bs.map PyData.bool)) = true := by simp only [PyData.canLay0]; exact lay_bools bs
  have h2 : PyData.depth (.list (bs.map PyData.bool)) ≤ 64 := by
    have := deep_bools bs
    simp only [PyData.depth]
    omega
  rw [h1, decide_eq_true h2]; rfl
/-- two lists of the same truth values are not told apart -/
theorem ne_bools {H : Hp} {p D : Addr} (bs : List Bool) {Q : VK} (h1 : H p = some (.lst (bs.map V.bl))) (h2 : H D = some (.lst (bs.map V.bl))) (q : Q (.bl false) H) :
    rNeD K (.ref p) (.ref D) H Q := by
  refine ⟨_, _, .lst (.inl (.inl h1)) (dp_bools bs), .lst (.inl (.inl h2)) (dp_bools bs), shape_bools bs, shape_bools bs, ?_⟩
  have e : PyData.eqv (.list (bs.map PyData.bool)) (.list (bs.map PyData.bool)) = true := SeqAt.eqv_refl _ (SeqAt.canLay_of_shaped (shape_bools bs))
  rw [e]
  exact q

theorem int_eq {a b : Nat} : ((a : Int) == (b : Int)) = decide (a = b) := by
  by_cases e : a = b
  · subst e; simp
  · rw [decide_eq_false e]
    exact beq_eq_false_iff_ne.mpr fun z => e (by omega)
theorem comp_len {i n : Nat} {f : Nat → Bool} (hi : i < n) (hn : n ≤ 1000 := by decide) : (((List.range i).map f).map V.bl).length < sizeLine := by
  rw [List.length_map, List.length_map, List.length_range]
  exact small1000 (by omega)
theorem comp_same {H H' : Hp} {D : Addr} {o : HO} (s : Same H H') (n : H D = none) : Same H (upd H' D o) := fun b u e => by
  rw [upd_ne (ne_of_none e n)]
  exact s b u e
theorem comp_next {i : Nat} {f : Nat → Bool} {b : Bool} (h : b = f i) :
    some (HO.lst ((((List.range i).map f).map V.bl) ++ [V.bl b])) = some (HO.lst (((List.range (i + 1)).map f).map V.bl)) := by
  rw [List.range_succ, List.map_append, List.map_append, h]
  rfl
theorem kept_is {k : Nat} {σ : L2.St} {H : Hp} {Q : VK} (h0 : σ[4]? = some (some (.int k))) (q : Q (.int (kd k)) H) :
    tIf (tTest (tOp (rI0 fun i j => V.bl (decide (i < j))) (tVar 4) (tC (.int 18)))) (tC (.int 0))
      (tIf (tTest (tOp rEq (tVar 4) (tC (.int 18)))) (tC (.int 1)) (tC (.int 2))) σ H Q := by
  have lt : decide ((k : Int) < 18) = decide (k < 18) := by
    by_cases e : k < 18
    · rw [decide_eq_true e]; exact decide_eq_true (by omega)
    · rw [decide_eq_false e]; exact decide_eq_false (by omega)
  have kk : kd k = if k < 18 then 0 else if k = 18 then 1 else 2 := rfl
  refine ⟨_, h0, _, _, rfl, rfl, _, rfl, ite2 (fun e => ?_) (fun e => ⟨_, h0, rfl, _, rfl, ite2 (fun e2 => ?_) (fun e2 => ?_)⟩)⟩
  · rw [lt] at e
    rw [kk, if_pos (of_decide_eq_true e)] at q
    exact q
  · have e3 : k = 18 := by
      have := V.int.inj (of_decide_eq_true e2)
      omega
    rw [kk, if_neg (by omega), if_pos e3] at q
    exact q
  · have e3 : ¬ k = 18 := fun z => e2 (decide_eq_true (by rw [z]; rfl))
    rw [lt] at e
    rw [kk, if_neg (by simpa using e), if_neg e3] at q
    exact q
theorem told_is (T : Tx1 P w K mg base C fI fd B) {k : Nat} (hk : k < 22) : Told3 K B (C k) (kd k) := fun j hj => ⟨T.isB k j hk hj, T.isT k j hk hj⟩
def spRight : Sp := fun vs H Q _ => ∃ (j : Addr), vs = [.ref j] ∧ JarAt H j ∧ ∀ H', Off j H H' → Q (.bl true) H'
theorem ok_right {f : Addr} {fdf : FuncData} {a : Nat → Addr} {d : Nat → FuncData} (F : Fun K "_law_right" "_law_right" sRight f fdf) (T : Tx1 P w K mg base C fI fd B) (L : Tx2 K mg C a d) :
    FnG P w K mg base 4 f fdf ["jar"] spRight := by
  have GO : FnOk P w K mg base CX0 3 (a 3) (d 3) ["jar"] (spOdd K) := ok_odd L.FO L.FP L.FD L.bD L.gD L.bP L.gP L.J
  have GPl : FnOk P w K mg base CX0 3 (a 5) (d 5) ["first", "second"] (spMade C) := ok_place L.FPl T
  have GW : FnOk P w K mg base CX0 3 (a 6) (d 6) ["first", "second"] (spMade C) := ok_word L.FW T
  have GS : FnOk P w K mg base CX0 1 (a 4) (d 4) ["e"] (spSorts C) := ok_sorts L.FS T
  have GB : FnOk P w K mg base CX0 1 (a 2) (d 2) ["e"] (spBases K B) := ok_bases L.FB T
  have GK : FnOk P w K mg base CX0 1 (a 7) (d 7) ["e", "at"] (spKept C) := ok_kept L.FK T
  refine okG F scRight (fun vs H Q E h => ?_) (fun cdv A outer s H vs Q E hr fr h => ?_)
  · obtain ⟨j, rfl, _⟩ := h
    rfl
  · obtain ⟨j, rfl, ⟨dg, sd, cn, hj, hd⟩, q⟩ := h
    have hr1 : Room 1 (A.deeper (envOfC "_law_right" (defScope sRight) s.heap.objs.size f cdv)) := hr.mono (by decide)
    refine ⟨_, (pss_cons (ps_par (i := 1) (j := 2) (by rfl) scRight.nd rfl rfl (by decide) rfl rfl (pa_cons (pe_call GO hr (by rfl) L.gO L.FO.kp L.bO .nil pass0 (pa_cons (pv 0) pa_nil)) (pa_cons (pe_call GO hr (by rfl) L.gO L.FO.kp L.bO .nil pass0 (pa_cons (pv 0) pa_nil)) pa_nil)) (by rfl))
      (pss_cons (ps_for PassesOwn.never rfl (pi_list (pe_lst (pa_cons (pe_call GPl hr (by rfl) L.gPl L.FPl.kp L.bPl .nil pass0 (pa_cons (pv 1) (pa_cons (pv 2) pa_nil))) (pa_cons (pe_call GW hr (by rfl) L.gW L.FW.kp L.bW .nil pass0 (pa_cons (pv 1) (pa_cons (pv 2) pa_nil))) pa_nil)))) (pg_name (i := 3) scRight.nd rfl (.inl rfl)) (pss_cons (ps_set (i := 3) scRight.nd rfl (.inl rfl) (pe_op op_cat (pv 3) (pe_lst (pa_cons (pe_ex0 (x := "NothingToUndo") PySem.F.excBase_ArithmeticError L.e21 (T.g 21 (by decide)) L.k21 (by rfl)) pa_nil))))
      (pss_one (ps_for PassesOwn.never rfl (pi_range1 rfl L.range (pa_cons pe_int pa_nil)) (pg_name (i := 4) scRight.nd rfl (.inr rfl)) (pss_cons (ps_if (pt_cmpR (op_neD hr.units) (pe_call GS hr1 (by rfl) L.gS L.FS.kp L.bS .nil pass0 (pa_cons (pe_ix ix_list (pv 3) (pv 4) (fun _ _ => rfl)) pa_nil)) (pe_lc (own := [("k", 7)]) (g := gName 7) (tt := tYes) rfl scRight.nd (pi_range1 rfl L.range (pa_cons pe_int pa_nil)) (blkOk_by (N := ["jar", "first", "second", "made", "at", "kept", "due", "k"]) (sc := defScope sRight) (by decide +kernel)) (fun _ _ _ _ _ => pg_name (i := 7) scRight.nd rfl (Or.inl rfl)) (fun _ _ _ _ _ => pts_nil) (fun _ _ _ _ _ => (pe_cmpR op_eq (pv 7) (pv 4) (nomark _)))) (nomark _)) (pss_one (ps_ret pe_bl)) pss_nil)
      (pss_cons (ps_set (i := 5) scRight.nd rfl (.inr rfl) (pe_ifExp (pt_cmpR op_lt (pv 4) pe_int (nomark _)) pe_int (pe_ifExp (pt_cmpR op_eq (pv 4) pe_int (nomark _)) pe_int pe_int)))
      (pss_cons (ps_if (pt_cmpR (op_neD hr.units) (pe_call GB hr1 (by rfl) L.gB L.FB.kp L.bB .nil pass0 (pa_cons (pe_ix ix_list (pv 3) (pv 4) (fun _ _ => rfl)) pa_nil)) (pe_lc (own := [("k", 7)]) (g := gName 7) (tt := tYes) rfl scRight.nd (pi_range1 rfl L.range (pa_cons pe_int pa_nil)) (blkOk_by (N := ["jar", "first", "second", "made", "at", "kept", "due", "k"]) (sc := defScope sRight) (by decide +kernel)) (fun _ _ _ _ _ => pg_name (i := 7) scRight.nd rfl (Or.inl rfl)) (fun _ _ _ _ _ => pts_nil) (fun _ _ _ _ _ => (pe_cmpR op_eq (pv 7) (pv 5) (nomark _)))) (nomark _)) (pss_one (ps_ret pe_bl)) pss_nil)
      (pss_cons (ps_set (i := 6) scRight.nd rfl (.inl rfl) (pe_ifExp (pt_cmpR op_eq (pe_op op_mod (pe_callTy call_int1 (by rfl) L.J.int (by decide +kernel) (pa_cons (pv 4) pa_nil)) pe_int) pe_int (nomark _)) (pv 1) (pv 2)))
      (pss_one (ps_if (PW.pt (pw_and (pt_cmpR op_lt (pv 4) pe_int (nomark _)) (pw_and1 (pt_cmpR op_ne (pe_callB (call_repr fr hr.units) (by rfl) L.repr (by decide +kernel) (pa_cons (pe_call GK hr1 (by rfl) L.gK L.FK.kp L.bK .nil pass0 (pa_cons (pe_ix ix_list (pv 3) (pv 4) (fun _ _ => rfl)) (pa_cons (pv 4) pa_nil))) pa_nil)) (pe_callB (call_repr fr hr.units) (by rfl) L.repr (by decide +kernel) (pa_cons (pv 6) pa_nil)) (nomark _))))) (pss_one (ps_ret pe_bl)) pss_nil))))))))))
      (pss_one (ps_ret pe_bl)))), ?_⟩
    refine ⟨_, rfl, j, dg, sd, cn, rfl, hj, hd, fun x H1 o1 j1 f1 => ?_⟩
    obtain ⟨dg1, sd1, cn1, hj1, hd1⟩ := j1
    refine ⟨_, rfl, j, dg1, sd1, cn1, rfl, hj1, hd1, fun y H2 o2 j2 f2 => ?_⟩
    refine ⟨x, y, rfl, ?_⟩
    have o1' : Odd K j H2 x := by
      obtain ⟨d1, w1, w2⟩ := o1
      exact ⟨d1, fun H' f => w1 H' (f2.trans f), w2⟩
    refine ⟨_, rfl, _, rfl, x, y, rfl, fun es H3 p s3 n3 e3 l3 m3 => ?_⟩
    refine ⟨_, rfl, _, rfl, x, y, rfl, fun es' H4 p' s4 n4 e4 l4 m4 => ?_⟩
    refine ⟨by show 2 ≤ sizeLine; decide, fun l nl => ?_⟩
    have s5 := same_new (o := .lst [V.ref p, V.ref p']) nl
    have all5 : Same H2 (upd H4 l (.lst [V.ref p, V.ref p'])) := (s3.trans s4).trans s5
    have item : ∀ (i : Nat) (v : V), ([V.ref p, V.ref p'] : List V)[i]? = some v → ∃ pp es0, v = .ref pp ∧ (upd H4 l (.lst [V.ref p, V.ref p'])) pp = some (.lst es0) ∧
        es0.length = 21 ∧ Made C (upd H4 l (.lst [V.ref p, V.ref p'])) x y 0 es0 := by
      intro i v hv
      match i, hv with
      | 0, hv =>
        have e : V.ref p = v := Option.some.inj hv
        exact ⟨p, es, e.symm, s5 _ _ (s4 _ _ e3), l3, (m3.same s4).same s5⟩
      | 1, hv =>
        have e : V.ref p' = v := Option.some.inj hv
        exact ⟨p', es', e.symm, s5 _ _ e4, l4, m4.same s5⟩
      | i + 2, hv => exact nomatch hv
    refine ⟨l, rfl, ⟨_, .inl (.inl upd_same)⟩, for_list (K := K) (a := l) (xs := [V.ref p, V.ref p'])
      (fun i σ H' => ∃ y3 y4 y5 y6 y7, σ = [some (.ref j), some x, some y, y3, y4, y5, y6, y7] ∧ Same (upd H4 l (.lst [V.ref p, V.ref p'])) H')
      ⟨none, none, none, none, none, rfl, Same.refl _⟩ (fun i σ H' _ ⟨_, _, _, _, _, _, sm⟩ => .inl (.inl (sm _ _ upd_same))) ?_ ?_⟩
    · rintro i v σ H5 hi ⟨y3, y4, y5, y6, y7, rfl, sm⟩
      obtain ⟨pp, es0, rfl, ep, lp, mp⟩ := item i v hi
      have ep := sm _ _ ep
      have mp := mp.same sm
      -- made = made + [NothingToUndo()]
      refine ⟨_, rfl, fun a21 n21 => ⟨by show 1 ≤ sizeLine; decide, fun l2 nl2 => ?_⟩⟩
      have t1 := same_new (o := ExO (.ref (C 21)) a21) n21
      have t2 := same_new (o := .lst [V.ref a21]) nl2
      have x21 := t2 _ _ (upd_same (H := H5) (a := a21) (o := ExO (.ref (C 21)) a21))
      refine ⟨pp, l2, _, _, rfl, rfl, t2 _ _ (t1 _ _ ep), upd_same, by rw [lp]; show 22 ≤ sizeLine; decide, fun mm nm => ?_⟩
      have t3 := same_new (o := .lst (es0 ++ [V.ref a21])) nm
      have all6 := (t1.trans t2).trans t3
      have x21 := t3 _ _ x21
      have mp := mp.same all6
      have em : ∀ H0 : Hp, (upd H0 mm (.lst (es0 ++ [V.ref a21]))) mm = some (.lst (es0 ++ [V.ref a21])) := fun _ => upd_same
      have em := em (upd (upd H5 a21 (ExO (.ref (C 21)) a21)) l2 (.lst [V.ref a21]))
      -- what stands at each place
      have each : ∀ k, k < 22 → ∃ ak, (es0 ++ [V.ref a21])[k]? = some (.ref ak) ∧
          Exc (upd (upd (upd H5 a21 (ExO (.ref (C 21)) a21)) l2 (.lst [V.ref a21])) mm (.lst (es0 ++ [V.ref a21]))) ak (C k) ∧
          (k < 21 → MadeAt C (upd (upd (upd H5 a21 (ExO (.ref (C 21)) a21)) l2 (.lst [V.ref a21])) mm (.lst (es0 ++ [V.ref a21]))) k ak (if k % 2 = 0 then x else y)) := by
        intro k hk
        by_cases hk2 : k < 21
        · obtain ⟨ak, e, made⟩ := mp.at (k := k) (by rw [lp]; exact hk2)
          rw [Nat.zero_add] at made
          refine ⟨ak, by rw [List.getElem?_append_left (by rw [lp]; exact hk2)]; exact e, ?_, fun _ => made⟩
          obtain ⟨d0, e1, e2⟩ := made
          exact .inr ⟨d0, _, e1, e2⟩
        · have : k = 21 := by omega
          subst this
          exact ⟨a21, by rw [List.getElem?_append_right (by rw [lp]; exact Nat.le_refl _), lp]; rfl, .inl x21, fun z => absurd z hk2⟩
      refine ⟨22, rfl, by decide, by decide, for_range (lo := 0) (n := 22)
        (fun k σ H' => ∃ y4 y5 y6 y7, σ = [some (.ref j), some x, some y, some (.ref mm), y4, y5, y6, y7] ∧
          Same (upd (upd (upd H5 a21 (ExO (.ref (C 21)) a21)) l2 (.lst [V.ref a21])) mm (.lst (es0 ++ [V.ref a21]))) H')
        ⟨y4, y5, y6, y7, rfl, Same.refl _⟩ ?_ ?_⟩
      · rintro k σ H6 hk ⟨y4, y5, y6, y7, rfl, sm2⟩
        rw [Int.zero_add]
        obtain ⟨ak, ea, xa, ma⟩ := each k hk
        have xa := xa.same sm2
        have em := sm2 _ _ em
        -- if _law_sorts(made[at]) != [k == at for k in range(22)]
        refine ⟨_, rfl, _, rfl, mm, _, _, .ref ak, rfl, rfl, .inl (.inl em), atI_nat ea, ak, k, rfl, xa, hk, fun H7 ps s7 n7 e7 => ?_⟩
        refine ⟨22, rfl, by decide, by decide, fun D nD => lc_range (lo := 0) (n := 22)
          (fun i H' => Same H7 H' ∧ H' D = some (.lst (((List.range i).map fun k2 => decide (k2 = k)).map V.bl)))
          ⟨same_new nD, upd_same⟩ ?_ ?_⟩
        · rintro i H' hi ⟨sm3, eD⟩
          rw [Int.zero_add]
          refine ⟨rfl, ?_⟩
          refine ⟨_, rfl, _, rfl, rfl, _, eD, ?_, ?_, ?_⟩
          · exact comp_len hi
          · exact comp_same sm3 nD
          · rw [upd_same]
            exact comp_next (f := fun k2 => decide (k2 = k)) (by rw [dec_int, int_eq])
        · rintro H8 ⟨sm3, eD⟩
          refine ne_bools ((List.range 22).map fun k2 => decide (k2 = k)) (by rw [List.map_map]; exact sm3 _ _ e7) eD ?_
          refine ⟨_, rfl, iteF ?_⟩
          have sm8 := s7.trans sm3
          have xa := xa.same sm8
          have em := sm8 _ _ em
          refine kept_is (k := k) rfl ?_
          refine ⟨_, rfl, _, rfl, mm, _, _, .ref ak, rfl, rfl, .inl (.inl em), atI_nat ea, ak, C k, kd k, rfl, xa, T.v k hk, told_is T hk, fun H9 pb s9 n9 e9 => ?_⟩
          refine ⟨3, rfl, by decide, by decide, fun D nD => lc_range (lo := 0) (n := 3)
            (fun i H' => Same H9 H' ∧ H' D = some (.lst (((List.range i).map fun k2 => decide (k2 = kd k)).map V.bl)))
            ⟨same_new nD, upd_same⟩ ?_ ?_⟩
          · rintro i H' hi ⟨sm3, eD⟩
            rw [Int.zero_add]
            refine ⟨rfl, ?_⟩
            refine ⟨_, rfl, _, rfl, rfl, _, eD, ?_, ?_, ?_⟩
            · exact comp_len hi
            · exact comp_same sm3 nD
            · rw [upd_same]
              exact comp_next (f := fun k2 => decide (k2 = kd k)) (by rw [dec_int, int_eq])
          · rintro H10 ⟨sm10, eD⟩
            refine ne_bools ((List.range 3).map fun k2 => decide (k2 = kd k)) (by rw [List.map_map]; exact sm10 _ _ e9) eD ?_
            refine ⟨_, rfl, iteF ?_⟩
            have sm11 := s9.trans sm10
            have em := sm11 _ _ em
            have go := (sm2.trans sm8).trans sm11
            -- due
            have parity : ((k : Int) % 2 = 0) ↔ k % 2 = 0 := by omega
            have oo : Off j H2 H10 := Off.of (((all5.trans sm).trans all6).trans go)
            have okx : ∀ v, (v = x ∨ v = y) → ∃ d, Dx K H10 v d ∧ d.showable = true ∧ d.shown.length ≤ sizeLine ∧ d.depth ≤ 60 := by
              rintro v (rfl | rfl)
              · obtain ⟨d1, w1, w2, w3, w4⟩ := o1'
                exact ⟨d1, w1 _ oo, w2, Nat.le_of_lt (small1000 w3), w4⟩
              · obtain ⟨d1, w1, w2, w3, w4⟩ := o2
                exact ⟨d1, w1 _ oo, w2, Nat.le_of_lt (small1000 w3), w4⟩
            refine ⟨_, rfl, .inl ⟨_, rfl, _, _, rfl, rfl, (by show (0 : Int) < 2; decide), rfl, _, rfl, ite2 (fun e => ⟨_, rfl, ?_⟩) (fun e => ⟨_, rfl, ?_⟩)⟩⟩
            · have ev : (if k % 2 = 0 then x else y) = x := if_pos (parity.mp (V.int.inj (of_decide_eq_true e)))
              rw [ev] at ma
              obtain ⟨d1, w1, w2, w3, w4⟩ := okx x (.inl rfl)
              refine ⟨_, rfl, _, _, rfl, rfl, _, rfl, ite2 (fun lt => ?_) (fun nlt => ?_)⟩
              · have l21 : k < 21 := by
                  have := of_decide_eq_true lt
                  omega
                have mk := (ma l21).same go
                refine ⟨_, rfl, _, rfl, mm, _, _, .ref ak, rfl, rfl, .inl (.inl em), atI_nat ea, _, rfl, ak, k, x, rfl, mk, l21, x, d1, rfl, w1, w2, w3, w4, ?_⟩
                refine ⟨_, rfl, x, d1, rfl, w1, w2, w3, w4, rfl, _, rfl, iteNS rfl ?_⟩
                exact ⟨_, _, _, _, rfl, go⟩
              · exact ⟨_, _, _, _, rfl, go⟩
            · have ev : (if k % 2 = 0 then x else y) = y := if_neg fun z => e (decide_eq_true (congrArg V.int (parity.mpr z)))
              rw [ev] at ma
              obtain ⟨d1, w1, w2, w3, w4⟩ := okx y (.inr rfl)
              refine ⟨_, rfl, _, _, rfl, rfl, _, rfl, ite2 (fun lt => ?_) (fun nlt => ?_)⟩
              · have l21 : k < 21 := by
                  have := of_decide_eq_true lt
                  omega
                have mk := (ma l21).same go
                refine ⟨_, rfl, _, rfl, mm, _, _, .ref ak, rfl, rfl, .inl (.inl em), atI_nat ea, _, rfl, ak, k, y, rfl, mk, l21, y, d1, rfl, w1, w2, w3, w4, ?_⟩
                refine ⟨_, rfl, y, d1, rfl, w1, w2, w3, w4, rfl, _, rfl, iteNS rfl ?_⟩
                exact ⟨_, _, _, _, rfl, go⟩
              · exact ⟨_, _, _, _, rfl, go⟩
      · rintro σ H6 ⟨y4, y5, y6, y7, rfl, sm2⟩
        exact ⟨_, _, _, _, _, rfl, (sm.trans all6).trans sm2⟩
    · rintro σ H5 ⟨y3, y4, y5, y6, y7, rfl, sm⟩
      exact q _ ((f1.trans f2).trans (Off.of (all5.trans sm)))
end
end Sw

set_option Elab.async false
set_option linter.all false
set_option maxRecDepth 100000
set_option maxHeartbeats 16000000
namespace Sw
open PySem PySem.Spec PyProof.Rows L2
theorem scLaw : FnScope ["script", "plain_ones", "e", "k"] ["script"] (defScope sLaw) :=
  ⟨rfl, rfl, rfl, by decide +kernel, rfl, by decide +kernel, by decide +kernel⟩
section
variable {P : Program} {w : World} {K : PySem.W.Frag} {mg : Str → Option Value} {base : Heap} {C fI : Nat → Addr} {fd : Nat → FuncData} {B : Nat → Addr}
structure Tx3 (K : PySem.W.Frag) (mg : Str → Option Value) (B : Nat → Addr) (fR fJ : Addr) (dR dJ : FuncData) (t : Nat → Tok) : Prop where
  FR : Fun K "_law_right" "_law_right" sRight fR dR
  bR : Binds K dR ["jar"] []
  gR : mg "_law_right" = some (.ref fR)
  FJ : Fun K "_law_jar" "_law_jar" sJar fJ dJ
  bJ : Binds K dJ ["script", "k"] []
  gJ : mg "_law_jar" = some (.ref fJ)
  max : mg "max" = none
  min : mg "min" = none
  all : mg "all" = none
  m0 : mg "MOST_SWITCHES" = some (.int 5 (t 0))
  m1 : mg "MOST_SETTINGS" = some (.int 48 (t 1))
  m2 : mg "MOST_SEARCHED" = some (.int 16 (t 2))
  m3 : mg "MOST_COUNTED" = some (.int 8 (t 3))
  e0 : PySem.W.excIn K (B 0) [.type "ValueError", .type "Exception", .type "BaseException", .type "object"] "ValueError.__new__" = true
  e1 : PySem.W.excIn K (B 1) [.type "LookupError", .type "Exception", .type "BaseException", .type "object"] "LookupError.__new__" = true
  e2 : PySem.W.excIn K (B 2) [.type "ArithmeticError", .type "Exception", .type "BaseException", .type "object"] "ArithmeticError.__new__" = true
  k0 : PySem.W.keepIn K (.ref (B 0)) = true
  k1 : PySem.W.keepIn K (.ref (B 1)) = true
  k2 : PySem.W.keepIn K (.ref (B 2)) = true

theorem same_tup {H H' : Hp} {a : Addr} {xs : List V} (e : Same H H') (h : SqT K H a xs) : SqT K H' a xs := by
  rcases h with (h | ⟨o, h⟩) | h
  · exact .inl (.inl (e _ _ h))
  · exact .inl (.inr ⟨o, e _ _ h⟩)
  · exact .inr h
mutual
theorem dp_same {H H' : Hp} (s : Same H H') : ∀ {v : V} {d : PyData}, Dp K H v d → Dp K H' v d
  | _, _, .non => .non
  | _, _, .bl b => .bl b
  | _, _, .int i => .int i
  | _, _, .str x => .str x
  | _, _, .lst h r => .lst (s.seq h) (dpA_same s r)
  | _, _, .tup h r => .tup (same_tup s h) (dpA_same s r)
theorem dpA_same {H H' : Hp} (s : Same H H') : ∀ {vs : List V} {ds : List PyData}, DpAll K H vs ds → DpAll K H' vs ds
  | _, _, .nil => .nil
  | _, _, .cons h r => .cons (dp_same s h) (dpA_same s r)
end
theorem dpA_snoc {H : Hp} : ∀ {vs : List V} {ds : List PyData} {v : V} {d : PyData}, DpAll K H vs ds → Dp K H v d → DpAll K H (vs ++ [v]) (ds ++ [d])
  | _, _, _, _, .nil, h => .cons h .nil
  | _, _, _, _, .cons a r, h => .cons a (dpA_snoc r h)
theorem told_base (T : Tx1 P w K mg base C fI fd B) {k : Nat} (hk : k < 3) : Told3 K B (B k) k := fun j hj => ⟨T.isBB k j hk hj, T.isBT k j hk hj⟩
/-- the rows that the first comprehension has laid, none of them its own list -/
inductive Rows (D : Addr) (H : Hp) : Nat → List V → Prop
  | nil : Rows D H 0 []
  | snoc {i : Nat} {rs : List V} {p : Addr} : Rows D H i rs → p ≠ D → H p = some (.lst [.bl (decide (0 = i)), .bl (decide (1 = i)), .bl (decide (2 = i))]) → Rows D H (i + 1) (rs ++ [.ref p])
theorem Rows.off {D : Addr} {H H' : Hp} (f : Off D H H') : ∀ {i : Nat} {rs : List V}, Rows D H i rs → Rows D H' i rs
  | _, _, .nil => .nil
  | _, _, .snoc r n e => .snoc (Rows.off f r) n (f _ _ e n)
def row3 (k : Nat) : PyData := .list [.bool (decide (0 = k)), .bool (decide (1 = k)), .bool (decide (2 = k))]

theorem Rows.dp {D : Addr} {H : Hp} : ∀ {i : Nat} {rs : List V}, Rows D H i rs → DpAll K H rs ((List.range i).map row3)
  | _, _, .nil => .nil
  | i + 1, _, .snoc r _ e => by
    rw [List.range_succ, List.map_append]
    exact dpA_snoc (Rows.dp r) (.lst (.inl (.inl e)) (.cons (.bl _) (.cons (.bl _) (.cons (.bl _) .nil))))
theorem Rows.len {D : Addr} {H : Hp} : ∀ {i : Nat} {rs : List V}, Rows D H i rs → rs.length = i
  | _, _, .nil => rfl
  | _, _, .snoc r _ _ => by rw [List.length_append, Rows.len r]; rfl

def spLaw (K : PySem.W.Frag) : Sp := fun vs H Q _ => ∃ (a : Addr) (ns : List Int), vs = [.ref a] ∧ SqL K H a (ns.map V.int) ∧ ns.length ≤ 63 ∧ ∀ H', Q (.bl true) H'
theorem ok_law {f fR fJ : Addr} {fdf dR dJ : FuncData} {a : Nat → Addr} {d : Nat → FuncData} {t : Nat → Tok} (F : Fun K "law" "law" sLaw f fdf) (T : Tx1 P w K mg base C fI fd B) (L : Tx2 K mg C a d)
    (M : Tx3 K mg B fR fJ dR dJ t) : FnG P w K mg base 5 f fdf ["script"] (spLaw K) := by
  have GB : FnOk P w K mg base CX0 1 (a 2) (d 2) ["e"] (spBases K B) := ok_bases L.FB T
  have GR : FnG P w K mg base 4 fR dR ["jar"] spRight := ok_right M.FR T L
  have GJ : FnOk P w K mg base CX0 1 fJ dJ ["script", "k"] (spJar K) := ok_jar M.FJ L.J
  refine okG F scLaw (fun vs H Q E h => ?_) (fun cdv A outer s H vs Q E hr fr h => ?_)
  · obtain ⟨a, ns, rfl, _⟩ := h
    rfl
  · obtain ⟨a, ns, rfl, hS, hlen, q⟩ := h
    have hr1 : Room 1 (A.deeper (envOfC "law" (defScope sLaw) s.heap.objs.size f cdv)) := hr.mono (by decide)
    refine ⟨_, (pss_cons (ps_if (pt_cmpR (op_neD hr.units) (pe_lst (pa_cons (pe_glob (v := .int 5) (by rfl) M.m0 ⟨_, rfl⟩) (pa_cons (pe_glob (v := .int 48) (by rfl) M.m1 ⟨_, rfl⟩) (pa_cons (pe_glob (v := .int 16) (by rfl) M.m2 ⟨_, rfl⟩) (pa_cons (pe_glob (v := .int 8) (by rfl) M.m3 ⟨_, rfl⟩) pa_nil))))) (pe_lst (pa_cons pe_int (pa_cons pe_int (pa_cons pe_int (pa_cons pe_int pa_nil))))) (nomark _)) (pss_one (ps_ret pe_bl)) pss_nil)
      (pss_cons (ps_set (i := 1) scLaw.nd rfl (.inl rfl) (pe_lst (pa_cons (pe_ex0 (x := "WrongValue") PySem.F.excBase_ValueError M.e0 (T.gB 0 (by decide)) M.k0 (by rfl)) (pa_cons (pe_ex0 (x := "WrongName") PySem.F.excBase_LookupError M.e1 (T.gB 1 (by decide)) M.k1 (by rfl)) (pa_cons (pe_ex0 (x := "NotPossible") PySem.F.excBase_ArithmeticError M.e2 (T.gB 2 (by decide)) M.k2 (by rfl)) pa_nil)))))
      (pss_cons (ps_if (pt_cmpR (op_neD hr.units) (pe_lc (own := [("e", 2)]) (g := gName 2) (tt := tYes) rfl scLaw.nd (pi_list (pv 1)) (blkOk_by (N := ["script", "plain_ones", "e", "k"]) (sc := defScope sLaw) (by decide +kernel)) (fun _ _ _ _ _ => pg_name (i := 2) scLaw.nd rfl (Or.inl rfl)) (fun _ _ _ _ _ => pts_nil) (fun _ _ _ _ _ => (pe_call GB hr1 (by rfl) L.gB L.FB.kp L.bB .nil pass0 (pa_cons (pv 2) pa_nil)))) (pe_lst (pa_cons (pe_lst (pa_cons pe_bl (pa_cons pe_bl (pa_cons pe_bl pa_nil)))) (pa_cons (pe_lst (pa_cons pe_bl (pa_cons pe_bl (pa_cons pe_bl pa_nil)))) (pa_cons (pe_lst (pa_cons pe_bl (pa_cons pe_bl (pa_cons pe_bl pa_nil)))) pa_nil)))) (nomark _)) (pss_one (ps_ret pe_bl)) pss_nil)
      (pss_one (ps_ret (pe_callB (cr_all rfl) (by rfl) M.all (by decide +kernel) (pa_cons (pe_lc (own := [("k", 3)]) (g := gName 3) (tt := tYes) rfl scLaw.nd (pi_range1 rfl L.range (pa_cons (pe_callB (call_max2 rfl) (by rfl) M.max (by decide +kernel) (pa_cons pe_int (pa_cons (pe_callB (call_min2 rfl) (by rfl) M.min (by decide +kernel) (pa_cons (pe_callB call_len_seq (by rfl) L.J.len PySem.boot_len (pa_cons (pv 0) pa_nil)) (pa_cons pe_int pa_nil))) pa_nil))) pa_nil)) (blkOk_by (N := ["script", "plain_ones", "e", "k"]) (sc := defScope sLaw) (by decide +kernel)) (fun _ _ _ _ _ => pg_name (i := 3) scLaw.nd rfl (Or.inl rfl)) (fun _ _ _ _ _ => pts_nil) (fun _ _ _ _ _ => (pe_callG GR hr fr (by rfl) M.gR M.FR.kp M.bR .nil (pa_cons (pe_call GJ hr1 (by rfl) M.gJ M.FJ.kp M.bJ .nil pass0 (pa_cons (pv 0) (pa_cons (pv 3) pa_nil))) pa_nil)))) pa_nil))))))), ?_⟩
    -- the limits
    refine ⟨by show 4 ≤ sizeLine; decide, fun l1 n1 => ⟨by show 4 ≤ sizeLine; decide, fun l2 n2 => ?_⟩⟩
    have s1 := same_new (o := .lst [V.int 5, V.int 48, V.int 16, V.int 8]) n1
    have s2 := same_new (o := .lst [V.int 5, V.int 48, V.int 16, V.int 8]) n2
    have e1 := s2 _ _ (upd_same (H := H) (a := l1) (o := .lst [V.int 5, V.int 48, V.int 16, V.int 8]))
    refine ⟨.list [.int 5, .int 48, .int 16, .int 8], .list [.int 5, .int 48, .int 16, .int 8], .lst (.inl (.inl e1)) (.cons (.int _) (.cons (.int _) (.cons (.int _) (.cons (.int _) .nil)))),
      .lst (.inl (.inl upd_same)) (.cons (.int _) (.cons (.int _) (.cons (.int _) (.cons (.int _) .nil)))), by decide +kernel, by decide +kernel, ?_⟩
    refine ⟨false, congrArg V.bl (by decide +kernel), ?_⟩
    -- the base classes
    refine fun b0 m0 b1 m1 b2 m2 => ⟨by show 3 ≤ sizeLine; decide, fun l3 n3 => ?_⟩
    have u0 := same_new (o := ExO (.ref (B 0)) b0) m0
    have u1 := same_new (o := ExO (.ref (B 1)) b1) m1
    have u2 := same_new (o := ExO (.ref (B 2)) b2) m2
    have u3 := same_new (o := .lst [V.ref b0, V.ref b1, V.ref b2]) n3
    have x0 := u3 _ _ (u2 _ _ (u1 _ _ (upd_same (H := upd (upd H l1 (.lst [V.int 5, V.int 48, V.int 16, V.int 8])) l2 (.lst [V.int 5, V.int 48, V.int 16, V.int 8])) (a := b0) (o := ExO (.ref (B 0)) b0))))
    have x1 := u3 _ _ (u2 _ _ (upd_same (H := upd (upd (upd H l1 (.lst [V.int 5, V.int 48, V.int 16, V.int 8])) l2 (.lst [V.int 5, V.int 48, V.int 16, V.int 8])) b0 (ExO (.ref (B 0)) b0)) (a := b1) (o := ExO (.ref (B 1)) b1)))
    have x2 := u3 _ _ (upd_same (H := upd (upd (upd (upd H l1 (.lst [V.int 5, V.int 48, V.int 16, V.int 8])) l2 (.lst [V.int 5, V.int 48, V.int 16, V.int 8])) b0 (ExO (.ref (B 0)) b0)) b1 (ExO (.ref (B 1)) b1)) (a := b2) (o := ExO (.ref (B 2)) b2))
    have all4 := (((((s1.trans s2).trans u0).trans u1).trans u2).trans u3)
    refine ⟨_, rfl, l3, rfl, ⟨_, .inl (.inl upd_same)⟩, fun D nD => lc_list (K := K) (a := l3) (xs := [V.ref b0, V.ref b1, V.ref b2])
      (fun i H' => Same (upd (upd (upd (upd (upd (upd H l1 (.lst [V.int 5, V.int 48, V.int 16, V.int 8])) l2 (.lst [V.int 5, V.int 48, V.int 16, V.int 8])) b0 (ExO (.ref (B 0)) b0)) b1 (ExO (.ref (B 1)) b1)) b2 (ExO (.ref (B 2)) b2)) l3 (.lst [V.ref b0, V.ref b1, V.ref b2])) H' ∧
        ∃ rs, H' D = some (.lst rs) ∧ Rows D H' i rs)
      ⟨same_new nD, [], upd_same, .nil⟩ (fun i H' _ ⟨sm, _⟩ => .inl (.inl (sm _ _ upd_same))) ?_ ?_⟩
    · rintro i x H' hi ⟨sm, rs, eD, R⟩
      have ix : i < 3 := (List.getElem?_eq_some_iff.mp hi).1
      obtain ⟨b, rfl, xb⟩ : ∃ b, x = .ref b ∧ H' b = some (ExO (.ref (B i)) b) := by
        match i, hi with
        | 0, hi => exact ⟨b0, (Option.some.inj hi).symm, sm _ _ x0⟩
        | 1, hi => exact ⟨b1, (Option.some.inj hi).symm, sm _ _ x1⟩
        | 2, hi => exact ⟨b2, (Option.some.inj hi).symm, sm _ _ x2⟩
        | i + 3, hi => exact nomatch hi
      refine ⟨rfl, ?_⟩
      refine ⟨_, rfl, b, B i, i, rfl, .inl xb, T.vB i ix, told_base T ix, fun H5 p s5 n5 e5 => ⟨rs, s5 _ _ eD, ?_, ?_⟩⟩
      · rw [R.len]
        exact small1000 (by omega)
      · have ne : p ≠ D := fun z => by
          rw [z, eD] at n5
          cases n5
        refine ⟨comp_same (sm.trans s5) nD, _, upd_same, .snoc (R.off fun c o e n => ?_) ne ?_⟩
        · rw [upd_ne n]
          exact s5 c o e
        · rw [upd_ne ne]
          exact e5
    · rintro H6 ⟨sm, rs, eD, R⟩
      refine ⟨by show 3 ≤ sizeLine; decide, fun q1 w1 => ⟨by show 3 ≤ sizeLine; decide, fun q2 w2 => ⟨by show 3 ≤ sizeLine; decide, fun q3 w3 => ⟨by show 3 ≤ sizeLine; decide, fun q4 w4 => ?_⟩⟩⟩⟩
      have v1 := same_new (o := .lst [V.bl true, V.bl false, V.bl false]) w1
      have v2 := same_new (o := .lst [V.bl false, V.bl true, V.bl false]) w2
      have v3 := same_new (o := .lst [V.bl false, V.bl false, V.bl true]) w3
      have v4 := same_new (o := .lst [V.ref q1, V.ref q2, V.ref q3]) w4
      have z1 := v4 _ _ (v3 _ _ (v2 _ _ (upd_same (H := H6) (a := q1) (o := .lst [V.bl true, V.bl false, V.bl false]))))
      have z2 := v4 _ _ (v3 _ _ (upd_same (H := upd H6 q1 (.lst [V.bl true, V.bl false, V.bl false])) (a := q2) (o := .lst [V.bl false, V.bl true, V.bl false])))
      have z3 := v4 _ _ (upd_same (H := upd (upd H6 q1 (.lst [V.bl true, V.bl false, V.bl false])) q2 (.lst [V.bl false, V.bl true, V.bl false])) (a := q3) (o := .lst [V.bl false, V.bl false, V.bl true]))
      have up := ((v1.trans v2).trans v3).trans v4
      refine ⟨.list ((List.range 3).map row3), .list [.list [.bool true, .bool false, .bool false], .list [.bool false, .bool true, .bool false], .list [.bool false, .bool false, .bool true]],
        .lst (.inl (.inl (up _ _ eD))) (dpA_same up R.dp),
        .lst (.inl (.inl upd_same)) (.cons (.lst (.inl (.inl z1)) (.cons (.bl _) (.cons (.bl _) (.cons (.bl _) .nil)))) (.cons (.lst (.inl (.inl z2)) (.cons (.bl _) (.cons (.bl _) (.cons (.bl _) .nil))))
          (.cons (.lst (.inl (.inl z3)) (.cons (.bl _) (.cons (.bl _) (.cons (.bl _) .nil)))) .nil))), by decide +kernel, by decide +kernel, ?_⟩
      refine ⟨false, congrArg V.bl (by decide +kernel), ?_⟩
      have hS7 := (((all4.trans sm).trans up)).seq hS
      generalize eM : (if (if (4 : Int) < ((ns.map V.int).length : Int) then (4 : Int) else ((ns.map V.int).length : Int)) > 2 then (if (4 : Int) < ((ns.map V.int).length : Int) then (4 : Int) else ((ns.map V.int).length : Int)) else (2 : Int)) = mm
      have m0 : 0 ≤ mm ∧ mm ≤ 4 := by
        rw [← eM]
        split <;> split <;> omega
      obtain ⟨n, rfl⟩ := Int.eq_ofNat_of_zero_le m0.1
      have hn : n ≤ 4 := by omega
      refine ⟨_, rfl, a, _, rfl, .inl hS7, _, _, rfl, _, _, rfl, n, congrArg (fun z => [V.int z]) eM, by omega, by omega, fun D2 nD2 => ?_⟩
      refine lc_range (lo := 0) (n := n)
        (fun i H' => Same (upd (upd (upd (upd H6 q1 (.lst [V.bl true, V.bl false, V.bl false])) q2 (.lst [V.bl false, V.bl true, V.bl false])) q3 (.lst [V.bl false, V.bl false, V.bl true])) q4 (.lst [V.ref q1, V.ref q2, V.ref q3])) H' ∧
          H' D2 = some (.lst (((List.range i).map fun _ => true).map V.bl)))
        ⟨same_new nD2, upd_same⟩ ?_ ?_
      · rintro i H' hi ⟨sm8, eD2⟩
        rw [Int.zero_add]
        refine ⟨rfl, ?_⟩
        refine ⟨_, rfl, _, rfl, a, ns, i, rfl, sm8.seq hS7, hlen, by omega, fun H9 p s9 n9 j9 => ⟨p, rfl, j9, fun H10 off => ⟨((List.range i).map fun _ => true).map V.bl, ?_, ?_, ?_, ?_⟩⟩⟩
        · refine off _ _ (s9 _ _ eD2) fun z => ?_
          rw [z] at eD2
          rw [eD2] at n9
          cases n9
        · exact comp_len (n := 5) (by omega)
        · refine comp_same (fun c o e => ?_) nD2
          have e8 := sm8 c o e
          refine off _ _ (s9 _ _ e8) fun z => ?_
          rw [z] at e8
          rw [e8] at n9
          cases n9
        · rw [upd_same]
          exact comp_next (f := fun _ => true) rfl
      · rintro H11 ⟨sm11, eD2⟩
        refine ⟨D2, _, rfl, .inl (.inl eD2), ?_⟩
        have e : ((List.range n).map fun _ => true).all id = true := by
          rw [List.all_eq_true]
          intro b hb
          obtain ⟨_, _, rfl⟩ := List.mem_map.mp hb
          rfl
        rw [e]
        exact q _
end
end Sw

set_option Elab.async false
set_option linter.all false
set_option maxRecDepth 100000
set_option maxHeartbeats 16000000
namespace Sw
open PySem PySem.Spec PyProof.Rows L2
def tlO : Nat → List Value
  | 0 => [.type "ValueError", .type "Exception", .type "BaseException", .type "object"]
  | 1 => [.type "LookupError", .type "Exception", .type "BaseException", .type "object"]
  | _ => [.type "ArithmeticError", .type "Exception", .type "BaseException", .type "object"]
def nwO : Nat → String
  | 0 => "ValueError.__new__"
  | 1 => "LookupError.__new__"
  | _ => "ArithmeticError.__new__"
def okV (K : PySem.W.Frag) (c : Addr) : Bool :=
  PySem.W.hasDictIn K c && (decide (PySem.W.findIn K (.ref c) "__getattribute__" = some (some (.builtin "BaseException.__getattribute__"))) &&
  (decide (PySem.W.findIn K (.ref c) "__getattr__" = some none) && (decide (PySem.W.subIn K (.ref c) (.type "BaseException") = some true) &&
  (decide (PySem.W.findIn K (.ref c) "__class__" = some (some (.builtin "object.__class__"))) && decide (PySem.W.mroIn K c (.type "object") = some true)))))
def okO (K : PySem.W.Frag) (k : Nat) (c f : Addr) (x : Str) : Bool :=
  PySem.W.excInitIn K c (tlO k) (nwO k) && (PySem.W.excOver K c (tlO k) && (decide (PySem.W.findIn K (.ref c) "__setattr__" = some (some (.builtin "object.__setattr__"))) &&
  (PySem.W.keepIn K (.ref c) && (decide (PySem.W.typeIn K (.ref f) = some (.type "function")) && decide (PySem.W.findIn K (.ref c) x = some none)))))
def ok2 (K : PySem.W.Frag) : Bool :=
  decide (PySem.W.specialIn K (.builtin "object.__class__") "__get__" = some (some (.builtin "getset_descriptor.__get__"))) && decide (PySem.W.takesIn K (.builtin "object.__class__") = some true)
def bare : List Str := ["isinstance", "repr", "range", "len", "int", "abs", "max", "min", "all", "ValueError", "LookupError", "ArithmeticError"]
def okM (K : PySem.W.Frag) (cs bs : List Addr) : Bool :=
  (List.range 22).all fun i => ((List.range 22).all fun j => decide (PySem.W.kitOne K (.ref (cs.getD i 0)) (.ref (cs.getD j 0)) = some (decide (j = i)))) &&
    ((List.range 3).all fun j => decide (PySem.W.kitOne K (.ref (cs.getD i 0)) (.ref (bs.getD j 0)) = some (decide (j = kd i))) &&
      decide (PySem.W.kitOne K (.ref (cs.getD i 0)) (.type (tn j)) = some (decide (j = kd i))))
def okB (K : PySem.W.Frag) (bs : List Addr) : Bool :=
  (List.range 3).all fun i => PySem.W.excIn K (bs.getD i 0) (tlO i) (nwO i) && (PySem.W.keepIn K (.ref (bs.getD i 0)) &&
    ((List.range 3).all fun j => decide (PySem.W.kitOne K (.ref (bs.getD i 0)) (.ref (bs.getD j 0)) = some (decide (j = i))) &&
      decide (PySem.W.kitOne K (.ref (bs.getD i 0)) (.type (tn j)) = some (decide (j = i)))))
def okAll (K : PySem.W.Frag) (cs bs fs : List Addr) : Bool :=
  ((List.range 22).all fun i => okV K (cs.getD i 0)) && (((List.range 3).all fun i => okV K (bs.getD i 0)) && (((List.range 21).all fun i => okO K (kd i) (cs.getD i 0) (fs.getD i 0) (fl i)) &&
  (ok2 K && (okM K cs bs && (okB K bs && ((bare.all fun n => decide (PySem.W.nsIn K mainGlobals n = some none)) &&
  (PySem.W.excIn K (cs.getD 21 0) (tlO 2) (nwO 2) && PySem.W.keepIn K (.ref (cs.getD 21 0)))))))))
theorem and2 {a b : Bool} (h : (a && b) = true) : a = true ∧ b = true := Bool.and_eq_true_iff.mp h
theorem rng {n i : Nat} {p : Nat → Bool} (h : (List.range n).all p = true) (hi : i < n) : p i = true := List.all_eq_true.mp h i (List.mem_range.mpr hi)
theorem mkV {K : PySem.W.Frag} {c : Addr} (h : okV K c = true) (h2 : ok2 K = true) : OxV K c := by
  obtain ⟨a1, h⟩ := and2 h
  obtain ⟨a2, h⟩ := and2 h
  obtain ⟨a3, h⟩ := and2 h
  obtain ⟨a4, h⟩ := and2 h
  obtain ⟨a5, a6⟩ := and2 h
  obtain ⟨b1, b2⟩ := and2 h2
  exact ⟨a1, of_decide_eq_true a2, of_decide_eq_true a3, of_decide_eq_true a4, of_decide_eq_true a5, of_decide_eq_true b1, of_decide_eq_true b2, of_decide_eq_true a6⟩
theorem mkRow {K : PySem.W.Frag} {k : Nat} {c f : Addr} {x : Str} (h : okO K k c f x = true) (hk : k < 3) : ∃ B newId initId tl, OxC K c B newId initId tl := by
  obtain ⟨a1, h⟩ := and2 h
  obtain ⟨a2, h⟩ := and2 h
  obtain ⟨a3, h⟩ := and2 h
  match k, hk with
  | 0, _ => exact ⟨_, _, _, _, PySem.F.excBase_ValueError, PySem.F.store_ValueError, a1, a2, of_decide_eq_true a3⟩
  | 1, _ => exact ⟨_, _, _, _, PySem.F.excBase_LookupError, PySem.F.store_LookupError, a1, a2, of_decide_eq_true a3⟩
  | 2, _ => exact ⟨_, _, _, _, PySem.F.excBase_ArithmeticError, PySem.F.store_ArithmeticError, a1, a2, of_decide_eq_true a3⟩
theorem kd_lt (i : Nat) : kd i < 3 := by
  unfold kd
  split
  · decide
  · split <;> decide
theorem mkOx {P : Program} {w : World} {K : PySem.W.Frag} {mg : Str → Option Value} {base : Heap} {k : Nat} {c fA : Addr} {x f : Str} {fd : FuncData} {qual : Str} {st : Stmt} {p1 p2 p3 p4 : Pos}
    (ho : okO K k c fA f = true) (hk : k < 3) (hv : OxV K c) (g : mg x = some (.ref c)) (ai : PySem.W.findIn K (.ref c) "__init__" = some (some (.ref fA)))
    (F : Fun K "__init__" qual st fA fd) (S : FnScope ["self", f] ["self", f] (defScope st))
    (hb : defBody st = [.Assign [.Attribute (.Name "self" p1) f p2] (.Name f p3) p4])
    (v0 : Vis (defScope st) "self") (v1 : Vis (defScope st) f) (d1 : (f == ("__debug__" : Str)) = false) (d2 : (f == ("__classdict__" : Str)) = false)
    (b1 : Binds K fd ["self", f] []) (b2 : ∀ (s : Shared) (a u : Value), BindsTo s fd ⟨[a], [(f, u)]⟩ [("self", a), (f, u)]) : OxM P w K mg base x f c fA fd := by
  obtain ⟨a1, h⟩ := and2 ho
  obtain ⟨a2, h⟩ := and2 h
  obtain ⟨a3, h⟩ := and2 h
  obtain ⟨a4, h⟩ := and2 h
  obtain ⟨a5, a6⟩ := and2 h
  obtain ⟨B, newId, initId, tl, T⟩ := mkRow ho hk
  exact ⟨⟨B, newId, initId, tl, T⟩, hv, g, a4, ai, of_decide_eq_true a5, ok_ini F S hb v0 v1 d1 d2 T hv.hd (of_decide_eq_true a6), b1, b2⟩
theorem all_mk {l : PySem.W.OpenLaw} {w : World} {K : PySem.W.Frag} {h : Heap} {mg : Str → Option Value} {fa : Addr} (X : K.In h) (G : h.Ns mainGlobals mg) (hfa : mg "law" = some (.ref fa))
    {c0 c1 c2 c3 c4 c5 c6 c7 c8 c9 c10 c11 c12 c13 c14 c15 c16 c17 c18 c19 c20 c21 b0 b1 b2 f0 f1 f2 f3 f4 f5 f6 f7 f8 f9 f10 f11 f12 f13 f14 f15 f16 f17 f18 f19 f20 g0 g1 g2 g3 g4 g5 g6 g7 g8 g9 g10 : Addr} {t0 t1 t2 t3 : Tok}
    {ocI0 kVI0 dcI0 pmI0 cdI0 ctI0 : Value} {odI0 anI0 : Option Addr} {slI0 : Array (Option Value)}
    {ocI1 kVI1 dcI1 pmI1 cdI1 ctI1 : Value} {odI1 anI1 : Option Addr} {slI1 : Array (Option Value)}
    {ocI2 kVI2 dcI2 pmI2 cdI2 ctI2 : Value} {odI2 anI2 : Option Addr} {slI2 : Array (Option Value)}
    {ocI3 kVI3 dcI3 pmI3 cdI3 ctI3 : Value} {odI3 anI3 : Option Addr} {slI3 : Array (Option Value)}
    {ocI4 kVI4 dcI4 pmI4 cdI4 ctI4 : Value} {odI4 anI4 : Option Addr} {slI4 : Array (Option Value)}
    {ocI5 kVI5 dcI5 pmI5 cdI5 ctI5 : Value} {odI5 anI5 : Option Addr} {slI5 : Array (Option Value)}
    {ocI6 kVI6 dcI6 pmI6 cdI6 ctI6 : Value} {odI6 anI6 : Option Addr} {slI6 : Array (Option Value)}
    {ocI7 kVI7 dcI7 pmI7 cdI7 ctI7 : Value} {odI7 anI7 : Option Addr} {slI7 : Array (Option Value)}
    {ocI8 kVI8 dcI8 pmI8 cdI8 ctI8 : Value} {odI8 anI8 : Option Addr} {slI8 : Array (Option Value)}
    {ocI9 kVI9 dcI9 pmI9 cdI9 ctI9 : Value} {odI9 anI9 : Option Addr} {slI9 : Array (Option Value)}
    {ocI10 kVI10 dcI10 pmI10 cdI10 ctI10 : Value} {odI10 anI10 : Option Addr} {slI10 : Array (Option Value)}
    {ocI11 kVI11 dcI11 pmI11 cdI11 ctI11 : Value} {odI11 anI11 : Option Addr} {slI11 : Array (Option Value)}
    {ocI12 kVI12 dcI12 pmI12 cdI12 ctI12 : Value} {odI12 anI12 : Option Addr} {slI12 : Array (Option Value)}
    {ocI13 kVI13 dcI13 pmI13 cdI13 ctI13 : Value} {odI13 anI13 : Option Addr} {slI13 : Array (Option Value)}
    {ocI14 kVI14 dcI14 pmI14 cdI14 ctI14 : Value} {odI14 anI14 : Option Addr} {slI14 : Array (Option Value)}
    {ocI15 kVI15 dcI15 pmI15 cdI15 ctI15 : Value} {odI15 anI15 : Option Addr} {slI15 : Array (Option Value)}
    {ocI16 kVI16 dcI16 pmI16 cdI16 ctI16 : Value} {odI16 anI16 : Option Addr} {slI16 : Array (Option Value)}
    {ocI17 kVI17 dcI17 pmI17 cdI17 ctI17 : Value} {odI17 anI17 : Option Addr} {slI17 : Array (Option Value)}
    {ocI18 kVI18 dcI18 pmI18 cdI18 ctI18 : Value} {odI18 anI18 : Option Addr} {slI18 : Array (Option Value)}
    {ocI19 kVI19 dcI19 pmI19 cdI19 ctI19 : Value} {odI19 anI19 : Option Addr} {slI19 : Array (Option Value)}
    {ocI20 kVI20 dcI20 pmI20 cdI20 ctI20 : Value} {odI20 anI20 : Option Addr} {slI20 : Array (Option Value)}
    {ocF0 kVF0 dcF0 pmF0 cdF0 ctF0 : Value} {odF0 anF0 : Option Addr} {slF0 : Array (Option Value)}
    {ocF1 kVF1 dcF1 pmF1 cdF1 ctF1 : Value} {odF1 anF1 : Option Addr} {slF1 : Array (Option Value)}
    {ocF2 kVF2 dcF2 pmF2 cdF2 ctF2 : Value} {odF2 anF2 : Option Addr} {slF2 : Array (Option Value)}
    {ocF3 kVF3 dcF3 pmF3 cdF3 ctF3 : Value} {odF3 anF3 : Option Addr} {slF3 : Array (Option Value)}
    {ocF4 kVF4 dcF4 pmF4 cdF4 ctF4 : Value} {odF4 anF4 : Option Addr} {slF4 : Array (Option Value)}
    {ocF5 kVF5 dcF5 pmF5 cdF5 ctF5 : Value} {odF5 anF5 : Option Addr} {slF5 : Array (Option Value)}
    {ocF6 kVF6 dcF6 pmF6 cdF6 ctF6 : Value} {odF6 anF6 : Option Addr} {slF6 : Array (Option Value)}
    {ocF7 kVF7 dcF7 pmF7 cdF7 ctF7 : Value} {odF7 anF7 : Option Addr} {slF7 : Array (Option Value)}
    {ocF8 kVF8 dcF8 pmF8 cdF8 ctF8 : Value} {odF8 anF8 : Option Addr} {slF8 : Array (Option Value)}
    {ocF9 kVF9 dcF9 pmF9 cdF9 ctF9 : Value} {odF9 anF9 : Option Addr} {slF9 : Array (Option Value)}
    {ocF10 kVF10 dcF10 pmF10 cdF10 ctF10 : Value} {odF10 anF10 : Option Addr} {slF10 : Array (Option Value)}
    (ac0 : PySem.W.nsIn K mainGlobals "InvalidText" = some (some (.ref c0)))
    (ac1 : PySem.W.nsIn K mainGlobals "InvalidPart" = some (some (.ref c1)))
    (ac2 : PySem.W.nsIn K mainGlobals "InvalidSquare" = some (some (.ref c2)))
    (ac3 : PySem.W.nsIn K mainGlobals "InvalidFact" = some (some (.ref c3)))
    (ac4 : PySem.W.nsIn K mainGlobals "InvalidIndex" = some (some (.ref c4)))
    (ac5 : PySem.W.nsIn K mainGlobals "InvalidWish" = some (some (.ref c5)))
    (ac6 : PySem.W.nsIn K mainGlobals "InvalidCommand" = some (some (.ref c6)))
    (ac7 : PySem.W.nsIn K mainGlobals "NotABoard" = some (some (.ref c7)))
    (ac8 : PySem.W.nsIn K mainGlobals "NotNotes" = some (some (.ref c8)))
    (ac9 : PySem.W.nsIn K mainGlobals "NotARanking" = some (some (.ref c9)))
    (ac10 : PySem.W.nsIn K mainGlobals "OtherBoard" = some (some (.ref c10)))
    (ac11 : PySem.W.nsIn K mainGlobals "SameSetting" = some (some (.ref c11)))
    (ac12 : PySem.W.nsIn K mainGlobals "InvalidSizes" = some (some (.ref c12)))
    (ac13 : PySem.W.nsIn K mainGlobals "InvalidFacts" = some (some (.ref c13)))
    (ac14 : PySem.W.nsIn K mainGlobals "InvalidOrder" = some (some (.ref c14)))
    (ac15 : PySem.W.nsIn K mainGlobals "InvalidPeaks" = some (some (.ref c15)))
    (ac16 : PySem.W.nsIn K mainGlobals "InvalidWalks" = some (some (.ref c16)))
    (ac17 : PySem.W.nsIn K mainGlobals "InvalidRests" = some (some (.ref c17)))
    (ac18 : PySem.W.nsIn K mainGlobals "UnknownSetting" = some (some (.ref c18)))
    (ac19 : PySem.W.nsIn K mainGlobals "TooMany" = some (some (.ref c19)))
    (ac20 : PySem.W.nsIn K mainGlobals "Broken" = some (some (.ref c20)))
    (ac21 : PySem.W.nsIn K mainGlobals "NothingToUndo" = some (some (.ref c21)))
    (ab0 : PySem.W.nsIn K mainGlobals "WrongValue" = some (some (.ref b0)))
    (ab1 : PySem.W.nsIn K mainGlobals "WrongName" = some (some (.ref b1)))
    (ab2 : PySem.W.nsIn K mainGlobals "NotPossible" = some (some (.ref b2)))
    (ai0 : PySem.W.findIn K (.ref c0) "__init__" = some (some (.ref f0)))
    (lI0 : K.lookup f0 = some ⟨ocI0, odI0, .func (PySem.W.fnOf "__init__" "InvalidText.__init__" (defArgs (inClass (topS 2) 0)) (defBody (inClass (topS 2) 0)) (defScope (inClass (topS 2) 0)) .none kVI0 dcI0 pmI0 anI0 cdI0 ctI0), slI0⟩)
    (dI0 : PySem.W.codeIn K cdI0 "InvalidText.__init__" = true)
    (kI0 : PySem.W.keepIn K (.ref f0) = true)
    (ai1 : PySem.W.findIn K (.ref c1) "__init__" = some (some (.ref f1)))
    (lI1 : K.lookup f1 = some ⟨ocI1, odI1, .func (PySem.W.fnOf "__init__" "InvalidPart.__init__" (defArgs (inClass (topS 3) 0)) (defBody (inClass (topS 3) 0)) (defScope (inClass (topS 3) 0)) .none kVI1 dcI1 pmI1 anI1 cdI1 ctI1), slI1⟩)
    (dI1 : PySem.W.codeIn K cdI1 "InvalidPart.__init__" = true)
    (kI1 : PySem.W.keepIn K (.ref f1) = true)
    (ai2 : PySem.W.findIn K (.ref c2) "__init__" = some (some (.ref f2)))
    (lI2 : K.lookup f2 = some ⟨ocI2, odI2, .func (PySem.W.fnOf "__init__" "InvalidSquare.__init__" (defArgs (inClass (topS 4) 0)) (defBody (inClass (topS 4) 0)) (defScope (inClass (topS 4) 0)) .none kVI2 dcI2 pmI2 anI2 cdI2 ctI2), slI2⟩)
    (dI2 : PySem.W.codeIn K cdI2 "InvalidSquare.__init__" = true)
    (kI2 : PySem.W.keepIn K (.ref f2) = true)
    (ai3 : PySem.W.findIn K (.ref c3) "__init__" = some (some (.ref f3)))
    (lI3 : K.lookup f3 = some ⟨ocI3, odI3, .func (PySem.W.fnOf "__init__" "InvalidFact.__init__" (defArgs (inClass (topS 5) 0)) (defBody (inClass (topS 5) 0)) (defScope (inClass (topS 5) 0)) .none kVI3 dcI3 pmI3 anI3 cdI3 ctI3), slI3⟩)
    (dI3 : PySem.W.codeIn K cdI3 "InvalidFact.__init__" = true)
    (kI3 : PySem.W.keepIn K (.ref f3) = true)
    (ai4 : PySem.W.findIn K (.ref c4) "__init__" = some (some (.ref f4)))
    (lI4 : K.lookup f4 = some ⟨ocI4, odI4, .func (PySem.W.fnOf "__init__" "InvalidIndex.__init__" (defArgs (inClass (topS 6) 0)) (defBody (inClass (topS 6) 0)) (defScope (inClass (topS 6) 0)) .none kVI4 dcI4 pmI4 anI4 cdI4 ctI4), slI4⟩)
    (dI4 : PySem.W.codeIn K cdI4 "InvalidIndex.__init__" = true)
    (kI4 : PySem.W.keepIn K (.ref f4) = true)
    (ai5 : PySem.W.findIn K (.ref c5) "__init__" = some (some (.ref f5)))
    (lI5 : K.lookup f5 = some ⟨ocI5, odI5, .func (PySem.W.fnOf "__init__" "InvalidWish.__init__" (defArgs (inClass (topS 7) 0)) (defBody (inClass (topS 7) 0)) (defScope (inClass (topS 7) 0)) .none kVI5 dcI5 pmI5 anI5 cdI5 ctI5), slI5⟩)
    (dI5 : PySem.W.codeIn K cdI5 "InvalidWish.__init__" = true)
    (kI5 : PySem.W.keepIn K (.ref f5) = true)
    (ai6 : PySem.W.findIn K (.ref c6) "__init__" = some (some (.ref f6)))
    (lI6 : K.lookup f6 = some ⟨ocI6, odI6, .func (PySem.W.fnOf "__init__" "InvalidCommand.__init__" (defArgs (inClass (topS 8) 0)) (defBody (inClass (topS 8) 0)) (defScope (inClass (topS 8) 0)) .none kVI6 dcI6 pmI6 anI6 cdI6 ctI6), slI6⟩)
    (dI6 : PySem.W.codeIn K cdI6 "InvalidCommand.__init__" = true)
    (kI6 : PySem.W.keepIn K (.ref f6) = true)
    (ai7 : PySem.W.findIn K (.ref c7) "__init__" = some (some (.ref f7)))
    (lI7 : K.lookup f7 = some ⟨ocI7, odI7, .func (PySem.W.fnOf "__init__" "NotABoard.__init__" (defArgs (inClass (topS 9) 0)) (defBody (inClass (topS 9) 0)) (defScope (inClass (topS 9) 0)) .none kVI7 dcI7 pmI7 anI7 cdI7 ctI7), slI7⟩)
    (dI7 : PySem.W.codeIn K cdI7 "NotABoard.__init__" = true)
    (kI7 : PySem.W.keepIn K (.ref f7) = true)
    (ai8 : PySem.W.findIn K (.ref c8) "__init__" = some (some (.ref f8)))
    (lI8 : K.lookup f8 = some ⟨ocI8, odI8, .func (PySem.W.fnOf "__init__" "NotNotes.__init__" (defArgs (inClass (topS 10) 0)) (defBody (inClass (topS 10) 0)) (defScope (inClass (topS 10) 0)) .none kVI8 dcI8 pmI8 anI8 cdI8 ctI8), slI8⟩)
    (dI8 : PySem.W.codeIn K cdI8 "NotNotes.__init__" = true)
    (kI8 : PySem.W.keepIn K (.ref f8) = true)
    (ai9 : PySem.W.findIn K (.ref c9) "__init__" = some (some (.ref f9)))
    (lI9 : K.lookup f9 = some ⟨ocI9, odI9, .func (PySem.W.fnOf "__init__" "NotARanking.__init__" (defArgs (inClass (topS 11) 0)) (defBody (inClass (topS 11) 0)) (defScope (inClass (topS 11) 0)) .none kVI9 dcI9 pmI9 anI9 cdI9 ctI9), slI9⟩)
    (dI9 : PySem.W.codeIn K cdI9 "NotARanking.__init__" = true)
    (kI9 : PySem.W.keepIn K (.ref f9) = true)
    (ai10 : PySem.W.findIn K (.ref c10) "__init__" = some (some (.ref f10)))
    (lI10 : K.lookup f10 = some ⟨ocI10, odI10, .func (PySem.W.fnOf "__init__" "OtherBoard.__init__" (defArgs (inClass (topS 12) 0)) (defBody (inClass (topS 12) 0)) (defScope (inClass (topS 12) 0)) .none kVI10 dcI10 pmI10 anI10 cdI10 ctI10), slI10⟩)
    (dI10 : PySem.W.codeIn K cdI10 "OtherBoard.__init__" = true)
    (kI10 : PySem.W.keepIn K (.ref f10) = true)
    (ai11 : PySem.W.findIn K (.ref c11) "__init__" = some (some (.ref f11)))
    (lI11 : K.lookup f11 = some ⟨ocI11, odI11, .func (PySem.W.fnOf "__init__" "SameSetting.__init__" (defArgs (inClass (topS 13) 0)) (defBody (inClass (topS 13) 0)) (defScope (inClass (topS 13) 0)) .none kVI11 dcI11 pmI11 anI11 cdI11 ctI11), slI11⟩)
    (dI11 : PySem.W.codeIn K cdI11 "SameSetting.__init__" = true)
    (kI11 : PySem.W.keepIn K (.ref f11) = true)
    (ai12 : PySem.W.findIn K (.ref c12) "__init__" = some (some (.ref f12)))
    (lI12 : K.lookup f12 = some ⟨ocI12, odI12, .func (PySem.W.fnOf "__init__" "InvalidSizes.__init__" (defArgs (inClass (topS 14) 0)) (defBody (inClass (topS 14) 0)) (defScope (inClass (topS 14) 0)) .none kVI12 dcI12 pmI12 anI12 cdI12 ctI12), slI12⟩)
    (dI12 : PySem.W.codeIn K cdI12 "InvalidSizes.__init__" = true)
    (kI12 : PySem.W.keepIn K (.ref f12) = true)
    (ai13 : PySem.W.findIn K (.ref c13) "__init__" = some (some (.ref f13)))
    (lI13 : K.lookup f13 = some ⟨ocI13, odI13, .func (PySem.W.fnOf "__init__" "InvalidFacts.__init__" (defArgs (inClass (topS 15) 0)) (defBody (inClass (topS 15) 0)) (defScope (inClass (topS 15) 0)) .none kVI13 dcI13 pmI13 anI13 cdI13 ctI13), slI13⟩)
    (dI13 : PySem.W.codeIn K cdI13 "InvalidFacts.__init__" = true)
    (kI13 : PySem.W.keepIn K (.ref f13) = true)
    (ai14 : PySem.W.findIn K (.ref c14) "__init__" = some (some (.ref f14)))
    (lI14 : K.lookup f14 = some ⟨ocI14, odI14, .func (PySem.W.fnOf "__init__" "InvalidOrder.__init__" (defArgs (inClass (topS 16) 0)) (defBody (inClass (topS 16) 0)) (defScope (inClass (topS 16) 0)) .none kVI14 dcI14 pmI14 anI14 cdI14 ctI14), slI14⟩)
    (dI14 : PySem.W.codeIn K cdI14 "InvalidOrder.__init__" = true)
    (kI14 : PySem.W.keepIn K (.ref f14) = true)
    (ai15 : PySem.W.findIn K (.ref c15) "__init__" = some (some (.ref f15)))
    (lI15 : K.lookup f15 = some ⟨ocI15, odI15, .func (PySem.W.fnOf "__init__" "InvalidPeaks.__init__" (defArgs (inClass (topS 17) 0)) (defBody (inClass (topS 17) 0)) (defScope (inClass (topS 17) 0)) .none kVI15 dcI15 pmI15 anI15 cdI15 ctI15), slI15⟩)
    (dI15 : PySem.W.codeIn K cdI15 "InvalidPeaks.__init__" = true)
    (kI15 : PySem.W.keepIn K (.ref f15) = true)
    (ai16 : PySem.W.findIn K (.ref c16) "__init__" = some (some (.ref f16)))
    (lI16 : K.lookup f16 = some ⟨ocI16, odI16, .func (PySem.W.fnOf "__init__" "InvalidWalks.__init__" (defArgs (inClass (topS 18) 0)) (defBody (inClass (topS 18) 0)) (defScope (inClass (topS 18) 0)) .none kVI16 dcI16 pmI16 anI16 cdI16 ctI16), slI16⟩)
    (dI16 : PySem.W.codeIn K cdI16 "InvalidWalks.__init__" = true)
    (kI16 : PySem.W.keepIn K (.ref f16) = true)
    (ai17 : PySem.W.findIn K (.ref c17) "__init__" = some (some (.ref f17)))
    (lI17 : K.lookup f17 = some ⟨ocI17, odI17, .func (PySem.W.fnOf "__init__" "InvalidRests.__init__" (defArgs (inClass (topS 19) 0)) (defBody (inClass (topS 19) 0)) (defScope (inClass (topS 19) 0)) .none kVI17 dcI17 pmI17 anI17 cdI17 ctI17), slI17⟩)
    (dI17 : PySem.W.codeIn K cdI17 "InvalidRests.__init__" = true)
    (kI17 : PySem.W.keepIn K (.ref f17) = true)
    (ai18 : PySem.W.findIn K (.ref c18) "__init__" = some (some (.ref f18)))
    (lI18 : K.lookup f18 = some ⟨ocI18, odI18, .func (PySem.W.fnOf "__init__" "UnknownSetting.__init__" (defArgs (inClass (topS 21) 0)) (defBody (inClass (topS 21) 0)) (defScope (inClass (topS 21) 0)) .none kVI18 dcI18 pmI18 anI18 cdI18 ctI18), slI18⟩)
    (dI18 : PySem.W.codeIn K cdI18 "UnknownSetting.__init__" = true)
    (kI18 : PySem.W.keepIn K (.ref f18) = true)
    (ai19 : PySem.W.findIn K (.ref c19) "__init__" = some (some (.ref f19)))
    (lI19 : K.lookup f19 = some ⟨ocI19, odI19, .func (PySem.W.fnOf "__init__" "TooMany.__init__" (defArgs (inClass (topS 24) 0)) (defBody (inClass (topS 24) 0)) (defScope (inClass (topS 24) 0)) .none kVI19 dcI19 pmI19 anI19 cdI19 ctI19), slI19⟩)
    (dI19 : PySem.W.codeIn K cdI19 "TooMany.__init__" = true)
    (kI19 : PySem.W.keepIn K (.ref f19) = true)
    (ai20 : PySem.W.findIn K (.ref c20) "__init__" = some (some (.ref f20)))
    (lI20 : K.lookup f20 = some ⟨ocI20, odI20, .func (PySem.W.fnOf "__init__" "Broken.__init__" (defArgs (inClass (topS 25) 0)) (defBody (inClass (topS 25) 0)) (defScope (inClass (topS 25) 0)) .none kVI20 dcI20 pmI20 anI20 cdI20 ctI20), slI20⟩)
    (dI20 : PySem.W.codeIn K cdI20 "Broken.__init__" = true)
    (kI20 : PySem.W.keepIn K (.ref f20) = true)
    (ag0 : PySem.W.nsIn K mainGlobals "_law_dip" = some (some (.ref g0)))
    (lF0 : K.lookup g0 = some ⟨ocF0, odF0, .func (PySem.W.fnOf "_law_dip" "_law_dip" (defArgs sDip) (defBody sDip) (defScope sDip) .none kVF0 dcF0 pmF0 anF0 cdF0 ctF0), slF0⟩)
    (dF0 : PySem.W.codeIn K cdF0 "_law_dip" = true)
    (kF0 : PySem.W.keepIn K (.ref g0) = true)
    (ag1 : PySem.W.nsIn K mainGlobals "_law_pick" = some (some (.ref g1)))
    (lF1 : K.lookup g1 = some ⟨ocF1, odF1, .func (PySem.W.fnOf "_law_pick" "_law_pick" (defArgs sPick) (defBody sPick) (defScope sPick) .none kVF1 dcF1 pmF1 anF1 cdF1 ctF1), slF1⟩)
    (dF1 : PySem.W.codeIn K cdF1 "_law_pick" = true)
    (kF1 : PySem.W.keepIn K (.ref g1) = true)
    (ag2 : PySem.W.nsIn K mainGlobals "_law_bases" = some (some (.ref g2)))
    (lF2 : K.lookup g2 = some ⟨ocF2, odF2, .func (PySem.W.fnOf "_law_bases" "_law_bases" (defArgs sBases) (defBody sBases) (defScope sBases) .none kVF2 dcF2 pmF2 anF2 cdF2 ctF2), slF2⟩)
    (dF2 : PySem.W.codeIn K cdF2 "_law_bases" = true)
    (kF2 : PySem.W.keepIn K (.ref g2) = true)
    (ag3 : PySem.W.nsIn K mainGlobals "_law_odd" = some (some (.ref g3)))
    (lF3 : K.lookup g3 = some ⟨ocF3, odF3, .func (PySem.W.fnOf "_law_odd" "_law_odd" (defArgs sOdd) (defBody sOdd) (defScope sOdd) .none kVF3 dcF3 pmF3 anF3 cdF3 ctF3), slF3⟩)
    (dF3 : PySem.W.codeIn K cdF3 "_law_odd" = true)
    (kF3 : PySem.W.keepIn K (.ref g3) = true)
    (ag4 : PySem.W.nsIn K mainGlobals "_law_sorts" = some (some (.ref g4)))
    (lF4 : K.lookup g4 = some ⟨ocF4, odF4, .func (PySem.W.fnOf "_law_sorts" "_law_sorts" (defArgs sSorts) (defBody sSorts) (defScope sSorts) .none kVF4 dcF4 pmF4 anF4 cdF4 ctF4), slF4⟩)
    (dF4 : PySem.W.codeIn K cdF4 "_law_sorts" = true)
    (kF4 : PySem.W.keepIn K (.ref g4) = true)
    (ag5 : PySem.W.nsIn K mainGlobals "_law_by_place" = some (some (.ref g5)))
    (lF5 : K.lookup g5 = some ⟨ocF5, odF5, .func (PySem.W.fnOf "_law_by_place" "_law_by_place" (defArgs sPlace) (defBody sPlace) (defScope sPlace) .none kVF5 dcF5 pmF5 anF5 cdF5 ctF5), slF5⟩)
    (dF5 : PySem.W.codeIn K cdF5 "_law_by_place" = true)
    (kF5 : PySem.W.keepIn K (.ref g5) = true)
    (ag6 : PySem.W.nsIn K mainGlobals "_law_by_word" = some (some (.ref g6)))
    (lF6 : K.lookup g6 = some ⟨ocF6, odF6, .func (PySem.W.fnOf "_law_by_word" "_law_by_word" (defArgs sWord) (defBody sWord) (defScope sWord) .none kVF6 dcF6 pmF6 anF6 cdF6 ctF6), slF6⟩)
    (dF6 : PySem.W.codeIn K cdF6 "_law_by_word" = true)
    (kF6 : PySem.W.keepIn K (.ref g6) = true)
    (ag7 : PySem.W.nsIn K mainGlobals "_law_kept" = some (some (.ref g7)))
    (lF7 : K.lookup g7 = some ⟨ocF7, odF7, .func (PySem.W.fnOf "_law_kept" "_law_kept" (defArgs sKept) (defBody sKept) (defScope sKept) .none kVF7 dcF7 pmF7 anF7 cdF7 ctF7), slF7⟩)
    (dF7 : PySem.W.codeIn K cdF7 "_law_kept" = true)
    (kF7 : PySem.W.keepIn K (.ref g7) = true)
    (ag8 : PySem.W.nsIn K mainGlobals "_law_jar" = some (some (.ref g8)))
    (lF8 : K.lookup g8 = some ⟨ocF8, odF8, .func (PySem.W.fnOf "_law_jar" "_law_jar" (defArgs sJar) (defBody sJar) (defScope sJar) .none kVF8 dcF8 pmF8 anF8 cdF8 ctF8), slF8⟩)
    (dF8 : PySem.W.codeIn K cdF8 "_law_jar" = true)
    (kF8 : PySem.W.keepIn K (.ref g8) = true)
    (ag9 : PySem.W.nsIn K mainGlobals "_law_right" = some (some (.ref g9)))
    (lF9 : K.lookup g9 = some ⟨ocF9, odF9, .func (PySem.W.fnOf "_law_right" "_law_right" (defArgs sRight) (defBody sRight) (defScope sRight) .none kVF9 dcF9 pmF9 anF9 cdF9 ctF9), slF9⟩)
    (dF9 : PySem.W.codeIn K cdF9 "_law_right" = true)
    (kF9 : PySem.W.keepIn K (.ref g9) = true)
    (ag10 : PySem.W.nsIn K mainGlobals "law" = some (some (.ref g10)))
    (lF10 : K.lookup g10 = some ⟨ocF10, odF10, .func (PySem.W.fnOf "law" "law" (defArgs sLaw) (defBody sLaw) (defScope sLaw) .none kVF10 dcF10 pmF10 anF10 cdF10 ctF10), slF10⟩)
    (dF10 : PySem.W.codeIn K cdF10 "law" = true)
    (kF10 : PySem.W.keepIn K (.ref g10) = true)
    (am0 : PySem.W.nsIn K mainGlobals "MOST_SWITCHES" = some (some (.int 5 t0)))
    (am1 : PySem.W.nsIn K mainGlobals "MOST_SETTINGS" = some (some (.int 48 t1)))
    (am2 : PySem.W.nsIn K mainGlobals "MOST_SEARCHED" = some (some (.int 16 t2)))
    (am3 : PySem.W.nsIn K mainGlobals "MOST_COUNTED" = some (some (.int 8 t3)))
    (ck : okAll K [c0, c1, c2, c3, c4, c5, c6, c7, c8, c9, c10, c11, c12, c13, c14, c15, c16, c17, c18, c19, c20, c21] [b0, b1, b2] [f0, f1, f2, f3, f4, f5, f6, f7, f8, f9, f10, f11, f12, f13, f14, f15, f16, f17, f18, f19, f20] = true) :
    ∃ fd : FuncData, (∀ (s : Shared) (v : Value), BindsTo s fd ⟨[v], []⟩ [("script", v)]) ∧ ∀ base : Heap, K.In base → base.Ns mainGlobals mg → FnG l.prog w K mg base 5 fa fd ["script"] (spLaw K) := by
  obtain rfl := Value.ref.inj (Option.some.inj (hfa.symm.trans (PySem.W.mg_of X G ag10)))
  have I0 := fun_mk (st := inClass (topS 2) 0) lI0 dI0 kI0
  have I1 := fun_mk (st := inClass (topS 3) 0) lI1 dI1 kI1
  have I2 := fun_mk (st := inClass (topS 4) 0) lI2 dI2 kI2
  have I3 := fun_mk (st := inClass (topS 5) 0) lI3 dI3 kI3
  have I4 := fun_mk (st := inClass (topS 6) 0) lI4 dI4 kI4
  have I5 := fun_mk (st := inClass (topS 7) 0) lI5 dI5 kI5
  have I6 := fun_mk (st := inClass (topS 8) 0) lI6 dI6 kI6
  have I7 := fun_mk (st := inClass (topS 9) 0) lI7 dI7 kI7
  have I8 := fun_mk (st := inClass (topS 10) 0) lI8 dI8 kI8
  have I9 := fun_mk (st := inClass (topS 11) 0) lI9 dI9 kI9
  have I10 := fun_mk (st := inClass (topS 12) 0) lI10 dI10 kI10
  have I11 := fun_mk (st := inClass (topS 13) 0) lI11 dI11 kI11
  have I12 := fun_mk (st := inClass (topS 14) 0) lI12 dI12 kI12
  have I13 := fun_mk (st := inClass (topS 15) 0) lI13 dI13 kI13
  have I14 := fun_mk (st := inClass (topS 16) 0) lI14 dI14 kI14
  have I15 := fun_mk (st := inClass (topS 17) 0) lI15 dI15 kI15
  have I16 := fun_mk (st := inClass (topS 18) 0) lI16 dI16 kI16
  have I17 := fun_mk (st := inClass (topS 19) 0) lI17 dI17 kI17
  have I18 := fun_mk (st := inClass (topS 21) 0) lI18 dI18 kI18
  have I19 := fun_mk (st := inClass (topS 24) 0) lI19 dI19 kI19
  have I20 := fun_mk (st := inClass (topS 25) 0) lI20 dI20 kI20
  have F0 := fun_mk (st := sDip) lF0 dF0 kF0
  have F1 := fun_mk (st := sPick) lF1 dF1 kF1
  have F2 := fun_mk (st := sBases) lF2 dF2 kF2
  have F3 := fun_mk (st := sOdd) lF3 dF3 kF3
  have F4 := fun_mk (st := sSorts) lF4 dF4 kF4
  have F5 := fun_mk (st := sPlace) lF5 dF5 kF5
  have F6 := fun_mk (st := sWord) lF6 dF6 kF6
  have F7 := fun_mk (st := sKept) lF7 dF7 kF7
  have F8 := fun_mk (st := sJar) lF8 dF8 kF8
  have F9 := fun_mk (st := sRight) lF9 dF9 kF9
  have F10 := fun_mk (st := sLaw) lF10 dF10 kF10
  have B0 := F0.binds (ps := ["jar", "most"]) fun _ _ _ _ _ _ us hl => match us, hl with | [_, _], _ => rfl
  have B1 := F1.binds (ps := ["jar", "menu"]) fun _ _ _ _ _ _ us hl => match us, hl with | [_, _], _ => rfl
  have B2 := F2.binds (ps := ["e"]) fun _ _ _ _ _ _ us hl => match us, hl with | [_], _ => rfl
  have B3 := F3.binds (ps := ["jar"]) fun _ _ _ _ _ _ us hl => match us, hl with | [_], _ => rfl
  have B4 := F4.binds (ps := ["e"]) fun _ _ _ _ _ _ us hl => match us, hl with | [_], _ => rfl
  have B5 := F5.binds (ps := ["first", "second"]) fun _ _ _ _ _ _ us hl => match us, hl with | [_, _], _ => rfl
  have B6 := F6.binds (ps := ["first", "second"]) fun _ _ _ _ _ _ us hl => match us, hl with | [_, _], _ => rfl
  have B7 := F7.binds (ps := ["e", "at"]) fun _ _ _ _ _ _ us hl => match us, hl with | [_, _], _ => rfl
  have B8 := F8.binds (ps := ["script", "k"]) fun _ _ _ _ _ _ us hl => match us, hl with | [_, _], _ => rfl
  have B9 := F9.binds (ps := ["jar"]) fun _ _ _ _ _ _ us hl => match us, hl with | [_], _ => rfl
  obtain ⟨kv, ck⟩ := and2 ck
  obtain ⟨kvB, ck⟩ := and2 ck
  obtain ⟨ko, ck⟩ := and2 ck
  obtain ⟨k2, ck⟩ := and2 ck
  obtain ⟨km, ck⟩ := and2 ck
  obtain ⟨kb, ck⟩ := and2 ck
  obtain ⟨kn, ck⟩ := and2 ck
  obtain ⟨ke, kk⟩ := and2 ck
  have none : ∀ n, n ∈ bare → mg n = none := fun n hn => PySem.W.mg_none_of X G (of_decide_eq_true (List.all_eq_true.mp kn n hn))
  have vv : ∀ i, i < 22 → OxV K (([c0, c1, c2, c3, c4, c5, c6, c7, c8, c9, c10, c11, c12, c13, c14, c15, c16, c17, c18, c19, c20, c21] : List Addr).getD i 0) := fun i hi => by have z := rng kv hi; exact mkV z k2
  have vb : ∀ i, i < 3 → OxV K (([b0, b1, b2] : List Addr).getD i 0) := fun i hi => by have z := rng kvB hi; exact mkV z k2
  refine ⟨(PySem.W.fnOf "law" "law" (defArgs sLaw) (defBody sLaw) (defScope sLaw) .none kVF10 dcF10 pmF10 anF10 cdF10 ctF10), fun s v => .of_eq rfl, fun base hb0 hb1 => ?_⟩
  have x0 : OxM l.prog w K mg base (nm 0) (fl 0) c0 f0 (PySem.W.fnOf "__init__" "InvalidText.__init__" (defArgs (inClass (topS 2) 0)) (defBody (inClass (topS 2) 0)) (defScope (inClass (topS 2) 0)) .none kVI0 dcI0 pmI0 anI0 cdI0 ctI0) := mkOx (k := kd 0) (f := "given") (rng ko (by decide : 0 < 21)) (kd_lt _) (vv 0 (by decide)) (PySem.W.mg_of X G ac0) ai0 I0 ⟨rfl, rfl, rfl, by decide +kernel, rfl, by decide +kernel, by decide +kernel⟩ rfl (.inl rfl) (.inl rfl) (by decide +kernel) (by decide +kernel) (I0.binds (ps := ["self", "given"]) fun _ _ _ _ _ _ us hl => match us, hl with | [_, _], _ => rfl) (fun s a u => .of_eq rfl)
  have x1 : OxM l.prog w K mg base (nm 1) (fl 1) c1 f1 (PySem.W.fnOf "__init__" "InvalidPart.__init__" (defArgs (inClass (topS 3) 0)) (defBody (inClass (topS 3) 0)) (defScope (inClass (topS 3) 0)) .none kVI1 dcI1 pmI1 anI1 cdI1 ctI1) := mkOx (k := kd 1) (f := "given") (rng ko (by decide : 1 < 21)) (kd_lt _) (vv 1 (by decide)) (PySem.W.mg_of X G ac1) ai1 I1 ⟨rfl, rfl, rfl, by decide +kernel, rfl, by decide +kernel, by decide +kernel⟩ rfl (.inl rfl) (.inl rfl) (by decide +kernel) (by decide +kernel) (I1.binds (ps := ["self", "given"]) fun _ _ _ _ _ _ us hl => match us, hl with | [_, _], _ => rfl) (fun s a u => .of_eq rfl)
  have x2 : OxM l.prog w K mg base (nm 2) (fl 2) c2 f2 (PySem.W.fnOf "__init__" "InvalidSquare.__init__" (defArgs (inClass (topS 4) 0)) (defBody (inClass (topS 4) 0)) (defScope (inClass (topS 4) 0)) .none kVI2 dcI2 pmI2 anI2 cdI2 ctI2) := mkOx (k := kd 2) (f := "given") (rng ko (by decide : 2 < 21)) (kd_lt _) (vv 2 (by decide)) (PySem.W.mg_of X G ac2) ai2 I2 ⟨rfl, rfl, rfl, by decide +kernel, rfl, by decide +kernel, by decide +kernel⟩ rfl (.inl rfl) (.inl rfl) (by decide +kernel) (by decide +kernel) (I2.binds (ps := ["self", "given"]) fun _ _ _ _ _ _ us hl => match us, hl with | [_, _], _ => rfl) (fun s a u => .of_eq rfl)
  have x3 : OxM l.prog w K mg base (nm 3) (fl 3) c3 f3 (PySem.W.fnOf "__init__" "InvalidFact.__init__" (defArgs (inClass (topS 5) 0)) (defBody (inClass (topS 5) 0)) (defScope (inClass (topS 5) 0)) .none kVI3 dcI3 pmI3 anI3 cdI3 ctI3) := mkOx (k := kd 3) (f := "given") (rng ko (by decide : 3 < 21)) (kd_lt _) (vv 3 (by decide)) (PySem.W.mg_of X G ac3) ai3 I3 ⟨rfl, rfl, rfl, by decide +kernel, rfl, by decide +kernel, by decide +kernel⟩ rfl (.inl rfl) (.inl rfl) (by decide +kernel) (by decide +kernel) (I3.binds (ps := ["self", "given"]) fun _ _ _ _ _ _ us hl => match us, hl with | [_, _], _ => rfl) (fun s a u => .of_eq rfl)
  have x4 : OxM l.prog w K mg base (nm 4) (fl 4) c4 f4 (PySem.W.fnOf "__init__" "InvalidIndex.__init__" (defArgs (inClass (topS 6) 0)) (defBody (inClass (topS 6) 0)) (defScope (inClass (topS 6) 0)) .none kVI4 dcI4 pmI4 anI4 cdI4 ctI4) := mkOx (k := kd 4) (f := "given") (rng ko (by decide : 4 < 21)) (kd_lt _) (vv 4 (by decide)) (PySem.W.mg_of X G ac4) ai4 I4 ⟨rfl, rfl, rfl, by decide +kernel, rfl, by decide +kernel, by decide +kernel⟩ rfl (.inl rfl) (.inl rfl) (by decide +kernel) (by decide +kernel) (I4.binds (ps := ["self", "given"]) fun _ _ _ _ _ _ us hl => match us, hl with | [_, _], _ => rfl) (fun s a u => .of_eq rfl)
  have x5 : OxM l.prog w K mg base (nm 5) (fl 5) c5 f5 (PySem.W.fnOf "__init__" "InvalidWish.__init__" (defArgs (inClass (topS 7) 0)) (defBody (inClass (topS 7) 0)) (defScope (inClass (topS 7) 0)) .none kVI5 dcI5 pmI5 anI5 cdI5 ctI5) := mkOx (k := kd 5) (f := "given") (rng ko (by decide : 5 < 21)) (kd_lt _) (vv 5 (by decide)) (PySem.W.mg_of X G ac5) ai5 I5 ⟨rfl, rfl, rfl, by decide +kernel, rfl, by decide +kernel, by decide +kernel⟩ rfl (.inl rfl) (.inl rfl) (by decide +kernel) (by decide +kernel) (I5.binds (ps := ["self", "given"]) fun _ _ _ _ _ _ us hl => match us, hl with | [_, _], _ => rfl) (fun s a u => .of_eq rfl)
  have x6 : OxM l.prog w K mg base (nm 6) (fl 6) c6 f6 (PySem.W.fnOf "__init__" "InvalidCommand.__init__" (defArgs (inClass (topS 8) 0)) (defBody (inClass (topS 8) 0)) (defScope (inClass (topS 8) 0)) .none kVI6 dcI6 pmI6 anI6 cdI6 ctI6) := mkOx (k := kd 6) (f := "given") (rng ko (by decide : 6 < 21)) (kd_lt _) (vv 6 (by decide)) (PySem.W.mg_of X G ac6) ai6 I6 ⟨rfl, rfl, rfl, by decide +kernel, rfl, by decide +kernel, by decide +kernel⟩ rfl (.inl rfl) (.inl rfl) (by decide +kernel) (by decide +kernel) (I6.binds (ps := ["self", "given"]) fun _ _ _ _ _ _ us hl => match us, hl with | [_, _], _ => rfl) (fun s a u => .of_eq rfl)
  have x7 : OxM l.prog w K mg base (nm 7) (fl 7) c7 f7 (PySem.W.fnOf "__init__" "NotABoard.__init__" (defArgs (inClass (topS 9) 0)) (defBody (inClass (topS 9) 0)) (defScope (inClass (topS 9) 0)) .none kVI7 dcI7 pmI7 anI7 cdI7 ctI7) := mkOx (k := kd 7) (f := "given") (rng ko (by decide : 7 < 21)) (kd_lt _) (vv 7 (by decide)) (PySem.W.mg_of X G ac7) ai7 I7 ⟨rfl, rfl, rfl, by decide +kernel, rfl, by decide +kernel, by decide +kernel⟩ rfl (.inl rfl) (.inl rfl) (by decide +kernel) (by decide +kernel) (I7.binds (ps := ["self", "given"]) fun _ _ _ _ _ _ us hl => match us, hl with | [_, _], _ => rfl) (fun s a u => .of_eq rfl)
  have x8 : OxM l.prog w K mg base (nm 8) (fl 8) c8 f8 (PySem.W.fnOf "__init__" "NotNotes.__init__" (defArgs (inClass (topS 10) 0)) (defBody (inClass (topS 10) 0)) (defScope (inClass (topS 10) 0)) .none kVI8 dcI8 pmI8 anI8 cdI8 ctI8) := mkOx (k := kd 8) (f := "given") (rng ko (by decide : 8 < 21)) (kd_lt _) (vv 8 (by decide)) (PySem.W.mg_of X G ac8) ai8 I8 ⟨rfl, rfl, rfl, by decide +kernel, rfl, by decide +kernel, by decide +kernel⟩ rfl (.inl rfl) (.inl rfl) (by decide +kernel) (by decide +kernel) (I8.binds (ps := ["self", "given"]) fun _ _ _ _ _ _ us hl => match us, hl with | [_, _], _ => rfl) (fun s a u => .of_eq rfl)
  have x9 : OxM l.prog w K mg base (nm 9) (fl 9) c9 f9 (PySem.W.fnOf "__init__" "NotARanking.__init__" (defArgs (inClass (topS 11) 0)) (defBody (inClass (topS 11) 0)) (defScope (inClass (topS 11) 0)) .none kVI9 dcI9 pmI9 anI9 cdI9 ctI9) := mkOx (k := kd 9) (f := "given") (rng ko (by decide : 9 < 21)) (kd_lt _) (vv 9 (by decide)) (PySem.W.mg_of X G ac9) ai9 I9 ⟨rfl, rfl, rfl, by decide +kernel, rfl, by decide +kernel, by decide +kernel⟩ rfl (.inl rfl) (.inl rfl) (by decide +kernel) (by decide +kernel) (I9.binds (ps := ["self", "given"]) fun _ _ _ _ _ _ us hl => match us, hl with | [_, _], _ => rfl) (fun s a u => .of_eq rfl)
  have x10 : OxM l.prog w K mg base (nm 10) (fl 10) c10 f10 (PySem.W.fnOf "__init__" "OtherBoard.__init__" (defArgs (inClass (topS 12) 0)) (defBody (inClass (topS 12) 0)) (defScope (inClass (topS 12) 0)) .none kVI10 dcI10 pmI10 anI10 cdI10 ctI10) := mkOx (k := kd 10) (f := "given") (rng ko (by decide : 10 < 21)) (kd_lt _) (vv 10 (by decide)) (PySem.W.mg_of X G ac10) ai10 I10 ⟨rfl, rfl, rfl, by decide +kernel, rfl, by decide +kernel, by decide +kernel⟩ rfl (.inl rfl) (.inl rfl) (by decide +kernel) (by decide +kernel) (I10.binds (ps := ["self", "given"]) fun _ _ _ _ _ _ us hl => match us, hl with | [_, _], _ => rfl) (fun s a u => .of_eq rfl)
  have x11 : OxM l.prog w K mg base (nm 11) (fl 11) c11 f11 (PySem.W.fnOf "__init__" "SameSetting.__init__" (defArgs (inClass (topS 13) 0)) (defBody (inClass (topS 13) 0)) (defScope (inClass (topS 13) 0)) .none kVI11 dcI11 pmI11 anI11 cdI11 ctI11) := mkOx (k := kd 11) (f := "given") (rng ko (by decide : 11 < 21)) (kd_lt _) (vv 11 (by decide)) (PySem.W.mg_of X G ac11) ai11 I11 ⟨rfl, rfl, rfl, by decide +kernel, rfl, by decide +kernel, by decide +kernel⟩ rfl (.inl rfl) (.inl rfl) (by decide +kernel) (by decide +kernel) (I11.binds (ps := ["self", "given"]) fun _ _ _ _ _ _ us hl => match us, hl with | [_, _], _ => rfl) (fun s a u => .of_eq rfl)
  have x12 : OxM l.prog w K mg base (nm 12) (fl 12) c12 f12 (PySem.W.fnOf "__init__" "InvalidSizes.__init__" (defArgs (inClass (topS 14) 0)) (defBody (inClass (topS 14) 0)) (defScope (inClass (topS 14) 0)) .none kVI12 dcI12 pmI12 anI12 cdI12 ctI12) := mkOx (k := kd 12) (f := "index") (rng ko (by decide : 12 < 21)) (kd_lt _) (vv 12 (by decide)) (PySem.W.mg_of X G ac12) ai12 I12 ⟨rfl, rfl, rfl, by decide +kernel, rfl, by decide +kernel, by decide +kernel⟩ rfl (.inl rfl) (.inl rfl) (by decide +kernel) (by decide +kernel) (I12.binds (ps := ["self", "index"]) fun _ _ _ _ _ _ us hl => match us, hl with | [_, _], _ => rfl) (fun s a u => .of_eq rfl)
  have x13 : OxM l.prog w K mg base (nm 13) (fl 13) c13 f13 (PySem.W.fnOf "__init__" "InvalidFacts.__init__" (defArgs (inClass (topS 15) 0)) (defBody (inClass (topS 15) 0)) (defScope (inClass (topS 15) 0)) .none kVI13 dcI13 pmI13 anI13 cdI13 ctI13) := mkOx (k := kd 13) (f := "index") (rng ko (by decide : 13 < 21)) (kd_lt _) (vv 13 (by decide)) (PySem.W.mg_of X G ac13) ai13 I13 ⟨rfl, rfl, rfl, by decide +kernel, rfl, by decide +kernel, by decide +kernel⟩ rfl (.inl rfl) (.inl rfl) (by decide +kernel) (by decide +kernel) (I13.binds (ps := ["self", "index"]) fun _ _ _ _ _ _ us hl => match us, hl with | [_, _], _ => rfl) (fun s a u => .of_eq rfl)
  have x14 : OxM l.prog w K mg base (nm 14) (fl 14) c14 f14 (PySem.W.fnOf "__init__" "InvalidOrder.__init__" (defArgs (inClass (topS 16) 0)) (defBody (inClass (topS 16) 0)) (defScope (inClass (topS 16) 0)) .none kVI14 dcI14 pmI14 anI14 cdI14 ctI14) := mkOx (k := kd 14) (f := "index") (rng ko (by decide : 14 < 21)) (kd_lt _) (vv 14 (by decide)) (PySem.W.mg_of X G ac14) ai14 I14 ⟨rfl, rfl, rfl, by decide +kernel, rfl, by decide +kernel, by decide +kernel⟩ rfl (.inl rfl) (.inl rfl) (by decide +kernel) (by decide +kernel) (I14.binds (ps := ["self", "index"]) fun _ _ _ _ _ _ us hl => match us, hl with | [_, _], _ => rfl) (fun s a u => .of_eq rfl)
  have x15 : OxM l.prog w K mg base (nm 15) (fl 15) c15 f15 (PySem.W.fnOf "__init__" "InvalidPeaks.__init__" (defArgs (inClass (topS 17) 0)) (defBody (inClass (topS 17) 0)) (defScope (inClass (topS 17) 0)) .none kVI15 dcI15 pmI15 anI15 cdI15 ctI15) := mkOx (k := kd 15) (f := "index") (rng ko (by decide : 15 < 21)) (kd_lt _) (vv 15 (by decide)) (PySem.W.mg_of X G ac15) ai15 I15 ⟨rfl, rfl, rfl, by decide +kernel, rfl, by decide +kernel, by decide +kernel⟩ rfl (.inl rfl) (.inl rfl) (by decide +kernel) (by decide +kernel) (I15.binds (ps := ["self", "index"]) fun _ _ _ _ _ _ us hl => match us, hl with | [_, _], _ => rfl) (fun s a u => .of_eq rfl)
  have x16 : OxM l.prog w K mg base (nm 16) (fl 16) c16 f16 (PySem.W.fnOf "__init__" "InvalidWalks.__init__" (defArgs (inClass (topS 18) 0)) (defBody (inClass (topS 18) 0)) (defScope (inClass (topS 18) 0)) .none kVI16 dcI16 pmI16 anI16 cdI16 ctI16) := mkOx (k := kd 16) (f := "index") (rng ko (by decide : 16 < 21)) (kd_lt _) (vv 16 (by decide)) (PySem.W.mg_of X G ac16) ai16 I16 ⟨rfl, rfl, rfl, by decide +kernel, rfl, by decide +kernel, by decide +kernel⟩ rfl (.inl rfl) (.inl rfl) (by decide +kernel) (by decide +kernel) (I16.binds (ps := ["self", "index"]) fun _ _ _ _ _ _ us hl => match us, hl with | [_, _], _ => rfl) (fun s a u => .of_eq rfl)
  have x17 : OxM l.prog w K mg base (nm 17) (fl 17) c17 f17 (PySem.W.fnOf "__init__" "InvalidRests.__init__" (defArgs (inClass (topS 19) 0)) (defBody (inClass (topS 19) 0)) (defScope (inClass (topS 19) 0)) .none kVI17 dcI17 pmI17 anI17 cdI17 ctI17) := mkOx (k := kd 17) (f := "index") (rng ko (by decide : 17 < 21)) (kd_lt _) (vv 17 (by decide)) (PySem.W.mg_of X G ac17) ai17 I17 ⟨rfl, rfl, rfl, by decide +kernel, rfl, by decide +kernel, by decide +kernel⟩ rfl (.inl rfl) (.inl rfl) (by decide +kernel) (by decide +kernel) (I17.binds (ps := ["self", "index"]) fun _ _ _ _ _ _ us hl => match us, hl with | [_, _], _ => rfl) (fun s a u => .of_eq rfl)
  have x18 : OxM l.prog w K mg base (nm 18) (fl 18) c18 f18 (PySem.W.fnOf "__init__" "UnknownSetting.__init__" (defArgs (inClass (topS 21) 0)) (defBody (inClass (topS 21) 0)) (defScope (inClass (topS 21) 0)) .none kVI18 dcI18 pmI18 anI18 cdI18 ctI18) := mkOx (k := kd 18) (f := "given") (rng ko (by decide : 18 < 21)) (kd_lt _) (vv 18 (by decide)) (PySem.W.mg_of X G ac18) ai18 I18 ⟨rfl, rfl, rfl, by decide +kernel, rfl, by decide +kernel, by decide +kernel⟩ rfl (.inl rfl) (.inl rfl) (by decide +kernel) (by decide +kernel) (I18.binds (ps := ["self", "given"]) fun _ _ _ _ _ _ us hl => match us, hl with | [_, _], _ => rfl) (fun s a u => .of_eq rfl)
  have x19 : OxM l.prog w K mg base (nm 19) (fl 19) c19 f19 (PySem.W.fnOf "__init__" "TooMany.__init__" (defArgs (inClass (topS 24) 0)) (defBody (inClass (topS 24) 0)) (defScope (inClass (topS 24) 0)) .none kVI19 dcI19 pmI19 anI19 cdI19 ctI19) := mkOx (k := kd 19) (f := "given") (rng ko (by decide : 19 < 21)) (kd_lt _) (vv 19 (by decide)) (PySem.W.mg_of X G ac19) ai19 I19 ⟨rfl, rfl, rfl, by decide +kernel, rfl, by decide +kernel, by decide +kernel⟩ rfl (.inl rfl) (.inl rfl) (by decide +kernel) (by decide +kernel) (I19.binds (ps := ["self", "given"]) fun _ _ _ _ _ _ us hl => match us, hl with | [_, _], _ => rfl) (fun s a u => .of_eq rfl)
  have x20 : OxM l.prog w K mg base (nm 20) (fl 20) c20 f20 (PySem.W.fnOf "__init__" "Broken.__init__" (defArgs (inClass (topS 25) 0)) (defBody (inClass (topS 25) 0)) (defScope (inClass (topS 25) 0)) .none kVI20 dcI20 pmI20 anI20 cdI20 ctI20) := mkOx (k := kd 20) (f := "index") (rng ko (by decide : 20 < 21)) (kd_lt _) (vv 20 (by decide)) (PySem.W.mg_of X G ac20) ai20 I20 ⟨rfl, rfl, rfl, by decide +kernel, rfl, by decide +kernel, by decide +kernel⟩ rfl (.inl rfl) (.inl rfl) (by decide +kernel) (by decide +kernel) (I20.binds (ps := ["self", "index"]) fun _ _ _ _ _ _ us hl => match us, hl with | [_, _], _ => rfl) (fun s a u => .of_eq rfl)
  let fdL : List FuncData := [(PySem.W.fnOf "__init__" "InvalidText.__init__" (defArgs (inClass (topS 2) 0)) (defBody (inClass (topS 2) 0)) (defScope (inClass (topS 2) 0)) .none kVI0 dcI0 pmI0 anI0 cdI0 ctI0), (PySem.W.fnOf "__init__" "InvalidPart.__init__" (defArgs (inClass (topS 3) 0)) (defBody (inClass (topS 3) 0)) (defScope (inClass (topS 3) 0)) .none kVI1 dcI1 pmI1 anI1 cdI1 ctI1), (PySem.W.fnOf "__init__" "InvalidSquare.__init__" (defArgs (inClass (topS 4) 0)) (defBody (inClass (topS 4) 0)) (defScope (inClass (topS 4) 0)) .none kVI2 dcI2 pmI2 anI2 cdI2 ctI2), (PySem.W.fnOf "__init__" "InvalidFact.__init__" (defArgs (inClass (topS 5) 0)) (defBody (inClass (topS 5) 0)) (defScope (inClass (topS 5) 0)) .none kVI3 dcI3 pmI3 anI3 cdI3 ctI3), (PySem.W.fnOf "__init__" "InvalidIndex.__init__" (defArgs (inClass (topS 6) 0)) (defBody (inClass (topS 6) 0)) (defScope (inClass (topS 6) 0)) .none kVI4 dcI4 pmI4 anI4 cdI4 ctI4), (PySem.W.fnOf "__init__" "InvalidWish.__init__" (defArgs (inClass (topS 7) 0)) (defBody (inClass (topS 7) 0)) (defScope (inClass (topS 7) 0)) .none kVI5 dcI5 pmI5 anI5 cdI5 ctI5), (PySem.W.fnOf "__init__" "InvalidCommand.__init__" (defArgs (inClass (topS 8) 0)) (defBody (inClass (topS 8) 0)) (defScope (inClass (topS 8) 0)) .none kVI6 dcI6 pmI6 anI6 cdI6 ctI6), (PySem.W.fnOf "__init__" "NotABoard.__init__" (defArgs (inClass (topS 9) 0)) (defBody (inClass (topS 9) 0)) (defScope (inClass (topS 9) 0)) .none kVI7 dcI7 pmI7 anI7 cdI7 ctI7), (PySem.W.fnOf "__init__" "NotNotes.__init__" (defArgs (inClass (topS 10) 0)) (defBody (inClass (topS 10) 0)) (defScope (inClass (topS 10) 0)) .none kVI8 dcI8 pmI8 anI8 cdI8 ctI8), (PySem.W.fnOf "__init__" "NotARanking.__init__" (defArgs (inClass (topS 11) 0)) (defBody (inClass (topS 11) 0)) (defScope (inClass (topS 11) 0)) .none kVI9 dcI9 pmI9 anI9 cdI9 ctI9), (PySem.W.fnOf "__init__" "OtherBoard.__init__" (defArgs (inClass (topS 12) 0)) (defBody (inClass (topS 12) 0)) (defScope (inClass (topS 12) 0)) .none kVI10 dcI10 pmI10 anI10 cdI10 ctI10), (PySem.W.fnOf "__init__" "SameSetting.__init__" (defArgs (inClass (topS 13) 0)) (defBody (inClass (topS 13) 0)) (defScope (inClass (topS 13) 0)) .none kVI11 dcI11 pmI11 anI11 cdI11 ctI11), (PySem.W.fnOf "__init__" "InvalidSizes.__init__" (defArgs (inClass (topS 14) 0)) (defBody (inClass (topS 14) 0)) (defScope (inClass (topS 14) 0)) .none kVI12 dcI12 pmI12 anI12 cdI12 ctI12), (PySem.W.fnOf "__init__" "InvalidFacts.__init__" (defArgs (inClass (topS 15) 0)) (defBody (inClass (topS 15) 0)) (defScope (inClass (topS 15) 0)) .none kVI13 dcI13 pmI13 anI13 cdI13 ctI13), (PySem.W.fnOf "__init__" "InvalidOrder.__init__" (defArgs (inClass (topS 16) 0)) (defBody (inClass (topS 16) 0)) (defScope (inClass (topS 16) 0)) .none kVI14 dcI14 pmI14 anI14 cdI14 ctI14), (PySem.W.fnOf "__init__" "InvalidPeaks.__init__" (defArgs (inClass (topS 17) 0)) (defBody (inClass (topS 17) 0)) (defScope (inClass (topS 17) 0)) .none kVI15 dcI15 pmI15 anI15 cdI15 ctI15), (PySem.W.fnOf "__init__" "InvalidWalks.__init__" (defArgs (inClass (topS 18) 0)) (defBody (inClass (topS 18) 0)) (defScope (inClass (topS 18) 0)) .none kVI16 dcI16 pmI16 anI16 cdI16 ctI16), (PySem.W.fnOf "__init__" "InvalidRests.__init__" (defArgs (inClass (topS 19) 0)) (defBody (inClass (topS 19) 0)) (defScope (inClass (topS 19) 0)) .none kVI17 dcI17 pmI17 anI17 cdI17 ctI17), (PySem.W.fnOf "__init__" "UnknownSetting.__init__" (defArgs (inClass (topS 21) 0)) (defBody (inClass (topS 21) 0)) (defScope (inClass (topS 21) 0)) .none kVI18 dcI18 pmI18 anI18 cdI18 ctI18), (PySem.W.fnOf "__init__" "TooMany.__init__" (defArgs (inClass (topS 24) 0)) (defBody (inClass (topS 24) 0)) (defScope (inClass (topS 24) 0)) .none kVI19 dcI19 pmI19 anI19 cdI19 ctI19), (PySem.W.fnOf "__init__" "Broken.__init__" (defArgs (inClass (topS 25) 0)) (defBody (inClass (topS 25) 0)) (defScope (inClass (topS 25) 0)) .none kVI20 dcI20 pmI20 anI20 cdI20 ctI20)]
  have T : Tx1 l.prog w K mg base (fun i => ([c0, c1, c2, c3, c4, c5, c6, c7, c8, c9, c10, c11, c12, c13, c14, c15, c16, c17, c18, c19, c20, c21] : List Addr).getD i 0) (fun i => ([f0, f1, f2, f3, f4, f5, f6, f7, f8, f9, f10, f11, f12, f13, f14, f15, f16, f17, f18, f19, f20] : List Addr).getD i 0) (fun i => fdL.getD i (PySem.W.fnOf "__init__" "InvalidText.__init__" (defArgs (inClass (topS 2) 0)) (defBody (inClass (topS 2) 0)) (defScope (inClass (topS 2) 0)) .none kVI0 dcI0 pmI0 anI0 cdI0 ctI0)) (fun i => ([b0, b1, b2] : List Addr).getD i 0) := by
    refine ⟨fun i hi => ?_, fun i hi => ?_, fun i hi => ?_, fun i hi => ?_, vv, vb, fun i j hi hj => ?_, fun i j hi hj => ?_, fun i j hi hj => ?_, fun i j hi hj => ?_, fun i j hi hj => ?_, fun i hi => ?_, none _ (by decide)⟩
    · match i, hi with
      | 0, _ => exact x0
      | 1, _ => exact x1
      | 2, _ => exact x2
      | 3, _ => exact x3
      | 4, _ => exact x4
      | 5, _ => exact x5
      | 6, _ => exact x6
      | 7, _ => exact x7
      | 8, _ => exact x8
      | 9, _ => exact x9
      | 10, _ => exact x10
      | 11, _ => exact x11
      | 12, _ => exact x12
      | 13, _ => exact x13
      | 14, _ => exact x14
      | 15, _ => exact x15
      | 16, _ => exact x16
      | 17, _ => exact x17
      | 18, _ => exact x18
      | 19, _ => exact x19
      | 20, _ => exact x20
      | n + 21, hn => exact absurd hn (by omega)
    · match i, hi with
      | 0, _ => exact PySem.W.mg_of X G ac0
      | 1, _ => exact PySem.W.mg_of X G ac1
      | 2, _ => exact PySem.W.mg_of X G ac2
      | 3, _ => exact PySem.W.mg_of X G ac3
      | 4, _ => exact PySem.W.mg_of X G ac4
      | 5, _ => exact PySem.W.mg_of X G ac5
      | 6, _ => exact PySem.W.mg_of X G ac6
      | 7, _ => exact PySem.W.mg_of X G ac7
      | 8, _ => exact PySem.W.mg_of X G ac8
      | 9, _ => exact PySem.W.mg_of X G ac9
      | 10, _ => exact PySem.W.mg_of X G ac10
      | 11, _ => exact PySem.W.mg_of X G ac11
      | 12, _ => exact PySem.W.mg_of X G ac12
      | 13, _ => exact PySem.W.mg_of X G ac13
      | 14, _ => exact PySem.W.mg_of X G ac14
      | 15, _ => exact PySem.W.mg_of X G ac15
      | 16, _ => exact PySem.W.mg_of X G ac16
      | 17, _ => exact PySem.W.mg_of X G ac17
      | 18, _ => exact PySem.W.mg_of X G ac18
      | 19, _ => exact PySem.W.mg_of X G ac19
      | 20, _ => exact PySem.W.mg_of X G ac20
      | 21, _ => exact PySem.W.mg_of X G ac21
      | n + 22, hn => exact absurd hn (by omega)
    · match i, hi with
      | 0, _ => exact PySem.W.mg_of X G ab0
      | 1, _ => exact PySem.W.mg_of X G ab1
      | 2, _ => exact PySem.W.mg_of X G ab2
    · match i, hi with
      | 0, _ => exact none "ValueError" (by decide)
      | 1, _ => exact none "LookupError" (by decide)
      | 2, _ => exact none "ArithmeticError" (by decide)
    · exact of_decide_eq_true (rng (and2 (rng km hi)).1 hj)
    · exact of_decide_eq_true (and2 (rng (and2 (rng km hi)).2 hj)).1
    · exact of_decide_eq_true (and2 (rng (and2 (rng km hi)).2 hj)).2
    · exact of_decide_eq_true (and2 (rng (and2 (and2 (rng kb hi)).2).2 hj)).1
    · exact of_decide_eq_true (and2 (rng (and2 (and2 (rng kb hi)).2).2 hj)).2
    · exact of_decide_eq_true (and2 (and2 (and2 (and2 (and2 (rng ko hi)).2).2).2).2).2
  let fdG : List FuncData := [(PySem.W.fnOf "_law_dip" "_law_dip" (defArgs sDip) (defBody sDip) (defScope sDip) .none kVF0 dcF0 pmF0 anF0 cdF0 ctF0), (PySem.W.fnOf "_law_pick" "_law_pick" (defArgs sPick) (defBody sPick) (defScope sPick) .none kVF1 dcF1 pmF1 anF1 cdF1 ctF1), (PySem.W.fnOf "_law_bases" "_law_bases" (defArgs sBases) (defBody sBases) (defScope sBases) .none kVF2 dcF2 pmF2 anF2 cdF2 ctF2), (PySem.W.fnOf "_law_odd" "_law_odd" (defArgs sOdd) (defBody sOdd) (defScope sOdd) .none kVF3 dcF3 pmF3 anF3 cdF3 ctF3), (PySem.W.fnOf "_law_sorts" "_law_sorts" (defArgs sSorts) (defBody sSorts) (defScope sSorts) .none kVF4 dcF4 pmF4 anF4 cdF4 ctF4), (PySem.W.fnOf "_law_by_place" "_law_by_place" (defArgs sPlace) (defBody sPlace) (defScope sPlace) .none kVF5 dcF5 pmF5 anF5 cdF5 ctF5), (PySem.W.fnOf "_law_by_word" "_law_by_word" (defArgs sWord) (defBody sWord) (defScope sWord) .none kVF6 dcF6 pmF6 anF6 cdF6 ctF6), (PySem.W.fnOf "_law_kept" "_law_kept" (defArgs sKept) (defBody sKept) (defScope sKept) .none kVF7 dcF7 pmF7 anF7 cdF7 ctF7)]
  have L : Tx2 K mg (fun i => ([c0, c1, c2, c3, c4, c5, c6, c7, c8, c9, c10, c11, c12, c13, c14, c15, c16, c17, c18, c19, c20, c21] : List Addr).getD i 0) (fun i => ([g0, g1, g2, g3, g4, g5, g6, g7] : List Addr).getD i 0) (fun i => fdG.getD i (PySem.W.fnOf "_law_dip" "_law_dip" (defArgs sDip) (defBody sDip) (defScope sDip) .none kVF0 dcF0 pmF0 anF0 cdF0 ctF0)) := ⟨⟨none _ (by decide), none _ (by decide), none _ (by decide)⟩, F0, B0, PySem.W.mg_of X G ag0, F1, B1, PySem.W.mg_of X G ag1, F2, B2, PySem.W.mg_of X G ag2, F3, B3, PySem.W.mg_of X G ag3, F4, B4, PySem.W.mg_of X G ag4, F5, B5, PySem.W.mg_of X G ag5, F6, B6, PySem.W.mg_of X G ag6, F7, B7, PySem.W.mg_of X G ag7, ke, kk, none _ (by decide), none _ (by decide)⟩
  have M : Tx3 K mg (fun i => ([b0, b1, b2] : List Addr).getD i 0) g9 g8 (PySem.W.fnOf "_law_right" "_law_right" (defArgs sRight) (defBody sRight) (defScope sRight) .none kVF9 dcF9 pmF9 anF9 cdF9 ctF9) (PySem.W.fnOf "_law_jar" "_law_jar" (defArgs sJar) (defBody sJar) (defScope sJar) .none kVF8 dcF8 pmF8 anF8 cdF8 ctF8) (fun i => ([t0, t1, t2, t3] : List Tok).getD i 0) := ⟨F9, B9, PySem.W.mg_of X G ag9, F8, B8, PySem.W.mg_of X G ag8, none _ (by decide), none _ (by decide), none _ (by decide), PySem.W.mg_of X G am0, PySem.W.mg_of X G am1, PySem.W.mg_of X G am2, PySem.W.mg_of X G am3, (and2 (rng kb (by decide : 0 < 3))).1, (and2 (rng kb (by decide : 1 < 3))).1, (and2 (rng kb (by decide : 2 < 3))).1, (and2 (and2 (rng kb (by decide : 0 < 3))).2).1, (and2 (and2 (rng kb (by decide : 1 < 3))).2).1, (and2 (and2 (rng kb (by decide : 2 < 3))).2).1⟩
  exact ok_law F10 T L M
end Sw

open PySem PySem.W PyProof.Rows
set_option maxRecDepth 100000 in
set_option maxHeartbeats 0 in
theorem PySem.Challenge.cw_switchhills_k01_limits_and_errors_holds : PySem.Challenge.rw_switchhills_k01_limits_and_errors.Holds := by
  w_on; o_law; k_head; (case hw => w_witness2)
  k_fill
  refine Sw.walkG (l := PySem.Challenge.rw_switchhills_k01_limits_and_errors) (n := 63) (k := 5) (x := "script") (sp := fun w => Sw.spLaw _) rfl (by decide) rfl ⟨rfl, by decide, by decide⟩ (fun w h Y => PySem.W.kIn_of Y) ?F (fun _ _ a ns hl _ hS => ⟨a, ns, rfl, hS, hl, fun _ => rfl⟩)
  case F =>
    intro w mg fa h KX G hmg
    refine' Sw.all_mk KX G hmg ?ac0 ?ac1 ?ac2 ?ac3 ?ac4 ?ac5 ?ac6 ?ac7 ?ac8 ?ac9 ?ac10 ?ac11 ?ac12 ?ac13 ?ac14 ?ac15 ?ac16 ?ac17 ?ac18 ?ac19 ?ac20 ?ac21 ?ab0 ?ab1 ?ab2 ?ai0 ?lI0 ?dI0 ?kI0 ?ai1 ?lI1 ?dI1 ?kI1 ?ai2 ?lI2 ?dI2 ?kI2 ?ai3 ?lI3 ?dI3 ?kI3 ?ai4 ?lI4 ?dI4 ?kI4 ?ai5 ?lI5 ?dI5 ?kI5 ?ai6 ?lI6 ?dI6 ?kI6 ?ai7 ?lI7 ?dI7 ?kI7 ?ai8 ?lI8 ?dI8 ?kI8 ?ai9 ?lI9 ?dI9 ?kI9 ?ai10 ?lI10 ?dI10 ?kI10 ?ai11 ?lI11 ?dI11 ?kI11 ?ai12 ?lI12 ?dI12 ?kI12 ?ai13 ?lI13 ?dI13 ?kI13 ?ai14 ?lI14 ?dI14 ?kI14 ?ai15 ?lI15 ?dI15 ?kI15 ?ai16 ?lI16 ?dI16 ?kI16 ?ai17 ?lI17 ?dI17 ?kI17 ?ai18 ?lI18 ?dI18 ?kI18 ?ai19 ?lI19 ?dI19 ?kI19 ?ai20 ?lI20 ?dI20 ?kI20 ?ag0 ?lF0 ?dF0 ?kF0 ?ag1 ?lF1 ?dF1 ?kF1 ?ag2 ?lF2 ?dF2 ?kF2 ?ag3 ?lF3 ?dF3 ?kF3 ?ag4 ?lF4 ?dF4 ?kF4 ?ag5 ?lF5 ?dF5 ?kF5 ?ag6 ?lF6 ?dF6 ?kF6 ?ag7 ?lF7 ?dF7 ?kF7 ?ag8 ?lF8 ?dF8 ?kF8 ?ag9 ?lF9 ?dF9 ?kF9 ?ag10 ?lF10 ?dF10 ?kF10 ?am0 ?am1 ?am2 ?am3 ?ck
    (case ac0 => k_is)
    (case ac1 => k_is)
    (case ac2 => k_is)
    (case ac3 => k_is)
    (case ac4 => k_is)
    (case ac5 => k_is)
    (case ac6 => k_is)
    (case ac7 => k_is)
    (case ac8 => k_is)
    (case ac9 => k_is)
    (case ac10 => k_is)
    (case ac11 => k_is)
    (case ac12 => k_is)
    (case ac13 => k_is)
    (case ac14 => k_is)
    (case ac15 => k_is)
    (case ac16 => k_is)
    (case ac17 => k_is)
    (case ac18 => k_is)
    (case ac19 => k_is)
    (case ac20 => k_is)
    (case ac21 => k_is)
    (case ab0 => k_is)
    (case ab1 => k_is)
    (case ab2 => k_is)
    (case ai0 => k_is)
    (case lI0 => k_is)
    (case dI0 => k_is)
    (case kI0 => k_is)
    (case ai1 => k_is)
    (case lI1 => k_is)
    (case dI1 => k_is)
    (case kI1 => k_is)
    (case ai2 => k_is)
    (case lI2 => k_is)
    (case dI2 => k_is)
    (case kI2 => k_is)
    (case ai3 => k_is)
    (case lI3 => k_is)
    (case dI3 => k_is)
    (case kI3 => k_is)
    (case ai4 => k_is)
    (case lI4 => k_is)
    (case dI4 => k_is)
    (case kI4 => k_is)
    (case ai5 => k_is)
    (case lI5 => k_is)
    (case dI5 => k_is)
    (case kI5 => k_is)
    (case ai6 => k_is)
    (case lI6 => k_is)
    (case dI6 => k_is)
    (case kI6 => k_is)
    (case ai7 => k_is)
    (case lI7 => k_is)
    (case dI7 => k_is)
    (case kI7 => k_is)
    (case ai8 => k_is)
    (case lI8 => k_is)
    (case dI8 => k_is)
    (case kI8 => k_is)
    (case ai9 => k_is)
    (case lI9 => k_is)
    (case dI9 => k_is)
    (case kI9 => k_is)
    (case ai10 => k_is)
    (case lI10 => k_is)
    (case dI10 => k_is)
    (case kI10 => k_is)
    (case ai11 => k_is)
    (case lI11 => k_is)
    (case dI11 => k_is)
    (case kI11 => k_is)
    (case ai12 => k_is)
    (case lI12 => k_is)
    (case dI12 => k_is)
    (case kI12 => k_is)
    (case ai13 => k_is)
    (case lI13 => k_is)
    (case dI13 => k_is)
    (case kI13 => k_is)
    (case ai14 => k_is)
    (case lI14 => k_is)
    (case dI14 => k_is)
    (case kI14 => k_is)
    (case ai15 => k_is)
    (case lI15 => k_is)
    (case dI15 => k_is)
    (case kI15 => k_is)
    (case ai16 => k_is)
    (case lI16 => k_is)
    (case dI16 => k_is)
    (case kI16 => k_is)
    (case ai17 => k_is)
    (case lI17 => k_is)
    (case dI17 => k_is)
    (case kI17 => k_is)
    (case ai18 => k_is)
    (case lI18 => k_is)
    (case dI18 => k_is)
    (case kI18 => k_is)
    (case ai19 => k_is)
    (case lI19 => k_is)
    (case dI19 => k_is)
    (case kI19 => k_is)
    (case ai20 => k_is)
    (case lI20 => k_is)
    (case dI20 => k_is)
    (case kI20 => k_is)
    (case ag0 => k_is)
    (case lF0 => k_is)
    (case dF0 => k_is)
    (case kF0 => k_is)
    (case ag1 => k_is)
    (case lF1 => k_is)
    (case dF1 => k_is)
    (case kF1 => k_is)
    (case ag2 => k_is)
    (case lF2 => k_is)
    (case dF2 => k_is)
    (case kF2 => k_is)
    (case ag3 => k_is)
    (case lF3 => k_is)
    (case dF3 => k_is)
    (case kF3 => k_is)
    (case ag4 => k_is)
    (case lF4 => k_is)
    (case dF4 => k_is)
    (case kF4 => k_is)
    (case ag5 => k_is)
    (case lF5 => k_is)
    (case dF5 => k_is)
    (case kF5 => k_is)
    (case ag6 => k_is)
    (case lF6 => k_is)
    (case dF6 => k_is)
    (case kF6 => k_is)
    (case ag7 => k_is)
    (case lF7 => k_is)
    (case dF7 => k_is)
    (case kF7 => k_is)
    (case ag8 => k_is)
    (case lF8 => k_is)
    (case dF8 => k_is)
    (case kF8 => k_is)
    (case ag9 => k_is)
    (case lF9 => k_is)
    (case dF9 => k_is)
    (case kF9 => k_is)
    (case ag10 => k_is)
    (case lF10 => k_is)
    (case dF10 => k_is)
    (case kF10 => k_is)
    (case am0 => k_is)
    (case am1 => k_is)
    (case am2 => k_is)
    (case am3 => k_is)
    (case ck => kernel_rfl)
