import PyProof.Rows.All
import Wide.All
import OpenK.AllK
import Wide.FinOn
import HandS.ForMost
import HandS.Wide
import HandS.Defaults
import HandS.More
import HandS.RaiseMore
import HandS.Style
import PyProof.ReprRoads
import PyProof.SliceMore
import HandS.IterVal
import HandS.Nested
import HandS.Conv
import KE.KDictList
import KE.KNestM
import HandS.EndTab
import HandS.NoneIn
import HandS.Star
import HandS.IsInst
import HandS.Iter
import HandS.MakeKwOnly
import HandS.Rev
import HandS.DictComp
import HandS.Flow
import HandS.Set
import HandS.TupSets
import HandS.DeepEq
import HandS.ForExc
import HandS.ExcInit
import HandS.ExcField
import HandS.ExcIs
import HandS.FStr
import KE.KExcIs
import KE.GoesEnum
import HandS.Walk
import PyProof.EqKinds
import PyProof.FactsAll.dict_1
import HandS.Dict
import KE.DataMinMax
import HandS.SortKw
import HandS.Small
import HandS.List
import PyProof.StrBlock2
import PyProof.StrBlockL
import PyProof.StrLaws
import PyProof.FitsReplace
import PyProof.ReprBulk
import PyProof.Rows.RegStrFacts
import PySem.Challenge.RW_anystore_k51_measures_told
set_option Elab.async false
set_option linter.all false
set_option maxRecDepth 100000
namespace Any
open L2 PySem PyProof.Rows
open PySem.Spec

/-! ### the texts of data (repr) -/
/-- a thing without parts -/
inductive Flat : V → PyData → Prop
  | non : Flat .non .none
  | bl (b : Bool) : Flat (.bl b) (.bool b)
  | int (i : Int) : Flat (.int i) (.int i)
  | str (x : Str) : Flat (.str x) (.str x)
def keyD : Key → PyData
  | .inl i => .int i
  | .inr x => .str x
/-- what repr may be asked of: lists and tuples at any depth, dicts of flat things -/
inductive Shows (K : PySem.W.Frag) (H : Hp) : Addr → PyData → Prop
  | seq {a : Addr} {d : PyData} : Dp K H (.ref a) d → d.hasDict = false → Shows K H a d
  | dct {a : Addr} {kvs : List (Key × V)} {ds : List (PyData × PyData)} : H a = some (.dK kvs) →
      Paired (fun (p : Key × V) (q : PyData × PyData) => q.1 = keyD p.1 ∧ Flat p.2 q.2) kvs ds → Shows K H a (.dict ds)

section
variable {P : Program} {w : World} {h : Heap}
theorem flat_reads {v : V} {u : Value} {d : PyData} (f : Flat v d) (r : RelV v u) : Reads h u d [] := by
  cases f with
  | non => cases r; exact .none
  | bl b => cases r; exact .bool b
  | int i => obtain ⟨t, rfl⟩ := r; exact .int i t
  | str x => obtain ⟨t, rfl⟩ := r; exact .str x t
theorem key_reads {k : Key} {u : Value} (e : keyIs k u = true) : Reads h u (keyD k) [] := by
  rcases keyIs_shape e with ⟨i, t, rfl, rfl⟩ | ⟨x, t, rfl, rfl⟩
  · exact .int i t
  · exact .str x t
theorem dct_reads : ∀ {kvs : List (Key × V)} {ds : List (PyData × PyData)} {vs : List (Key × Value)} {es : List DictEntry},
    Paired (fun (p : Key × V) (q : PyData × PyData) => q.1 = keyD p.1 ∧ Flat p.2 q.2) kvs ds → KV kvs vs → Pairs (mixKind P w) es vs →
    ReadsAll h (es.map (·.key)) (ds.map (·.1)) [] ∧ ReadsAll h (es.map (·.val)) (ds.map (·.2)) []
  | _, _, _, _, .nil, r, q => by
    cases r; cases q; exact ⟨.nil, .nil⟩
  | _, _, _, _, .cons z zs, r, q => by
    cases r with
    | cons r1 r2 =>
      cases q with
      | cons q1 q2 q3 =>
        obtain ⟨a, b⟩ := dct_reads zs r2 q3
        rename_i p ps d dd vv vr e es
        have k1 : keyIs vv.1 e.key = true := q1
        refine ⟨?_, ?_⟩
        · have c := ReadsAll.cons (as := []) (bs := []) (key_reads (h := h) k1) a
          rw [← r1.1, ← z.1] at c
          exact c
        · have c := ReadsAll.cons (as := []) (bs := []) (flat_reads (h := h) z.2 r1.2) b
          rw [← q2] at c
          exact c
end

section
variable {X : Cx}
def rRepr (K : PySem.W.Frag) : List V → Hp → VK → Prop := fun vs H Q => ∃ a d, vs = [.ref a] ∧ Shows K H a d ∧ d.showable = true ∧ d.depth ≤ 60 ∧ d.shown.length ≤ sizeLine ∧ Q (.str d.shown) H
theorem call_repr (hG : X.A.guards = some []) (hu : X.A.units + 70 < cLine) : CallR X (.builtin "repr") (rRepr X.K) := by
  intro pins s σ H xs us Q I r h
  obtain ⟨a, d, rfl, hd, hs, hdp, hz, q⟩ := h
  obtain ⟨u, rfl, ru⟩ := vals1 r
  cases ru
  have key : ∃ as, Reads s.heap (.ref a) d as ∧ (d.hasDict = true → sysModules ∉ as) := by
    cases hd with
    | seq h1 h2 =>
      obtain ⟨as, q1⟩ := Dp.reads I d _ _ h1 rfl
      exact ⟨as, q1, fun z => by rw [h2] at z; cases z⟩
    | dct h1 h2 =>
      obtain ⟨_, ns, vs, kv, o, es, ep, e1, e2, e3, _, e5, _⟩ := I.hok a _ h1
      obtain ⟨q1, q2⟩ := dct_reads (h := s.heap) h2 kv e5
      refine ⟨_, Reads.dict e1 e2.1 e3 q1 q2, fun _ z => ?_⟩
      rcases List.mem_append.mp z with z | z
      · rcases List.mem_cons.mp z with z | z
        · rw [← z] at ns
          simp at ns
        · cases z
      · cases z
  obtain ⟨as, rd, sm⟩ := key
  refine repr_of_reads' rd hs sm hG (by omega) (fun _ _ e => e) (fun h' u tk hk => ?_) hz
  exact ⟨.str d.shown, H, I.kept hk, ⟨_, rfl⟩, q⟩

/-! ### xs[::e], e being 1 or -1 -/
theorem pick_one (items : Array Value) : slicePick items none none (some 1) = items := by
  have e : slicePick items none none (some 1) = slicePick items none none none := rfl
  rw [e, slicePick_all]
def tStep (K : PySem.W.Frag) (te ts : TE) : TE := fun σ H Q => te σ H fun x H1 => ts σ H1 fun y H2 => ∃ a xs, x = .ref a ∧ SqL K H2 a xs ∧
  ((y = .int 1 ∧ ∀ p, H2 p = none → Q (.ref p) (upd H2 p (.lst xs))) ∨ (y = .int (-1) ∧ ∀ p, H2 p = none → Q (.ref p) (upd H2 p (.lst xs.reverse))))
theorem pe_step {e st : Expr} {te ts : TE} {p3 pos : Pos} (he : PE X e te) (hst : PE X st ts) :
    PE X (.Subscript e (.Slice none none (some st) p3) pos) (tStep X.K te ts) := by
  refine ⟨fun pins s σ H Q I h => ?_⟩
  refine Subscript_ (thn (he.run pins s σ H _ I h) fun v s1 ⟨x, H1, I1, r1, q1⟩ => ?_)
  refine wpAny_Slice (thn (po_none.run pins s1 σ H1 (fun o H2 => o = none ∧ H2 = H1) I1 ⟨rfl, rfl⟩) fun vl s2 ⟨l, H2, I2, pl, el, e2⟩ => ?_)
  subst el e2
  refine thn (po_none.run pins s2 σ H2 (fun o H3 => o = none ∧ H3 = H2) I2 ⟨rfl, rfl⟩) fun vu s3 ⟨u, H3, I3, pu, eu, e3⟩ => ?_
  subst eu e3
  rw [evalPart_some]
  refine thn (hst.run pins s3 σ H3 _ I3 q1) fun vs s4 ⟨y, H4, I4, r4, a, xs, ex, hx, q⟩ => ?_
  subst ex
  cases r1
  have I5 : Inv X pins σ H4 { s4 with heap := s4.heap.push { cls := .type "slice", data := .fields #[vl, vu, vs] } } := I4.kept (t' := s4.toks) fun b ob q => Heap.get?_push_of_some _ q
  obtain ⟨its, r, ht, hz⟩ := I5.list hx
  have hlen := r.length
  have two : ∃ k : Int, y = .int k ∧ k ≠ 0 ∧ ∃ zs ws, Vals ws zs ∧ slicePick its.toArray none none (some k) = zs.toArray ∧ ws.length ≤ sizeLine ∧ ∀ p, H4 p = none → Q (.ref p) (upd H4 p (.lst ws)) := by
    rcases q with ⟨ey, q⟩ | ⟨ey, q⟩
    · exact ⟨1, ey, by decide, its, xs, r, pick_one _, hz, q⟩
    · exact ⟨-1, ey, by decide, its.reverse, xs.reverse, r.reverse, by rw [PySem.W.krv_pick], by rw [List.length_reverse]; exact hz, q⟩
  obtain ⟨k, ey, hk, zs, ws, rz, epk, hzs, qq⟩ := two
  subst ey
  obtain ⟨t, rfl⟩ := (show ∃ t, vs = Value.int k t from r4)
  show wpAny (model X.prog X.w) X.A (subscriptTail e (.Slice none none (some st) p3) (.ref a) (.ref s4.heap.objs.size)) (EP X pins σ Q) X.xe _
  refine tail_any (ops := [.ref a, .ref s4.heap.objs.size]) ht.isList.typeIs (PySem.slot_list_getitem.lookup) ?_ (by with_unfolding_all rfl)
  refine wpAny_getItem_list_slice ht.isList (Heap.IsSliceOf.new _ vl vu (.int k t)) pl pu (IsPart.int k t) (by intro z; exact hk (Option.some.inj z)) ?_ (by rw [List.size_toArray]; omega)
  rw [epk]
  refine ⟨.ref _, _, I5.laid (t' := s4.toks) (o := .lst ws) (fun b ob q => Heap.get?_push_of_some _ q) (Nat.le_refl _) ?_, rfl, qq _ (I5.hok.fresh (Nat.le_refl _))⟩
  exact ⟨hzs, _, 0, rz, Heap.get?_push_size _ rfl⟩

/-! ### great powers -/
def CPowW (i j : Int) : Prop := 0 ≤ j ∧ (Builtin.Int.intBits i : Int) * j ≤ 2 ^ 27
theorem op_powW : OpR X (binaryOp .Pow) (rI CPowW fun i j => .int (i ^ j.toNat)) := opI fun _ _ _ _ _ _ _ hc q => pow_int hc.1 hc.2 q
end
end Any
namespace Any
open L2 PySem PyProof.Rows
open PySem.Spec

/-! ### defs that run where no repr is under way -/
section
variable (P : Program) (w : World) (K : PySem.W.Frag) (mg : Str → Option Value) (base : Heap)
/-- as FnOk, for callers with no guard -/
structure FnG (C : CXT) (k : Nat) (f : Addr) (fd : FuncData) (ps : List Str) (sp : Sp) : Prop where
  len : ∀ vs H Q E, sp vs H Q E → vs.length = ps.length
  go : ∀ (A : Around) (out : List Env) (s : Shared) (H : Hp) (args : Args) (us : List Value) (vs : List V) (Q : VK) (E : XK), A.guards = some [] → Room k A →
    Env0 P w K mg base A out s H → BindsTo s fd args (ps.zip us) → Vals vs us → sp vs H Q E → codeAny (model P w) A (.call (.ref f) args) (CR C out P w H s Q E) s
end
section
variable {P : Program} {w : World} {K : PySem.W.Frag} {mg : Str → Option Value} {base : Heap}
theorem FnG.of {C : CXT} {k : Nat} {f : Addr} {fd : FuncData} {ps : List Str} {sp : Sp} (F : FnOk P w K mg base C k f fd ps sp) : FnG P w K mg base C k f fd ps sp :=
  ⟨F.len, fun A out s H args us vs Q E _ hr => F.run A out s H args us vs Q E hr⟩
theorem FnG.mono {C : CXT} {j k : Nat} {f : Addr} {fd : FuncData} {ps : List Str} {sp : Sp} (F : FnG P w K mg base C j f fd ps sp) (h : j ≤ k) : FnG P w K mg base C k f fd ps sp :=
  ⟨F.len, fun A out s H args us vs Q E hg hr => F.go A out s H args us vs Q E hg (hr.mono h)⟩

/-- a def's body, under no guard -/
theorem fn_g {C : CXT} {k : Nat} {f : Addr} {nm ql : Str} {ar : Arguments} {bd : List Stmt} {sc : Scope} {v1 v2 v3 v4 v5 v6 v7 : Value} {a1 a2 : Option Addr} {sl : Array (Option Value)} {N ps : List Str} {sp : Sp}
    (at_ : K.lookup f = some ⟨v7, a2, .func (PySem.W.fnOf nm ql ar bd sc v1 v2 v3 v4 a1 v5 v6), sl⟩) (code : PySem.W.codeIn K v5 ql = true) (S : FnScope N ps sc)
    (ln : ∀ vs H Q E, sp vs H Q E → vs.length = ps.length)
    (hb : ∀ (A : Around) (out : List Env) (s : Shared) (H : Hp) (vs : List V) (Q : VK) (E : XK), A.guards = some [] → Room k (A.deeper (envOfC ql sc s.heap.objs.size f v5)) → sp vs H Q E →
      ∃ t, PSs (cxOf C P w K mg base N ql sc f v5 A out s H E) bd t ∧ t ⟨fun _ H' => Q .non H', Q, fun _ _ => False, fun _ _ => False⟩ (start N vs) H) :
    FnG P w K mg base C (k + 1) f (PySem.W.fnOf nm ql ar bd sc v1 v2 v3 v4 a1 v5 v6) ps sp where
  len := ln
  go A out s H args us vs Q E hg hr e0 hbi rv hsp := by
    have kx : K.In s.heap := e0.mod.kin.keeps (fun b o z => (e0.bs b o z).1)
    have nl : s.heap.NoLimit := e0.mod.nolimit.keeps (fun b o z => (e0.bs b o z).1)
    have kd : ∀ y ∈ ps.zip us, sc.names.lookup y.1 = some .local ∨ (sc.names.lookup y.1 = some .cell ∧ ((cellsFrom (s.heap.objs.size + 1) sc.names []).lookup y.1).isSome = true) := by
      rintro ⟨n, v⟩ hy
      have z := S.par n (List.of_mem_zip hy).1
      exact z.elim .inl (fun z => .inr ⟨z, PySem.W.cellsFrom_some _ _ _ (.inl z)⟩)
    refine codeAny_call_function hr.depth (kx _ _ at_) rfl S.co S.gen rfl (PySem.W.codeRec_of kx code) (hbi _ _ _ _ (wpAny_newFunctionEnv_cells S.kind kd (fun env he s1 x => ?_)))
    subst he
    obtain ⟨t, ht, hq⟩ := hb A out s H vs Q E hg (hr.deeper _) hsp
    have I := inv_start (CX := C) (E := E) S hr.hd e0 (ln _ _ _ _ hsp) rv x
    refine ⟨nl.keeps x.toInCall.keep, codeAny_func (wpAny_mono (ht.run [] s1 (start N vs) H _ I hq) (fun fl s' hs => ?_) (fun _ _ z => z))⟩
    cases fl with
    | ret u => obtain ⟨v, σ', H', J, r', q⟩ := hs; exact ⟨v, H', J.os, J.bare, J.base, J.hok, r', q⟩
    | next => obtain ⟨σ', H', J, q⟩ := hs; exact ⟨.non, H', J.os, J.bare, J.base, J.hok, rfl, q⟩
    | brk => exact hs.elim fun _ z => z.elim fun _ z => z.2.elim
    | cont => exact hs.elim fun _ z => z.elim fun _ z => z.2.elim
theorem fun_g {x ql : Str} {st : Stmt} {f : Addr} {fd : FuncData} {N ps : List Str} {k : Nat} {sp : Sp} (F : Fun K x ql st f fd) (S : FnScope N ps (defScope st)) (ln : ∀ vs H Q E, sp vs H Q E → vs.length = ps.length)
    (hb : ∀ (cv : Value) (A : Around) (out : List Env) (s : Shared) (H : Hp) (vs : List V) (Q : VK) (E : XK), A.guards = some [] → Room k (A.deeper (envOfC ql (defScope st) s.heap.objs.size f cv)) → sp vs H Q E →
      ∃ t, PSs (cxOf CX0 P w K mg base N ql (defScope st) f cv A out s H E).nox (defBody st) t ∧ t ⟨fun _ H' => Q .non H', Q, fun _ _ => False, fun _ _ => False⟩ (start N vs) H) : FnG P w K mg base CX0 (k + 1) f fd ps sp := by
  obtain ⟨_, _, _, _, _, _, cv, _, _, rfl, lk, hc⟩ := F.ex
  refine fn_g lk hc S ln fun A out s H vs Q E hg hr hs => ?_
  obtain ⟨t, h, q⟩ := hb cv A out s H vs Q E hg hr hs
  exact ⟨t, h.nox, q⟩
end

section
variable {X : Cx} {C : CXT} {k : Nat} {f : Addr} {fd : FuncData} {ps : List Str} {sp : Sp} {ds : List V} {us0 : List Value} {E : XK} {x : Str} {p pos : Pos} {e : Expr} {es : List Expr} {t : TA}
/-- a call of such a def -/
theorem pe_callG (F : FnG X.prog X.w X.K X.mg X.base C k f fd ps sp) (hG : X.A.guards = some []) (hr : Room k X.A) (hg : Gl X x) (hm : X.mg x = some (.ref f)) (hk : PySem.W.keepIn X.K (.ref f) = true) (hb : Binds X.K fd ps us0) (hd : Vals ds us0)
    (hx : Passes C X E) (ha : PA X (e :: es) t) (h1 : (x == ("__debug__" : Str)) = false := by decide) (h2 : starEach (e :: es) X.env = (false, eval e X.env) :: starEach es X.env := by rfl)
    (h3 : (backTo pos (starEach es X.env)).any (·.1) = false := by rfl) : PE X (.Call (.Name x p) (e :: es) [] pos) (tCall sp ds E t) where
  run pins s σ H Q I h := by
    refine wpAny_Call_Name_kw (ld_glob I hg hm (PySem.W.callWith_K (h₀ := X.base) I.ok.mod.kin hk (thn (ha.run pos pins s σ H _ I h) ?_) h2 h3) h1)
    rintro us s1 ⟨vs, H1, I1, rv, q⟩
    have rr := rv.append hd
    have hl : (us ++ us0).length = ps.length := rr.length.symm.trans (F.len _ _ _ _ q)
    refine ⟨I1.kIn, wpAny_call (codeAny_mono (F.go X.A X.stack s1 H1 _ _ _ Q E hG hr I1.env0 (hb s1 us I1.kIn hl) rr q) ?_)⟩
    rintro (err | fl) s' hq
    · exact hx pins σ H1 s1 err s' I1 hq
    · cases fl with
      | ret u => exact I1.after hq
      | next => cases hq
      | brk => cases hq
      | cont => cases hq

/-- x(e, ..), x a name that holds one of several defs -/
def tCallS (X : Cx) (C : CXT) (k i : Nat) (E : XK) (t : TA) : TE := fun σ H Q => ∃ f sp, FnR X.prog X.w X.K X.mg X.base C k f sp ∧ PySem.W.keepIn X.K (.ref f) = true ∧ σ[i]? = some (some (.ref f)) ∧ t σ H fun vs H1 => sp vs H1 Q E
theorem pe_callS {i : Nat} (hr : Room k X.A) (hx : Passes C X E) (hN : X.N[i]? = some x) (hv : Vis X.env.scope x) (ha : PA X (e :: es) t)
    (h1 : (x == ("__debug__" : Str)) = false := by decide) (h4 : (x == ("__classdict__" : Str)) = false := by decide) (h2 : starEach (e :: es) X.env = (false, eval e X.env) :: starEach es X.env := by rfl)
    (h3 : (backTo pos (starEach es X.env)).any (·.1) = false := by rfl) : PE X (.Call (.Name x p) (e :: es) [] pos) (tCallS X C k i E t) where
  run pins s σ H Q I h := by
    obtain ⟨f, sp, F, hk, hs, h⟩ := h
    exact (ItX.pe_callV (i := i) (p := p) F hr hk hx hN hv ha h1 h4 h2 h3).run pins s σ H Q I ⟨hs, h⟩

/-- f(k = v, ..) alone -/
theorem pe_callK0 {ks : List Str} {g : List Value → List Value → List Value} {gV : List V → List V → List V} {kws : List Keyword} {tk : TA} (F : FnOk X.prog X.w X.K X.mg X.base C k f fd ps sp) (hr : Room k X.A) (hg : Gl X x) (hm : X.mg x = some (.ref f))
    (hk : PySem.W.keepIn X.K (.ref f) = true) (hb : KBn X.K fd ps 0 ks g gV) (hx : Passes C X E) (hkw : PK X kws tk) (hall : (backToKw pos (keywordEach kws X.env)).all (·.1.isSome) = true := by rfl)
    (hks : (backToKw pos (keywordEach kws X.env)).filterMap (·.1) = ks := by rfl) (h1 : (x == ("__debug__" : Str)) = false := by decide)
    (h3 : ((backTo pos (starEach [] X.env)).any (·.1) || (backToKw pos (keywordEach kws X.env)).any (·.1.isNone)) = false := by rfl) :
    PE X (.Call (.Name x p) [] kws pos) (fun σ H Q => tk σ H fun zs H1 => zs.length = ks.length ∧ sp (gV [] zs) H1 Q E) where
  run pins s σ H Q I h := by
    refine wpAny_Call_Name_kw (ld_glob I hg hm ?_ h1)
    refine PySem.W.callWith_KW0 (h₀ := X.base) I.ok.mod.kin hk hall (thn (hkw.run pos pins s σ H _ I h) ?_) h3
    rintro ws s1 ⟨zs, H1, I1, rz, l1, q⟩
    refine ⟨I1.kIn, ?_⟩
    rw [hks]
    exact run_fnN (us := []) (vs := []) F hr hb hx I1 .nil rz rfl l1 q
end

/-! ### the law's call, under no guard -/
section
variable {P : Program} {w : World} {K : PySem.W.Frag} {mg mb : Str → Option Value}
theorem law_g {C : CXT} {k : Nat} {fa a : Addr} {fd : FuncData} {x : Str} {sp : Sp} {s : Shared} {vs : List Value} {ns : List Int}
    (kx : K.In s.heap) (g1 : s.heap.Ns mainGlobals mg) (g2 : s.heap.Ns builtinsNs mb) (g3 : ∀ x : Str, x ≠ "__name__" → mb x = bootBuiltins x) (g4 : s.heap.NoLimit) (g5 : s.gens = #[])
    (la : s.heap.get? a = some { cls := .type "list", data := .seq vs.toArray }) (li : IntsAre vs ns) (ll : ns.length ≤ sizeLine) (hr : Room k callerA)
    (F : ∀ base : Heap, K.In base → base.Ns mainGlobals mg → FnG P w K mg base C k fa fd [x] sp) (bd : ∀ (s : Shared) (u : Value), BindsTo s fd ⟨[u], []⟩ [(x, u)])
    (want : ∀ H : Hp, Only H → SqL K H a (ns.map V.int) → sp [.ref a] H (fun v _ => v = .bl true) fun _ _ _ => False)
    (noC : ∀ H e s', C [] H s (fun _ _ _ => False) e s' → False) :
    codeAny (model P w) callerA (.call (.ref fa) ⟨[.ref a], []⟩) (fun r s' => r = .ok (.ret (.bool true)) ∧ OldK s.heap s'.heap ∧ s'.os = s.os ∧ AllBare s'.gens) s := by
  -- one abstract heap: the script, if the written part has it not
  have pick : ∃ H : Hp, Only H ∧ SqL K H a (ns.map V.int) ∧ HOk P w H s.heap ∧ (∀ b u, H b = some u → b = a) ∧ ((H a).isSome = true → K.lookup a = none) := by
    cases hk : K.lookup a with
    | some o =>
      have z := (kx a o hk).symm.trans la
      cases z
      exact ⟨fun _ => none, fun _ => .inl rfl, .inr ⟨_, vs.toArray, _, hk, rfl, rfl, rfl, by rw [List.size_toArray, li.length]; exact ll, by simpa using vals_ints li⟩, (fun b u z => by cases z), (fun b u z => by cases z), (fun z => by cases z)⟩
    | none =>
      let o : HO := .frz { cls := .type "list", data := .seq vs.toArray } (.lst (ns.map V.int))
      have at_a : ∀ b u, upd (fun _ => none) a o b = some u → b = a ∧ u = o := fun b u z => by
        by_cases hb : b = a
        · subst hb; rw [upd_same] at z; exact ⟨rfl, (Option.some.inj z).symm⟩
        · rw [upd_ne hb] at z; cases z
      refine ⟨upd (fun _ => none) a o, fun b => ?_, .inl (.inr ⟨_, upd_same⟩), fun b u z => ?_, fun b u z => (at_a b u z).1, fun _ => rfl⟩
      · by_cases hb : b = a
        · subst hb; exact .inr ⟨_, _, upd_same⟩
        · exact .inl (by rw [upd_ne hb])
      · obtain ⟨rfl, rfl⟩ := at_a b u z
        exact ⟨la, by rw [List.length_map]; exact ll, vs, _, vals_ints li, la⟩
  obtain ⟨H, hO, hS, hok, hA, hK⟩ := pick
  have free : ∀ {b : Addr} {ob : Obj} {es : Array DictEntry} {n : Nat}, s.heap.get? b = some ob → ob.data = .dict es n → H b = none := by
    intro b ob es n z d
    cases q : H b with
    | none => rfl
    | some u =>
      have z1 := hA b u q
      subst z1
      have z2 := z.symm.trans la
      cases z2
      have d' : Data.seq vs.toArray 0 = Data.dict es n := d
      cases d'
  have ns' : ∀ {b : Addr} {m : Str → Option Value}, s.heap.Ns b m → (hidT s.heap H).Ns b m := by
    rintro b m ⟨o, es, n, z, d, r⟩
    exact ⟨o, es, n, hidT_get z (free z d), d, r⟩
  have kb : K.In (hidT s.heap H) := by
    intro b o z
    refine hidT_get (kx b o z) ?_
    cases q : H b with
    | none => rfl
    | some u =>
      have z1 := hA b u q
      subst z1
      have z2 := hK (by rw [q]; rfl)
      rw [z2] at z
      cases z
  obtain ⟨mc, l1, l2⟩ := g4
  have e0 : Env0 P w K mg (hidT s.heap H) callerA [] s H :=
    { frames := rfl, mod := ⟨kb, ns' g1, ⟨mb, ns' g2, g3⟩, ⟨mc, ns' l1, l2⟩⟩, bs := fun b o z => of_hidT z, bsz := Nat.le_of_eq (hidT_size _ _), funs := trivial, frf := fun b z => (by cases z), hok := hok, bare := .of_eq g5 }
  refine codeAny_mono ((F _ kb (ns' g1)).go callerA [] s H ⟨[.ref a], []⟩ [.ref a] [.ref a] _ _ rfl hr e0 (bd s (.ref a)) (.cons rfl .nil) (want H hO hS)) ?_
  rintro (err | fl) s' h
  · exact (noC H err s' h).elim
  cases fl with
  | next => cases h
  | brk => cases h
  | cont => cases h
  | ret u =>
    obtain ⟨v, H', h1, h2, un, hok', rv, rfl⟩ := h
    cases rv
    refine ⟨rfl, OldK.of_keep (fun b o z => ?_), h1, h2⟩
    cases q : H b with
    | none => exact un.keep b o z q (fun z => by cases z) (fun z => by cases z)
    | some u =>
      rcases hO b with z1 | ⟨ob, xs, z1⟩
      · rw [q] at z1; cases z1
      · have z2 := (hok b _ z1).1
        rw [z] at z2
        cases z2
        exact (hok' b _ (un.frzs b _ _ z1)).1
theorem walk_g {l : PySem.W.OpenLaw} {n k : Nat} {q : Program} {loose : List Str} {XP : (Str → Option Value) → Heap → Prop} {YP : World → Heap → Prop} {d : DefRec} {K : Params → PySem.W.Frag} {sp : PySem.W.Frag → Sp} {x : Str}
    (h1 : l.most = some n) (h2 : n ≤ sizeLine) (h3 : d.params.defaults = []) (hr : Room k callerA) (hY : ∀ (w : World) (h : Heap), YP w h → (K w.params).In h)
    (F : ∀ (w : World) (mg : Str → Option Value) (fa : Addr) (h : Heap), (K w.params).In h → h.Ns mainGlobals mg → mg d.name = some (.ref fa) →
      ∃ fd : FuncData, (∀ (s : Shared) (u : Value), BindsTo s fd ⟨[u], []⟩ [(x, u)]) ∧ ∀ base : Heap, (K w.params).In base → base.Ns mainGlobals mg → FnG l.prog w (K w.params) mg base CX0 k fa fd [x] (sp (K w.params)))
    (want : ∀ (K : PySem.W.Frag) (H : Hp) (a : Addr) (ns : List Int), ns.length ≤ n → Only H → SqL K H a (ns.map V.int) → sp K [.ref a] H (fun v _ => v = .bl true) fun _ _ _ => False) :
    PySem.W.WalkO q loose XP YP l.row.toRowW d [] (fun f vs => PySem.call f vs) := by
  refine Att.attach_call h1 h3 fun w s₀ s₁ mg mb fa o pm cd doc a vs ns G Y _ _ _ hmg hobj hints hlen hg => ?_
  have kx := hY w _ Y
  obtain ⟨fd, hb, hF⟩ := F w mg fa _ kx G.T.g hmg
  exact law_g kx G.T.g G.T.b G.T.builtins G.T.nolimit hg hobj hints (Nat.le_trans hlen h2) hr hF hb (fun H hO hS => want _ H a ns hlen hO hS) (fun _ _ _ z => z)
end
end Any
set_option maxHeartbeats 1000000
namespace Any
open L2 PySem PyProof.Rows LamX NdefX
open PySem.Spec
/-! ### statements, the slots at the return told -/
structure EndR where
  nx : L2.St → Hp → Prop
  rt : V → L2.St → Hp → Prop
abbrev TR := EndR → L2.St → Hp → Prop
def SR (X : Cx) (pins : List (Addr × Obj)) (D : EndR) (f : Flow) (s' : Shared) : Prop :=
  match f with
  | .next => ∃ σ' H', Inv X pins σ' H' s' ∧ D.nx σ' H'
  | .ret u => ∃ v σ' H', Inv X pins σ' H' s' ∧ L2.RelV v u ∧ D.rt v σ' H'
  | _ => False
structure PR (X : Cx) (st : Stmt) (t : TR) : Prop where
  run : ∀ (pins : List (Addr × Obj)) (s : Shared) (σ : L2.St) (H : Hp) (D : EndR), Inv X pins σ H s → t D σ H → wpAny (model X.prog X.w) X.A (exec st X.env) (SR X pins D) X.xe s
structure PRs (X : Cx) (st : List Stmt) (t : TR) : Prop where
  run : ∀ (pins : List (Addr × Obj)) (s : Shared) (σ : L2.St) (H : Hp) (D : EndR), Inv X pins σ H s → t D σ H → wpAny (model X.prog X.w) X.A (execs st X.env) (SR X pins D) X.xe s
section
variable {X : Cx} {st : Stmt} {rest : List Stmt} {t u : TR} {e : Expr} {pos : Pos}
/-- a statement that only goes on -/
def tGo (t : TS) : TR := fun D σ H => t { nx := D.nx, rt := fun _ _ => False } σ H
theorem pr_go {t : TS} (h : PS X st t) : PR X st (tGo t) := by
  refine ⟨fun pins s σ H D I hq => thn (h.run pins s σ H _ I hq) fun f s1 q => ?_⟩
  cases f with
  | next => exact q
  | ret v =>
    obtain ⟨_, _, _, _, _, z⟩ := q
    exact z.elim
  | brk =>
    obtain ⟨_, _, _, z⟩ := q
    exact z.elim
  | cont =>
    obtain ⟨_, _, _, z⟩ := q
    exact z.elim
def tRetR (te : TE) : TR := fun D σ H => te σ H fun v H' => D.rt v σ H'
theorem pr_ret {te : TE} (he : PE X e te) : PR X (.Return (some e) pos) (tRetR te) := by
  refine ⟨fun pins s σ H D I h => ?_⟩
  exact wpAny_Return_some (thn (he.run pins s σ H _ I h) fun v s1 ⟨x, H1, I1, r1, q1⟩ => ⟨x, σ, H1, I1, r1, q1⟩)
def tIfR (c : TT) (t u : TR) : TR := fun D σ H => c σ H fun b H1 => if b = true then t D σ H1 else u D σ H1
theorem pr_if {c : Expr} {a b : List Stmt} {tc : TT} (hc : PT X c tc) (ha : PRs X a t) (hb : PRs X b u) : PR X (.If c a b pos) (tIfR tc t u) := by
  refine ⟨fun pins s σ H D I h => ?_⟩
  refine wpAny_If (thn (hc.run pins s σ H _ I h) fun d s1 ⟨H1, I1, q1⟩ => ?_)
  cases d with
  | true => exact ha.run pins s1 σ H1 D I1 q1
  | false => exact hb.run pins s1 σ H1 D I1 q1
def tSeqR (t u : TR) : TR := fun D σ H => t { D with nx := u D } σ H
def tNextR : TR := fun D σ H => D.nx σ H
theorem prs_nil : PRs X [] tNextR := ⟨fun _ _ σ H _ I h => wpAny_execs_nil ⟨σ, H, I, h⟩⟩
theorem prs_cons (h1 : PR X st t) (h2 : PRs X rest u) : PRs X (st :: rest) (tSeqR t u) := by
  refine ⟨fun pins s σ H D I h => ?_⟩
  refine wpAny_execs_cons (thn (h1.run pins s σ H { D with nx := u D } I h) fun f s1 q => ?_)
  cases f with
  | next =>
    obtain ⟨σ', H', I', q⟩ := q
    exact h2.run pins s1 σ' H' D I' q
  | ret v => exact q
  | brk => exact q.elim
  | cont => exact q.elim
theorem prs_one (h1 : PR X st t) : PRs X [st] t := by
  refine ⟨fun pins s σ H D I h => ?_⟩
  refine wpAny_execs_cons (thn (h1.run pins s σ H D I h) fun f s1 q => ?_)
  cases f with
  | next => exact wpAny_execs_nil q
  | ret v => exact q
  | brk => exact q.elim
  | cont => exact q.elim
end
/-! ### a made lambda -/
structure LF where
  qual : Str
  params : Arguments
  body : Expr
  scope : Scope
  cl : List (Str × Addr)
  c : Addr
/-- the object at f is the lambda F -/
def LamO (f : Addr) (F : LF) : HO := .ext fun h => ∃ (pm ctv : Value), h.get? f = some (PySem.W.kla_obj "<lambda>" F.qual F.params F.body F.scope F.cl pm F.c ctv)
theorem lamO_at {P : Program} {w : World} {H : Hp} {h : Heap} {f : Addr} {F : LF} (hok : HOk P w H h) (e : H f = some (LamO f F)) : ∃ (pm ctv : Value), h.get? f = some (PySem.W.kla_obj "<lambda>" F.qual F.params F.body F.scope F.cl pm F.c ctv) := by
  obtain ⟨z, _, _⟩ := hok f _ e
  exact z
theorem lamO_ne {f : Addr} {F : LF} (ps : Array Value) : LamO f F ≠ .tbl ps := fun z => by
  unfold LamO at z
  cases z
section
variable {X : Cx} {pins : List (Addr × Obj)} {σ : L2.St} {H : Hp} {s : Shared}
theorem inv_lam {F : LF} {t' : Nat} {pm ctv : Value} (I : Inv X pins σ H s) :
    Inv X pins σ (upd H s.heap.objs.size (LamO s.heap.objs.size F)) { s with heap := s.heap.push (PySem.W.kla_obj "<lambda>" F.qual F.params F.body F.scope F.cl pm F.c ctv), toks := t' } := by
  refine I.laid (a := s.heap.objs.size) (fun b u e => Heap.get?_push_of_some _ e) (Nat.le_refl _) ?_
  have e : (s.heap.push (PySem.W.kla_obj "<lambda>" F.qual F.params F.body F.scope F.cl pm F.c ctv)).get? s.heap.objs.size = some (PySem.W.kla_obj "<lambda>" F.qual F.params F.body F.scope F.cl pm F.c ctv) := Heap.get?_push_size _ rfl
  exact ⟨⟨pm, ctv, e⟩, ⟨_, e⟩, fun h1 h2 ⟨p, t, z⟩ st => ⟨p, t, st _ z⟩⟩
/-- a table with one code object more -/
def putTab (H : Hp) (P c' : Addr) (ps : Array Value) (pos : Pos) (q : Str) : Hp := upd (upd H P (.tbl (ps ++ #[rawInt pos.line, rawInt pos.col, .ref c']))) c' (CodeO c' q)
theorem putTab_ext {P c' : Addr} {ps : Array Value} {pos : Pos} {q : Str} (at_ : H P = some (.tbl ps)) (new : H c' = none) : ExtN H (putTab H P c' ps pos q) := fun b o e no => by
  have b1 : b ≠ c' := ne_of_none e new
  have b2 : b ≠ P := fun z => by
    rw [z, at_] at e
    exact no ps (Option.some.inj e).symm
  unfold putTab
  rw [upd_ne b1, upd_ne b2, e]
theorem putTab_tabs {T : List NTab} {nm : Nat → Nat → Str} {P c' : Addr} {ps : Array Value} {pos : Pos} {q : Str} (uni : ∀ p ∈ T, p.1 = P → p.2 = nm) (all : TabsN T H) (at_ : H P = some (.tbl ps)) (tri : TriplesOk ps.toList)
    (told : ∀ (pos : Pos) (cv : Value), codeAmong pos ps.toList = some cv → ∃ c, cv = .ref c ∧ H c = some (CodeO c (nm pos.line pos.col))) (new : H c' = none) (hq : nm pos.line pos.col = q) : TabsN T (putTab H P c' ps pos q) := by
  have ext := putTab_ext (pos := pos) (q := q) at_ new
  have own : putTab H P c' ps pos q c' = some (CodeO c' q) := upd_same
  intro p hp
  by_cases pP : p.1 = P
  · have lst : (ps ++ #[rawInt pos.line, rawInt pos.col, .ref c']).toList = ps.toList ++ [rawInt pos.line, rawInt pos.col, .ref c'] := by simp
    refine ⟨ps ++ #[rawInt pos.line, rawInt pos.col, .ref c'], ?_, ?_, fun at2 cv found => ?_⟩
    · rw [pP]
      unfold putTab
      rw [upd_ne (ne_of_none at_ new), upd_same]
    · rw [lst]
      exact PySem.TriplesOk_snoc _ _ _ _ tri
    · rw [lst] at found
      rw [uni p hp pP]
      rcases among_app2 _ tri found with z | ⟨z, l1, l2⟩
      · obtain ⟨c0, x1, x2⟩ := told at2 cv z
        exact ⟨c0, x1, ext _ _ x2 codeO_ne⟩
      · rw [← l1, ← l2, hq]
        exact ⟨c', z, own⟩
  · obtain ⟨qs, y1, y2, y3⟩ := all p hp
    refine ⟨qs, ?_, y2, fun at2 cv found => ?_⟩
    · unfold putTab
      rw [upd_ne (ne_of_none y1 new), upd_ne pP, y1]
    · obtain ⟨c0, x1, x2⟩ := y3 at2 cv found
      exact ⟨c0, x1, ext _ _ x2 codeO_ne⟩
/-- a lambda is made: it is known from now on, and so is its code object -/
theorem lam_make {T : List NTab} {nm : Nat → Nat → Str} {c P : Addr} {ar : Arguments} {bd : Expr} {sc : Scope} {pos : Pos} {E : Value → Shared → Prop} {Q : Value → Shared → Prop} (I : Inv X pins σ H s) (base : TabB X.base X.mg c P) (mine : X.env.code = .ref c)
    (listed : (P, nm) ∈ T) (named : nm pos.line pos.col = X.env.qual ++ "<lambda>") (uni : ∀ p ∈ T, p.1 = P → p.2 = nm) (all : TabsN T H) (nod : defaultsOf ar X.env = ([], [])) (capt : ∀ y ∈ sc.names, y.2 = .free → ∃ c, X.env.cells.lookup y.1 = some c)
    (go : ∀ (f c' : Addr) (H1 : Hp) (s' : Shared), Inv X pins σ H1 s' → ExtN H H1 → (∀ b, H1 b = Option.none → H b = Option.none) → TabsN T H1 → H f = none → H1 f = some (LamO f ⟨X.env.qual ++ "<lambda>", ar, bd, sc, cloFrom X.env.cells sc.names [], c'⟩) → H1 c' = some (CodeO c' (X.env.qual ++ "<lambda>")) → Q (.ref f) s') :
    wpAny (model X.prog X.w) X.A (eval (.Lambda ar bd sc pos) X.env) Q E s := by
  obtain ⟨ps, at_, tri, told⟩ := (show TabN H P nm from all _ listed)
  have raw : s.heap.get? P = some { cls := .none, data := .fields ps } := I.hok P _ at_
  have glob := I.mod.glob.keeps I.bk
  -- behind the making: the new function's object is laid last
  have last : ∀ (H1 : Hp) (s1 : Shared) (c' : Addr) (ctv : Value) (tk : Nat), Inv X pins σ H1 s1 → ExtN H H1 → (∀ b, H1 b = Option.none → H b = Option.none) → TabsN T H1 → H1 c' = some (CodeO c' (X.env.qual ++ "<lambda>")) →
      Q (.ref s1.heap.objs.size) { s1 with heap := s1.heap.push (PySem.W.kla_obj "<lambda>" (X.env.qual ++ "<lambda>") ar bd sc (cloFrom X.env.cells sc.names []) ((X.mg "__name__").getD .none) c' ctv), toks := tk } := fun H1 s1 c' ctv tk J x1 x2 x3 x4 => by
    have free1 := J.hok.fresh (Nat.le_refl _)
    have J2 := inv_lam (F := ⟨X.env.qual ++ "<lambda>", ar, bd, sc, cloFrom X.env.cells sc.names [], c'⟩) (t' := tk) (pm := (X.mg "__name__").getD .none) (ctv := ctv) J
    have up : ∀ b o, H1 b = some o → upd H1 s1.heap.objs.size (LamO s1.heap.objs.size ⟨X.env.qual ++ "<lambda>", ar, bd, sc, cloFrom X.env.cells sc.names [], c'⟩) b = some o := fun b o e => by
      rw [upd_ne (ne_of_none e free1)]
      exact e
    exact go _ c' _ _ J2 (fun b o e n => up b o (x1 b o e n)) (fun b e => x2 b (NdefX.upd_none e)) (x3.ext up) (x2 _ free1) upd_same (up _ _ x4)
  refine PySem.W.kla_eval nod ?_
  cases seen : codeAmong pos ps.toList with
  | some cv =>
    obtain ⟨c', rfl, known⟩ := told pos cv seen
    rw [named] at known
    refine PySem.W.kla_makeFunctionHit (mg := X.mg) (c := c) (P := P) (ps := ps) (closure_ok capt) I.ok.glob glob mine (base.code.keeps I.bk) raw tri seen (base.bm.keeps I.bk) fun ctv h' tk kp _ => ?_
    exact last H { s with heap := h', toks := tk } c' ctv tk (I.kept kp) (ExtN.refl H) (fun _ z => z) all known
  | none =>
    refine PySem.W.kla_makeFunction (mg := X.mg) (c := c) (P := P) (ps := ps) (closure_ok capt) I.ok.glob glob mine (base.code.keeps I.bk) raw tri seen base.gP (base.bm.keeps I.bk) fun c' ctv h' tk kp above _ rec tab => ?_
    obtain ⟨d, oc, vs, tok, ed, g1, g2, g3⟩ := rec
    cases ed
    have new : H c' = none := I.hok.fresh above
    have J := inv_table (t' := tk) (more := #[rawInt pos.line, rawInt pos.col, .ref c']) (h' := h') I at_ (fun b o n e => kp b o n e) tab above ⟨oc, vs, tok, g1, g2, g3⟩
    exact last (putTab H P c' ps pos (X.env.qual ++ "<lambda>")) { s with heap := h', toks := tk } c' ctv tk J (putTab_ext at_ new) (fun b z => NdefX.upd_none (NdefX.upd_none z)) (putTab_tabs uni all at_ tri told new named) upd_same
end
/-- the reading of a lambda -/
def tLamb (T : List NTab) (mk : Addr → LF) : TE := fun _ H Q => TabsN T H ∧ ∀ (f c' : Addr) (H1 : Hp), ExtN H H1 → (∀ b, H1 b = Option.none → H b = Option.none) → TabsN T H1 → H f = none → H1 f = some (LamO f (mk c')) → H1 c' = some (CodeO c' (mk c').qual) → Q (.ref f) H1
theorem pe_lamb {X : Cx} {T : List NTab} {nm : Nat → Nat → Str} {c P : Addr} {params : Arguments} {body : Expr} {scope : Scope} {pos : Pos} (TB : TabB X.base X.mg c P) (hcode : X.env.code = .ref c)
    (hm : (P, nm) ∈ T) (hn : nm pos.line pos.col = X.env.qual ++ "<lambda>") (hu : ∀ p ∈ T, p.1 = P → p.2 = nm) (hdef : defaultsOf params X.env = ([], []))
    (hfree : ∀ y ∈ scope.names, y.2 = .free → X.env.scope.names.lookup y.1 = some .cell ∨ X.env.scope.names.lookup y.1 = some .free) :
    PE X (.Lambda params body scope pos) (tLamb T fun c' => ⟨X.env.qual ++ "<lambda>", params, body, scope, cloFrom X.env.cells scope.names [], c'⟩) := by
  refine ⟨fun pins s σ H Q I h => ?_⟩
  obtain ⟨hT, h⟩ := h
  have hfr : ∀ y ∈ scope.names, y.2 = .free → ∃ c, X.env.cells.lookup y.1 = some c := fun y hy e => (hfree y hy e).elim (fun z => I.ok.has _ (.inl z)) fun z => I.ok.has _ (.inr z)
  exact lam_make I TB hcode hm hn hu hT hdef hfr fun f c' H1 s' I1 eN nn T1 f0 f1 c1 => ⟨.ref f, H1, I1, rfl, h f c' H1 eN nn T1 f0 f1 c1⟩
end Any
set_option maxHeartbeats 1000000
namespace Any
open L2 PySem PyProof.Rows LamX NdefX
open PySem.Spec
/-! ### cells that are known beyond their frame -/
def CellO (c : Addr) (v : V) : HO := .ext fun h => ∃ u, L2.RelV v u ∧ h.IsCell c (some u)
theorem cellO_ok {P : Program} {w : World} {H : Hp} {h : Heap} {c : Addr} {v : V} {u : Value} (r : L2.RelV v u) (hc : h.IsCell c (some u)) : ObjOk P w H h c (CellO c v) := by
  obtain ⟨o, ho, hd⟩ := id hc
  exact ⟨⟨u, r, hc⟩, ⟨o, ho⟩, fun h1 h2 ⟨u, r, o, ho, hd⟩ st => ⟨u, r, o, st _ ho, hd⟩⟩
theorem cellO_tbl {c : Addr} {v : V} (ps : Array Value) : CellO c v ≠ .tbl ps := fun z => by
  unfold CellO at z
  cases z
theorem cellO_own {c x : Addr} {v : V} : CellO c v ≠ .own x := fun z => by
  unfold CellO at z
  cases z
theorem cellO_tup {c : Addr} {v : V} {xs : List V} : CellO c v ≠ .tup xs := fun z => by
  unfold CellO at z
  cases z
theorem cellO_frz {c : Addr} {v : V} {o : Obj} {u : HO} : CellO c v ≠ .frz o u := fun z => by
  unfold CellO at z
  cases z
/-- the cell at b holds v, by the slots -/
def Capt (X : Cx) (σ : L2.St) (b : Addr) (v : V) : Prop := ∃ (x : Str) (i : Nat), X.env.cells.lookup x = some b ∧ X.N[i]? = some x ∧ σ[i]? = some (some v) ∧ X.env.scope.names.lookup x = some .cell
open Classical in
noncomputable def trkC (X : Cx) (σ : L2.St) (H : Hp) : Hp := fun b => if h : ∃ v, Capt X σ b v then some (CellO b h.choose) else H b
section
variable {X : Cx} {pins : List (Addr × Obj)} {σ : L2.St} {H : Hp} {s : Shared}
theorem capt_one (I : Inv X pins σ H s) (nd : X.N.Nodup) {b : Addr} {v v' : V} (h : Capt X σ b v) (h' : Capt X σ b v') : v = v' := by
  obtain ⟨x, i, e1, e2, e3, e4⟩ := h
  obtain ⟨x', i', f1, f2, f3, f4⟩ := h'
  have ex := I.ok.inj x x' b e1 f1
  subst ex
  have ei := nodup_ix nd e2 f2
  subst ei
  rw [e3] at f3
  exact Option.some.inj (Option.some.inj f3)
theorem trkC_at (I : Inv X pins σ H s) (nd : X.N.Nodup) {b : Addr} {v : V} (h : Capt X σ b v) : trkC X σ H b = some (CellO b v) := by
  have e : ∃ v, Capt X σ b v := ⟨v, h⟩
  unfold trkC
  rw [dif_pos e, capt_one I nd e.choose_spec h]
theorem capt_none (I : Inv X pins σ H s) {b : Addr} {v : V} (h : Capt X σ b v) : H b = none := by
  obtain ⟨x, i, e1, _⟩ := h
  exact I.freeC x b e1
theorem trkC_same (I : Inv X pins σ H s) : Same H (trkC X σ H) := fun b o e => by
  unfold trkC
  rw [dif_neg (fun ⟨v, h⟩ => by rw [capt_none I h] at e; cases e)]
  exact e
theorem trkC_cases (I : Inv X pins σ H s) (nd : X.N.Nodup) (b : Addr) : (∃ v, Capt X σ b v ∧ trkC X σ H b = some (CellO b v)) ∨ ((¬ ∃ v, Capt X σ b v) ∧ trkC X σ H b = H b) := by
  by_cases h : ∃ v, Capt X σ b v
  · obtain ⟨v, h⟩ := h
    exact .inl ⟨v, h, trkC_at I nd h⟩
  · refine .inr ⟨h, ?_⟩
    unfold trkC
    rw [dif_neg h]
theorem capt_cell (I : Inv X pins σ H s) {b : Addr} {v : V} (h : Capt X σ b v) : ∃ u, L2.RelV v u ∧ s.heap.IsCell b (some u) := by
  obtain ⟨x, i, e1, e2, e3, e4⟩ := h
  obtain ⟨m, hn, hl⟩ := I.loc
  obtain ⟨u, r, l⟩ := hl i x v e2 e3 (.inr (.inl e4))
  refine ⟨u, r, ?_⟩
  rcases l with ⟨k, _⟩ | ⟨_, c, e, z⟩
  · have k : X.env.scope.names.lookup x = some .local := k
    rw [e4] at k
    cases k
  · rw [e1] at e
    cases e
    exact z
/-- at a def's end its cells are known -/
theorem end_track (I : Inv X pins σ H s) (nd : X.N.Nodup) (hfn : ∀ x, X.fn x = true) (hex : X.ex = []) :
    Un X.fs [] X.H_0 (trkC X σ H) X.s_0.heap s.heap ∧ HOk X.prog X.w (trkC X σ H) s.heap := by
  have new : ∀ {b : Addr} {v : V}, Capt X σ b v → X.s_0.heap.objs.size ≤ b := fun {b v} h => by
    obtain ⟨x, i, e1, _⟩ := h
    exact I.ok.cab x b (hfn x) e1
  have un := I.base
  rw [hex] at un
  have sm := trkC_same I
  refine ⟨⟨un.keep, un.slot, fun b o e n hx => ?_, un.there, fun b xs e => sm _ _ (un.tups b xs e), fun b o u e => sm _ _ (un.frzs b o u e), fun b ps e => ?_⟩, fun b u e => ?_⟩
  · rcases trkC_cases I nd b with ⟨v, h, _⟩ | ⟨_, e2⟩
    · exact absurd (Heap.lt_size e) (Nat.not_lt.mpr (new h))
    · rw [e2]
      exact un.free b o e n hx
  · obtain ⟨more, e1⟩ := un.tbls b ps e
    exact ⟨more, sm _ _ e1⟩
  · rcases trkC_cases I nd b with ⟨v, h, e2⟩ | ⟨_, e2⟩
    · rw [e2] at e
      cases e
      obtain ⟨u, r, z⟩ := capt_cell I h
      exact cellO_ok r z
    · rw [e2] at e
      exact (I.hok b u e).stay (fun _ _ _ q => q) (fun c q => sm _ _ q) fun c xs q => sm _ _ q
end
/-- what is wanted at the end of a def whose cells stay known -/
def RetC (N : List Str) (sc : Scope) (L : Addr) (Q : VK) : V → L2.St → Hp → Prop := fun v σ H' => ∀ H'', Same H' H'' →
  (∀ (x : Str) (c : Addr) (i : Nat) (u : V), (cellsFrom (L + 1) sc.names []).lookup x = some c → N[i]? = some x → σ[i]? = some (some u) → sc.names.lookup x = some .cell → H' c = none ∧ H'' c = some (CellO c u)) →
  (∀ b o, H'' b = some o → H' b = some o ∨ ∃ u, o = CellO b u) → (∀ x y c, (cellsFrom (L + 1) sc.names []).lookup x = some c → (cellsFrom (L + 1) sc.names []).lookup y = some c → x = y) → Q v H''
section
variable {P : Program} {w : World} {K : PySem.W.Frag} {mg : Str → Option Value} {base : Heap}
theorem fn_c {C : CXT} {k : Nat} {f : Addr} {nm ql : Str} {ar : Arguments} {bd : List Stmt} {sc : Scope} {v1 v2 v3 v4 v5 v6 v7 : Value} {a1 a2 : Option Addr} {sl : Array (Option Value)} {N ps : List Str} {sp : Sp}
    (at_ : K.lookup f = some ⟨v7, a2, .func (PySem.W.fnOf nm ql ar bd sc v1 v2 v3 v4 a1 v5 v6), sl⟩) (code : PySem.W.codeIn K v5 ql = true) (S : FnScope N ps sc)
    (ln : ∀ vs H Q E, sp vs H Q E → vs.length = ps.length)
    (hb : ∀ (A : Around) (out : List Env) (s : Shared) (H : Hp) (vs : List V) (Q : VK) (E : XK), Room k (A.deeper (envOfC ql sc s.heap.objs.size f v5)) → sp vs H Q E →
      ∃ t, PRs (cxOf C P w K mg base N ql sc f v5 A out s H E) bd t ∧ t ⟨fun _ H' => Q .non H', RetC N sc s.heap.objs.size Q⟩ (L2.start N vs) H) :
    FnOk P w K mg base C (k + 1) f (PySem.W.fnOf nm ql ar bd sc v1 v2 v3 v4 a1 v5 v6) ps sp where
  len := ln
  run A out s H args us vs Q E hr e0 hbi rv hsp := by
    have kx : K.In s.heap := e0.mod.kin.keeps (fun b o z => (e0.bs b o z).1)
    have nl : s.heap.NoLimit := e0.mod.nolimit.keeps (fun b o z => (e0.bs b o z).1)
    have kd : ∀ y ∈ ps.zip us, sc.names.lookup y.1 = some .local ∨ (sc.names.lookup y.1 = some .cell ∧ ((cellsFrom (s.heap.objs.size + 1) sc.names []).lookup y.1).isSome = true) := by
      rintro ⟨n, v⟩ hy
      have z := S.par n (List.of_mem_zip hy).1
      exact z.elim .inl (fun z => .inr ⟨z, PySem.W.cellsFrom_some _ _ _ (.inl z)⟩)
    refine codeAny_call_function hr.depth (kx _ _ at_) rfl S.co S.gen rfl (PySem.W.codeRec_of kx code) (hbi _ _ _ _ (wpAny_newFunctionEnv_cells S.kind kd (fun env he s1 x => ?_)))
    subst he
    obtain ⟨t, ht, hq⟩ := hb A out s H vs Q E (hr.deeper _) hsp
    have I := inv_start (CX := C) (E := E) S hr.hd e0 (ln _ _ _ _ hsp) rv x
    refine ⟨nl.keeps x.toInCall.keep, codeAny_func (wpAny_mono (ht.run [] s1 (L2.start N vs) H _ I hq) (fun fl s' hs => ?_) (fun _ _ z => z))⟩
    cases fl with
    | ret u =>
      obtain ⟨v, σ', H', J, r', q⟩ := hs
      obtain ⟨un, hok⟩ := end_track J S.nd (fun _ => rfl) rfl
      refine ⟨v, _, J.os, J.bare, un, hok, r', q _ (trkC_same J) (fun x c i u e1 e2 e3 e4 => ?_) (fun b o e => ?_) J.ok.inj⟩
      · have h : Capt (cxOf C P w K mg base N ql sc f v5 A out s H E) σ' c u := ⟨x, i, e1, e2, e3, e4⟩
        exact ⟨capt_none J h, trkC_at J S.nd h⟩
      · rcases trkC_cases J S.nd b with ⟨v, h, e2⟩ | ⟨_, e2⟩
        · rw [e2] at e
          exact .inr ⟨v, (Option.some.inj e).symm⟩
        · rw [e2] at e
          exact .inl e
    | next => obtain ⟨σ', H', J, q⟩ := hs; exact ⟨.non, H', J.os, J.bare, J.base, J.hok, rfl, q⟩
    | brk => exact hs.elim
    | cont => exact hs.elim
end
/-! ### a made lambda is called -/
def hid (H : Hp) (cs : List Addr) : Hp := fun b => if b ∈ cs then none else H b
/-- the cells of cs as in H, all else as in H1 -/
def reT (H H1 : Hp) (cs : List Addr) : Hp := fun b => if b ∈ cs then H b else H1 b
theorem hid_in {H : Hp} {cs : List Addr} {b : Addr} (h : b ∈ cs) : hid H cs b = none := if_pos h
theorem hid_out {H : Hp} {cs : List Addr} {b : Addr} (h : b ∉ cs) : hid H cs b = H b := if_neg h
theorem hid_some {H : Hp} {cs : List Addr} {b : Addr} {o : HO} (h : hid H cs b = some o) : b ∉ cs ∧ H b = some o := by
  by_cases e : b ∈ cs
  · rw [hid_in e] at h
    cases h
  · rw [hid_out e] at h
    exact ⟨e, h⟩
theorem reT_in {H H1 : Hp} {cs : List Addr} {b : Addr} (h : b ∈ cs) : reT H H1 cs b = H b := if_pos h
theorem reT_out {H H1 : Hp} {cs : List Addr} {b : Addr} (h : b ∉ cs) : reT H H1 cs b = H1 b := if_neg h
/-- the captured names fr of F hold ws, in cells that are known -/
structure CapsAt (H : Hp) (F : LF) (fr : List Str) (ws : List V) : Prop where
  len : ws.length = fr.length
  all : ∀ y c, F.cl.lookup y = some c → ∃ w, H c = some (CellO c w)
  inj : ∀ x y c, F.cl.lookup x = some c → F.cl.lookup y = some c → x = y
  has : ∀ (i : Nat) (y : Str), fr[i]? = some y → ∃ c, F.cl.lookup y = some c ∧ ∀ v, ws[i]? = some v → H c = some (CellO c v)
def LF.cells (F : LF) : List Addr := F.cl.filterMap fun p => if F.cl.lookup p.1 = some p.2 then some p.2 else none
theorem LF.mem_cells {F : LF} {y : Str} {c : Addr} (h : F.cl.lookup y = some c) : c ∈ F.cells := by
  refine List.mem_filterMap.mpr ⟨(y, c), PySem.mem_of_lookup h, ?_⟩
  rw [if_pos h]
theorem LF.of_cells {F : LF} {c : Addr} (h : c ∈ F.cells) : ∃ y, F.cl.lookup y = some c := by
  obtain ⟨⟨y, d⟩, _, e⟩ := List.mem_filterMap.mp h
  split at e
  · rename_i z
    cases e
    exact ⟨y, z⟩
  · cases e
abbrev LF.nf (F : LF) : NF := ⟨"<lambda>", F.qual, F.params, [], F.scope, F.cl, F.c⟩
section
variable {P : Program} {w : World} {K : PySem.W.Frag} {mg : Str → Option Value} {base : Heap} {N ps fr : List Str} {F : LF} {f : Addr} {k : Nat}
theorem CapsAt.cell {H : Hp} {ws : List V} (C : CapsAt H F fr ws) {c : Addr} (h : c ∈ F.cells) : ∃ w, H c = some (CellO c w) := by
  obtain ⟨y, e⟩ := F.of_cells h
  exact C.all y c e
theorem lam_run (S : NScope N ps fr F.scope) (hbi : ∀ (pm ctv : Value) (us : List Value), us.length = ps.length → bindArgs (PySem.W.kla_fn "<lambda>" F.qual F.params F.body F.scope F.cl pm (.ref F.c) ctv) ⟨us, []⟩ = pure (ps.zip us))
    {A : Around} {outer : List Env} {s : Shared} {H : Hp} {us : List Value} {vs ws : List V} {Q : VK} (hr : Room (k + 1) A) (e0 : Env0 P w K mg base A outer s H) (hf : H f = some (LamO f F)) (hc : H F.c = some (CodeO F.c F.qual)) (C : CapsAt H F fr ws) (r : Vals vs us) (hl : vs.length = ps.length)
    (hbody : Room k (A.deeper (envF F.nf f s.heap.objs.size)) → ∃ t, PE (ncx CX0 P w K mg base N F.nf f A outer s (hid H F.cells) E0) F.body t ∧ t (startF N vs (ws.map some)) (hid H F.cells) fun v H1 => Q v (reT H H1 F.cells)) :
    codeAny (model P w) A (.call (.ref f) ⟨us, []⟩) (CR CX0 outer P w H s Q E0) s := by
  have lim : s.heap.NoLimit := e0.mod.nolimit.keeps fun b o e => (e0.bs b o e).1
  obtain ⟨pm, ctv, ho⟩ := lamO_at e0.hok hf
  have nown : ∀ {b x : Addr}, H b = some (.own x) → b ∉ F.cells := fun {b x} e z => by
    obtain ⟨w, h⟩ := C.cell z
    rw [e] at h
    exact cellO_own (Option.some.inj h).symm
  have ntup : ∀ {b : Addr} {xs : List V}, H b = some (.tup xs) → b ∉ F.cells := fun {b x} e z => by
    obtain ⟨w, h⟩ := C.cell z
    rw [e] at h
    exact cellO_tup (Option.some.inj h).symm
  have e1 : Env0 P w K mg base A outer s (hid H F.cells) := by
    refine ⟨e0.frames, e0.mod, fun b o e => ⟨(e0.bs b o e).1, ?_⟩, e0.bsz, e0.funs, fun b hb => ?_, fun b u e => ?_, e0.bare⟩
    · by_cases z : b ∈ F.cells
      · exact hid_in z
      · rw [hid_out z]
        exact (e0.bs b o e).2
    · by_cases z : b ∈ F.cells
      · exact hid_in z
      · rw [hid_out z]
        exact e0.frf b hb
    · obtain ⟨n, e⟩ := hid_some e
      exact (e0.hok b u e).stay (fun _ _ _ q => q) (fun c q => by rw [hid_out (nown q)]; exact q) fun c xs q => by rw [hid_out (ntup q)]; exact q
  have isC : ∀ {c : Addr} {v : V}, H c = some (CellO c v) → ∃ u, L2.RelV v u ∧ s.heap.IsCell c (some u) := fun {c v} h => (e0.hok c _ h).1
  have CA : CellsAt F.nf.cl fr (ws.map some) s.heap (hid H F.cells) := by
    refine ⟨by rw [List.length_map]; exact C.len, fun y c e => ⟨hid_in (F.mem_cells e), ?_⟩, C.inj, fun i y e => ?_⟩
    · obtain ⟨w, h⟩ := C.all y c e
      obtain ⟨u, _, z⟩ := isC h
      exact ⟨_, z⟩
    · obtain ⟨c, hc, hv⟩ := C.has i y e
      refine ⟨c, hc, fun v ev => ?_⟩
      rw [List.getElem?_map] at ev
      cases ew : ws[i]? with
      | none => rw [ew] at ev; cases ev
      | some v' =>
        rw [ew] at ev
        cases ev
        exact isC (hv _ ew)
  refine PySem.W.kla_callFunE hr.depth ho rfl S.co S.gen rfl (codeO_at e0.hok hc) ?_
  rw [hbi pm ctv us (by rw [← r.length]; exact hl)]
  refine wpAny_pure (wpAny_newFunctionEnv S.nocell (fun ⟨n, _⟩ hy => S.par n (List.of_mem_zip hy).1) (fun h₁ hns hsb => ⟨lim.fresh _ hsb, ?_⟩) S.kind)
  show codeAny _ _ (.expr F.body (envF F.nf f s.heap.objs.size)) _ _
  have kp : ∀ b o, s.heap.get? b = some o → h₁.get? b = some o := fun b o e => hsb.extBut b o (Nat.ne_of_lt (Heap.lt_size e)) (Heap.get?_push_of_some _ e)
  obtain ⟨t, ht, hq⟩ := hbody (hr.deeper _)
  have I : Inv (ncx CX0 P w K mg base N F.nf f A outer s (hid H F.cells) E0) [] (startF N vs (ws.map some)) (hid H F.cells) { s with heap := h₁, toks := s.toks + (ps.zip us).length } := inv_startN S hr.hd e1 hl r CA hns kp
  refine PySem.W.kla_codeExpr (wpAny_mono (ht.run [] _ _ _ _ I hq) (fun u s' hs => ?_) fun e s' hs => hs)
  obtain ⟨v, H1, J, rv, q⟩ := hs
  have un : Un (frs outer) [] (hid H F.cells) H1 s.heap s'.heap := J.base
  have cn : ∀ {c : Addr}, c ∈ F.cells → H1 c = none ∧ ∀ o, s.heap.get? c = some o → s'.heap.get? c = some o := fun {c} z => by
    obtain ⟨w, h⟩ := C.cell z
    obtain ⟨u, _, o, ho, hd⟩ := isC h
    have nf : c ∉ frs outer := fun z => by
      rw [e0.frf c z] at h
      cases h
    exact ⟨un.free c o ho (hid_in z) (by simp), fun o e => un.keep c o e (hid_in z) nf (by simp)⟩
  refine ⟨v, reT H H1 F.cells, J.os, J.bare, ⟨fun b o e n hb hx => ?_, fun b o e n hb hx => ?_, fun b o e n hx => ?_, un.there, fun b xs e => ?_, fun b o u e => ?_, fun b qs e => ?_⟩, fun b u e => ?_, rv, q⟩
  · have nb : b ∉ F.cells := fun z => by obtain ⟨w, h⟩ := C.cell z; rw [n] at h; cases h
    exact un.keep b o e (by rw [hid_out nb]; exact n) hb hx
  · have nb : b ∉ F.cells := fun z => by obtain ⟨w, h⟩ := C.cell z; rw [n] at h; cases h
    exact un.slot b o e (by rw [hid_out nb]; exact n) hb hx
  · have nb : b ∉ F.cells := fun z => by obtain ⟨w, h⟩ := C.cell z; rw [n] at h; cases h
    rw [reT_out nb]
    exact un.free b o e (by rw [hid_out nb]; exact n) hx
  · rw [reT_out (ntup e)]
    exact un.tups b xs (by rw [hid_out (ntup e)]; exact e)
  · have nb : b ∉ F.cells := fun z => by obtain ⟨w, h⟩ := C.cell z; rw [e] at h; exact cellO_frz (Option.some.inj h).symm
    rw [reT_out nb]
    exact un.frzs b o u (by rw [hid_out nb]; exact e)
  · have nb : b ∉ F.cells := fun z => by obtain ⟨w, h⟩ := C.cell z; rw [e] at h; exact cellO_tbl _ (Option.some.inj h).symm
    rw [reT_out nb]
    exact un.tbls b qs (by rw [hid_out nb]; exact e)
  · by_cases z : b ∈ F.cells
    · rw [reT_in z] at e
      obtain ⟨w, h⟩ := C.cell z
      rw [h] at e
      cases e
      obtain ⟨u, r, o, ho, hd⟩ := isC h
      exact cellO_ok r ⟨o, (cn z).2 o ho, hd⟩
    · rw [reT_out z] at e
      have out : ∀ {c : Addr} {o : HO}, H1 c = some o → reT H H1 F.cells c = some o := fun {c o} q => by
        rw [reT_out (fun z => by rw [(cn z).1] at q; cases q)]
        exact q
      exact (J.hok b u e).stay (fun _ _ _ q => q) (fun c q => out q) fun c xs q => out q
end
end Any
set_option maxHeartbeats 1000000
namespace Any
open L2 PySem PyProof.Rows LamX NdefX
open PySem.Spec
/-! ### a call of a name that holds a made lambda -/
/-- what made lambdas promise: sp f speaks of the one at f -/
def FnL (P : Program) (w : World) (K : PySem.W.Frag) (mg : Str → Option Value) (base : Heap) (k : Nat) (sp : Addr → Sp) : Prop :=
  ∀ (f : Addr) (A : Around) (outer : List Env) (s : Shared) (H : Hp) (us : List Value) (vs : List V) (Q : VK), Room k A → Env0 P w K mg base A outer s H → Vals vs us → sp f vs H Q E0 → codeAny (model P w) A (.call (.ref f) ⟨us, []⟩) (CR CX0 outer P w H s Q E0) s
theorem FnL.mono {P : Program} {w : World} {K : PySem.W.Frag} {mg : Str → Option Value} {base : Heap} {j k : Nat} {sp : Addr → Sp} (F : FnL P w K mg base j sp) (h : j ≤ k) : FnL P w K mg base k sp := fun f A outer s H us vs Q hr => F f A outer s H us vs Q (hr.mono h)
def IsLm (H : Hp) (f : Addr) : Prop := ∃ F, H f = some (LamO f F)
def tCallL (i : Nat) (sp : Addr → Sp) (t : TA) : TE := fun σ H Q => ∃ f, σ[i]? = some (some (.ref f)) ∧ IsLm H f ∧ t σ H fun vs H1 => IsLm H1 f ∧ sp f vs H1 Q E0
section
variable {X : Cx} {sp : Addr → Sp} {i k : Nat} {x : Str} {t : TA} {e : Expr} {es : List Expr} {p pos apos cpos : Pos} {te : TE}
theorem lmAt {pins : List (Addr × Obj)} {σ : L2.St} {H : Hp} {s : Shared} {f : Addr} (I : Inv X pins σ H s) (h : IsLm H f) : PySem.W.FnAt f s.heap := by
  obtain ⟨F, e⟩ := h
  obtain ⟨pm, ctv, ho⟩ := lamO_at I.hok e
  exact ⟨_, _, _, _, ho⟩
theorem pe_callL (Fn : FnL X.prog X.w X.K X.mg X.base k sp) (hr : Room k X.A) (hN : X.N[i]? = some x) (hv : Vis X.env.scope x) (ha : PA X (e :: es) t)
    (hd : (x == ("__debug__" : Str)) = false := by decide) (hcd : (x == ("__classdict__" : Str)) = false := by decide)
    (he : starEach (e :: es) X.env = (false, eval e X.env) :: starEach es X.env := by rfl) (hpl : (backTo pos (starEach es X.env)).any (·.1) = false := by rfl) :
    PE X (.Call (.Name x p) (e :: es) [] pos) (tCallL i sp t) := by
  refine ⟨fun pins s σ H Q I h => ?_⟩
  obtain ⟨f, hs, hf, ht⟩ := h
  refine wpAny_Call_Name_kw (thn ((pe_var (pos := p) hN hv hd hcd).run pins s σ H (fun v H1 => v = .ref f ∧ H1 = H) I ⟨.ref f, hs, rfl, rfl⟩) fun u s1 ⟨v, H1, I1, r1, q1⟩ => ?_)
  obtain ⟨ev, eH⟩ := q1
  subst ev
  rw [eH] at I1
  obtain rfl : u = Value.ref f := r1
  refine PySem.W.callWith_F (first := []) (lmAt I1 hf) (thn (ha.run pos pins s1 σ H _ I1 ht) fun us s2 ⟨vs, H2, I2, r, h1, q⟩ => ⟨lmAt I2 h1, ?_⟩) he hpl
  show wpAny _ _ (call (.ref f) us) _ _ _
  refine wpAny_call (codeAny_mono (Fn f X.A X.stack s2 H2 us vs Q hr I2.env0 r q) fun r s' hq => ?_)
  cases r with
  | error e => exact pass0 pins σ H2 s2 e s' I2 hq
  | ok fl =>
    cases fl with
    | ret u => exact I2.after hq
    | next => exact False.elim hq
    | brk => exact False.elim hq
    | cont => exact False.elim hq
/-! ### list(d.values()) -/
def tListVals (te : TE) : TE := fun σ H Q => te σ H fun x H1 => ∃ (d : Addr) (kvs : List (Key × V)), x = .ref d ∧ H1 d = some (.dK kvs) ∧ ∀ p, H1 p = none → Q (.ref p) (upd H1 p (.lst (kvs.map (·.2))))
theorem vals_get {κ : Type} : ∀ {kvs : List (κ × V)} {vs : List (κ × Value)}, KV kvs vs → Vals (kvs.map (·.2)) (vs.map (·.2))
  | _, _, .nil => .nil
  | _, _, .cons r t => .cons r.2 (vals_get t)
theorem pe_listVals (hc : X.calm = true) (he : PE X e te) (hg : Gl X "list") (hm : X.mg "list" = none) (hv : bootBuiltins "list" = some (.type "list")) (hbase : attributeBase e "values" X.env (eval e X.env) = eval e X.env := by rfl) (hline : (apos.endLine == cpos.line) = true := by rfl)
    (hs : starEach [.Call (.Attribute e "values" apos) [] [] cpos] X.env = (false, eval (.Call (.Attribute e "values" apos) [] [] cpos) X.env) :: starEach [] X.env := by rfl) :
    PE X (.Call (.Name "list" p) [.Call (.Attribute e "values" apos) [] [] cpos] [] pos) (tListVals te) := by
  refine ⟨fun pins s σ H Q I hq => ?_⟩
  refine wpAny_Call_Name_kw (ld_blt I hg hm hv ?_)
  refine PyProof.Rows.callWith_type1 ?_ hs rfl
  rw [hs]
  show wpAny _ _ (spliced ((false, eval (.Call (.Attribute e "values" apos) [] [] cpos) X.env) :: backTo pos (starEach [] X.env))) _ _ s
  refine Calls.spliced_cons ?_
  refine wpAny_Call_method (T := "dict") (id := "dict.values") hbase rfl hline F.plainAttrs_dict F.slot_dict_values F.type_dict_values (thn (he.run pins s σ H _ I hq) fun u s1 ⟨x, H1, I1, rx, d, kvs, ex, hd, q⟩ => ?_)
  subst ex
  obtain rfl : u = Value.ref d := rx
  obtain ⟨hz, hs0, vs, kv, hdo⟩ := I1.hok d _ hd
  obtain ⟨ep, hat⟩ := hdo.dictAt
  have lk : kvs.length = vs.length := Paired.length kv
  have I2 : Inv X pins σ H1 { s1 with heap := s1.heap.push { cls := .type "dict_values", data := .fields #[.ref d] } } := I1.kept (t' := s1.toks) fun b ob q => Heap.get?_push_of_some _ q
  refine ⟨hdo.typeIs, hdo.mapOf.noDict, ?_⟩
  show wpAny _ _ (callWith cpos (.builtin "dict.values") [.ref d] [] []) _ X.xe s1
  refine method_meetsIn F.slot_dict_values F.entry_dict_values rfl (PySem.evalArgs_none ⟨rfl, hdo.typeIs, F.args_dict_values_1 _, _, meets_dict_values (mixKind X.prog X.w) d hs0, ⟨vs, hdo⟩, ?_⟩)
  refine Calls.spliced_nil ?_
  refine PySem.W.kdl_call (PySem.W.kdl_values (knd := mixKind X.prog X.w) (kvs := vs) (ep := ep)) (I1.ok.hd hc) ⟨⟨_, Heap.get?_push_size _ rfl, rfl, rfl⟩, hat.push _⟩ (by omega) fun h' tk acc c hk hS hacc => ?_
  have ev : acc.toList = vs.map (·.2) := PySem.W.kdl_vals_eq acc.toList (by rw [Array.length_toList]; exact hacc.1) fun j v e => hacc.2 j v (by rw [← Array.getElem?_toList]; exact e)
  have hvv := vals_get kv
  rw [← ev] at hvv
  refine ⟨.ref _, upd H1 _ (.lst (kvs.map (·.2))), I2.laid (t' := tk) hk (Nat.le_refl _)
    (show ObjOk X.prog X.w _ _ _ (.lst (kvs.map (·.2))) from ⟨by rw [List.length_map]; exact hz, acc.toList, c, hvv, by rw [Array.toArray_toList]; exact hS⟩), rfl, q _ (I2.hok.fresh (Nat.le_refl _))⟩
end
end Any
set_option maxHeartbeats 1000000
namespace Any
open L2 PySem PyProof.Rows LamX NdefX
open PySem.Spec
/-! ### the law's call with tables of code objects, under no guard -/
section
variable {P : Program} {w : World} {K : PySem.W.Frag} {mg mb : Str → Option Value}
/-- a heap that knows the script, if the written part has it not, and the tables -/
theorem pick_T {a : Addr} {ts : List Addr} {s : Shared} {vs : List Value} {ns : List Int} (kx : K.In s.heap) (la : s.heap.get? a = some { cls := .type "list", data := .seq vs.toArray }) (li : IntsAre vs ns) (ll : ns.length ≤ sizeLine)
    (tab : ∀ t ∈ ts, s.heap.get? t = some { cls := .none, data := .fields #[] }) :
    ∃ H : Hp, (∀ t ∈ ts, H t = some (.tbl #[])) ∧ SqL K H a (ns.map V.int) ∧ HOk P w H s.heap ∧ (∀ b u, H b = some u → b ∉ ts → b = a ∧ K.lookup a = none ∧ ∃ o xs, u = .frz o (.lst xs)) := by
  have nat_ : a ∉ ts := fun z => by
    have q := tab a z
    rw [la] at q
    have d := congrArg Obj.data (Option.some.inj q)
    have d : Data.seq vs.toArray _ = Data.fields #[] := d
    cases d
  cases hk : K.lookup a with
  | some o =>
    have z := (kx a o hk).symm.trans la
    cases z
    refine ⟨fun b => if b ∈ ts then some (.tbl #[]) else none, fun t ht => if_pos ht, .inr ⟨_, vs.toArray, _, hk, rfl, rfl, rfl, by rw [List.size_toArray, li.length]; exact ll, by simpa using vals_ints li⟩, fun b u e => ?_, fun b u e nb => ?_⟩
    · have e : (if b ∈ ts then some (HO.tbl #[]) else none) = some u := e
      split at e
      · rename_i hb
        cases e
        exact tab b hb
      · cases e
    · have e : (if b ∈ ts then some (HO.tbl #[]) else none) = some u := e
      rw [if_neg nb] at e
      cases e
  | none =>
    let o : HO := .frz { cls := .type "list", data := .seq vs.toArray } (.lst (ns.map V.int))
    refine ⟨fun b => if b ∈ ts then some (.tbl #[]) else if b = a then some o else none, fun t ht => if_pos ht, .inl (.inr ⟨_, (if_neg nat_).trans (if_pos rfl)⟩), fun b u e => ?_, fun b u e nb => ?_⟩
    · have e : (if b ∈ ts then some (HO.tbl #[]) else if b = a then some o else none) = some u := e
      split at e
      · rename_i hb
        cases e
        exact tab b hb
      · split at e
        · rename_i hb
          cases e
          rw [hb]
          exact ⟨la, by rw [List.length_map]; exact ll, vs, _, vals_ints li, la⟩
        · cases e
    · have e : (if b ∈ ts then some (HO.tbl #[]) else if b = a then some o else none) = some u := e
      rw [if_neg nb] at e
      split at e
      · rename_i hb
        cases e
        exact ⟨hb, rfl, _, _, rfl⟩
      · cases e
theorem law_gT {C : CXT} {k : Nat} {fa a : Addr} {cs : List (Addr × Addr)} {fd : FuncData} {x : Str} {sp : Sp} {s : Shared} {vs : List Value} {ns : List Int}
    (kx : K.In s.heap) (g1 : s.heap.Ns mainGlobals mg) (g2 : s.heap.Ns builtinsNs mb) (g3 : ∀ x : Str, x ≠ "__name__" → mb x = bootBuiltins x) (g4 : s.heap.NoLimit) (g5 : s.gens = #[])
    (tab : ∀ p ∈ cs, s.heap.get? p.2 = some { cls := .none, data := .fields #[] }) (out : ∀ p ∈ cs, K.lookup p.2 = none) (cod : ∀ p ∈ cs, PySem.W.CodeHd s.heap p.1 p.2)
    (bmn : ∃ (bm : Addr) (ob : Obj), mg "__builtins__" = some (.ref bm) ∧ bm ≠ builtinsNs ∧ s.heap.get? bm = some ob ∧ ob.cls = .type "module" ∧ ob.dict = some builtinsNs ∧ ob.data = .plain)
    (la : s.heap.get? a = some { cls := .type "list", data := .seq vs.toArray }) (li : IntsAre vs ns) (ll : ns.length ≤ sizeLine) (hr : Room k callerA)
    (F : ∀ base : Heap, K.In base → base.Ns mainGlobals mg → (∀ p ∈ cs, TabB base mg p.1 p.2) → FnG P w K mg base C k fa fd [x] sp) (bd : ∀ (s : Shared) (u : Value), BindsTo s fd ⟨[u], []⟩ [(x, u)])
    (want : ∀ H : Hp, (∀ p ∈ cs, H p.2 = some (.tbl #[])) → SqL K H a (ns.map V.int) → sp [.ref a] H (fun v _ => v = .bl true) fun _ _ _ => False)
    (noC : ∀ H e s', C [] H s (fun _ _ _ => False) e s' → False) :
    codeAny (model P w) callerA (.call (.ref fa) ⟨[.ref a], []⟩) (fun r s' => r = .ok (.ret (.bool true)) ∧ OldK s.heap s'.heap ∧ s'.os = s.os ∧ AllBare s'.gens) s := by
  have mem : ∀ p ∈ cs, p.2 ∈ cs.map (·.2) := fun p hp => List.mem_map_of_mem hp
  have isT : ∀ t ∈ cs.map (·.2), s.heap.get? t = some { cls := .none, data := .fields #[] } := fun t ht => by
    obtain ⟨p, hp, rfl⟩ := List.mem_map.mp ht
    exact tab p hp
  obtain ⟨H, hT, hS, hok, hA⟩ := pick_T (P := P) (w := w) kx la li ll isT
  -- what is neither a list nor an empty table is not known
  have free : ∀ {b : Addr} {ob : Obj}, s.heap.get? b = some ob → (∀ us n, ob.data ≠ .seq us n) → ob.data ≠ .fields #[] → H b = none := fun {b ob} z d1 d2 => by
    cases q : H b with
    | none => rfl
    | some u =>
      by_cases ht : b ∈ cs.map (·.2)
      · have z2 := z.symm.trans (isT b ht)
        cases z2
        exact absurd rfl d2
      · obtain ⟨rfl, _⟩ := hA b u q ht
        have z2 := z.symm.trans la
        cases z2
        exact absurd rfl (d1 _ _)
  have freeD : ∀ {b : Addr} {ob : Obj} {es : Array DictEntry} {n : Nat}, s.heap.get? b = some ob → ob.data = .dict es n → H b = none := fun z d => free z (fun us n e => by rw [d] at e; cases e) fun e => by rw [d] at e; cases e
  have ns' : ∀ {b : Addr} {m : Str → Option Value}, s.heap.Ns b m → (hidT s.heap H).Ns b m := by
    rintro b m ⟨o, es, n, z, d, r⟩
    exact ⟨o, es, n, hidT_get z (freeD z d), d, r⟩
  have kb : K.In (hidT s.heap H) := by
    intro b o z
    refine hidT_get (kx b o z) ?_
    cases q : H b with
    | none => rfl
    | some u =>
      by_cases ht : b ∈ cs.map (·.2)
      · obtain ⟨p, hp, rfl⟩ := List.mem_map.mp ht
        rw [out p hp] at z
        cases z
      · obtain ⟨rfl, z2, _⟩ := hA b u q ht
        rw [z2] at z
        cases z
  have TB : ∀ p ∈ cs, TabB (hidT s.heap H) mg p.1 p.2 := fun p hp => by
    have tp := tab p hp
    have apart : ∀ {b : Addr} {ob : Obj}, s.heap.get? b = some ob → ob.data ≠ .fields #[] → b ≠ p.2 := fun z d e => by
      rw [e, tp] at z
      cases z
      exact d rfl
    obtain ⟨og, esg, ng, zg, dg, _⟩ := id g1
    refine ⟨?_, ?_, apart zg (fun e => by rw [dg] at e; cases e)⟩
    · obtain ⟨o, us, file, tf, flags, tg, inF, text, tt, y1, y2, y3, y4, rest⟩ := cod p hp
      refine ⟨o, us, file, tf, flags, tg, inF, text, tt, hidT_get y1 (free y1 (fun us n e => by rw [y3] at e; cases e) fun e => ?_), y2, y3, y4, rest⟩
      rw [y3] at e
      cases e
      simp at y4
    · obtain ⟨bm, ob, m1, m2, m3, m4, m5, m6⟩ := bmn
      refine ⟨bm, ob, m1, m2, fun e => ?_, apart m3 (fun e => by rw [m6] at e; cases e), hidT_get m3 (free m3 (fun us n e => by rw [m6] at e; cases e) fun e => by rw [m6] at e; cases e), m4, m5, m6⟩
      rw [e] at m3
      have z2 := m3.symm.trans zg
      cases z2
      rw [m6] at dg
      cases dg
  obtain ⟨mc, l1, l2⟩ := g4
  have e0 : Env0 P w K mg (hidT s.heap H) callerA [] s H :=
    { frames := rfl, mod := ⟨kb, ns' g1, ⟨mb, ns' g2, g3⟩, ⟨mc, ns' l1, l2⟩⟩, bs := fun b o z => of_hidT z, bsz := Nat.le_of_eq (hidT_size _ _), funs := trivial, frf := fun b z => (by cases z), hok := hok, bare := .of_eq g5 }
  refine codeAny_mono ((F _ kb (ns' g1) TB).go callerA [] s H ⟨[.ref a], []⟩ [.ref a] [.ref a] _ _ rfl hr e0 (bd s (.ref a)) (.cons rfl .nil) (want H (fun p hp => hT _ (mem p hp)) hS)) ?_
  rintro (err | fl) s' h
  · exact (noC H err s' h).elim
  cases fl with
  | next => cases h
  | brk => cases h
  | cont => cases h
  | ret u =>
    obtain ⟨v, H', h1, h2, un, hok', rv, rfl⟩ := h
    cases rv
    have grown : ∀ t ∈ cs.map (·.2), ∃ more : Array Value, s'.heap.get? t = some { cls := .none, data := .fields more } := fun t ht => by
      obtain ⟨more, z⟩ := un.tbls t #[] (hT t ht)
      exact ⟨_, hok' t _ z⟩
    have stay : ∀ b o, b ∉ cs.map (·.2) → s.heap.get? b = some o → s'.heap.get? b = some o := fun b o nb z => by
      cases q : H b with
      | none => exact un.keep b o z q (fun z => by cases z) (fun z => by cases z)
      | some u =>
        obtain ⟨rfl, _, ob, xs, rfl⟩ := hA b u q nb
        have z2 := (hok b _ q).1
        rw [z] at z2
        cases z2
        exact (hok' b _ (un.frzs b _ _ q)).1
    refine ⟨rfl, ⟨fun b o z => ?_, fun b o z => ?_⟩, h1, h2⟩
    · by_cases ht : b ∈ cs.map (·.2)
      · obtain ⟨more, hm⟩ := grown b ht
        obtain ⟨p, hp, rfl⟩ := List.mem_map.mp ht
        have z2 := z.symm.trans (tab p hp)
        cases z2
        exact .inr (.inl ⟨((cod p hp).tab (tab p hp)).isCodeTable, rfl, #[], more, rfl, by rw [Array.empty_append]; exact hm⟩)
      · exact .inl (stay b o ht z)
    · by_cases ht : b ∈ cs.map (·.2)
      · obtain ⟨more, hm⟩ := grown b ht
        exact ⟨_, hm⟩
      · exact ⟨o, stay b o ht z⟩
/-- what is known at the law's end: its promise, with the tables cs -/
def LawT (l : PySem.W.OpenLaw) (w : World) (K : PySem.W.Frag) (k n : Nat) (x : Str) (mg : Str → Option Value) (fa : Addr) (h : Heap) : Prop :=
  ∃ (fd : FuncData) (cs : List (Addr × Addr)) (sp : Sp), (∀ p ∈ cs, h.get? p.2 = some { cls := .none, data := .fields #[] }) ∧ (∀ p ∈ cs, K.lookup p.2 = none) ∧ (∀ p ∈ cs, PySem.W.CodeHd h p.1 p.2) ∧ (∀ (s : Shared) (u : Value), BindsTo s fd ⟨[u], []⟩ [(x, u)]) ∧
    (∀ (H : Hp) (a : Addr) (ns : List Int), ns.length ≤ n → (∀ p ∈ cs, H p.2 = some (.tbl #[])) → SqL K H a (ns.map V.int) → sp [.ref a] H (fun v _ => v = .bl true) fun _ _ _ => False) ∧
    ∀ base : Heap, K.In base → base.Ns mainGlobals mg → (∀ p ∈ cs, TabB base mg p.1 p.2) → FnG l.prog w K mg base CX0 k fa fd [x] sp
theorem walk_gT {l : PySem.W.OpenLaw} {n k : Nat} {q : Program} {loose : List Str} {XP : (Str → Option Value) → Heap → Prop} {YP : World → Heap → Prop} {d : DefRec} {K : Params → PySem.W.Frag} {x : Str}
    (h1 : l.most = some n) (h2 : n ≤ sizeLine) (h3 : d.params.defaults = []) (hr : Room k callerA) (hY : ∀ (w : World) (h : Heap), YP w h → (K w.params).In h)
    (F : ∀ (w : World) (mg : Str → Option Value) (fa : Addr) (h : Heap), YP w h → (K w.params).In h → h.Ns mainGlobals mg → mg d.name = some (.ref fa) → LawT l w (K w.params) k n x mg fa h) :
    PySem.W.WalkO q loose XP YP l.row.toRowW d [] (fun f vs => PySem.call f vs) := by
  refine Att.attach_call h1 h3 fun w s₀ s₁ mg mb fa o pm cd doc a vs ns G Y _ _ _ hmg hobj hints hlen hg => ?_
  have kx := hY w _ Y
  obtain ⟨fd, cs, sp, c1, c2, c3, hb, want, hF⟩ := F w mg fa _ Y kx G.T.g hmg
  exact law_gT kx G.T.g G.T.b G.T.builtins G.T.nolimit hg c1 c2 c3 G.T.bmain hobj hints (Nat.le_trans hlen h2) hr hF hb (fun H t hS => want H a ns hlen t hS) (fun _ _ _ z => z)
end
end Any
namespace Any
open L2 PySem

/-! ### expressions as trees -/
inductive Dd | plus | less | times | over | rest
  deriving DecidableEq
def Dd.word : Dd → Str
  | .plus => "plus" | .less => "less" | .times => "times" | .over => "over" | .rest => "rest"
def Dd.fn : Dd → Int → Int → Int
  | .plus, i, j => i + j
  | .less, i, j => if i < j then 0 else i - j
  | .times, i, j => i * j
  | .over, i, j => if j = 0 then 0 else i / j
  | .rest, i, j => if j = 0 then 0 else i % j
inductive Ex
  | num (n : Int) | box (x : Str) | asked | told | op (d : Dd) (l r : Ex)
def Ex.deep : Ex → Nat
  | .op _ l r => max l.deep r.deep + 1
  | _ => 1
def Ex.size : Ex → Nat
  | .op _ l r => l.size + r.size
  | _ => 1
/-- the number of a box -/
def look (kvs : List (Str × Int)) (x : Str) : Option Int := (kvs.find? fun kv => decide (kv.1 = x)).map (·.2)
def Ex.val (kvs : List (Str × Int)) (a t : Int) : Ex → Int
  | .num n => n
  | .box x => (look kvs x).getD 0
  | .asked => a
  | .told => t
  | .op d l r => d.fn (l.val kvs a t) (r.val kvs a t)
/-- of these boxes, with small numbers -/
def Ex.good (xs : List Str) : Ex → Prop
  | .num n => 0 ≤ n ∧ n < 1024
  | .box x => x ∈ xs
  | .op _ l r => l.good xs ∧ r.good xs
  | _ => True
/-- boxes with small numbers, for each of these names -/
structure Bx (kvs : List (Str × Int)) (xs : List Str) : Prop where
  all : ∀ x ∈ xs, ∃ n, look kvs x = some n ∧ 0 ≤ n ∧ n < 1024
def bx (kvs : List (Str × Int)) : List (Key × V) := kvs.map fun p => (Sum.inr p.1, V.int p.2)
theorem bx_val (x : Str) : ∀ kvs : List (Str × Int), valV (bx kvs) (Sum.inr x) = (look kvs x).map V.int
  | [] => rfl
  | p :: r => by
    have ih := bx_val x r
    unfold valV look bx at ih ⊢
    rw [List.map_cons, List.find?_cons, List.find?_cons]
    by_cases e : p.1 = x
    · have e1 : decide ((Sum.inr p.1 : Key) = Sum.inr x) = true := decide_eq_true (by rw [e])
      rw [decide_eq_true e]
      dsimp only
      rw [e1]
      rfl
    · have e1 : decide ((Sum.inr p.1 : Key) = Sum.inr x) = false := decide_eq_false (fun z => e (Sum.inr.inj z))
      rw [decide_eq_false e]
      dsimp only
      rw [e1]
      exact ih
theorem Dd.fn_nn (d : Dd) {i j : Int} (hi : 0 ≤ i) (hj : 0 ≤ j) : 0 ≤ d.fn i j := by
  cases d with
  | plus => show 0 ≤ i + j; omega
  | less => show 0 ≤ (if i < j then 0 else i - j); split <;> omega
  | times => exact Int.mul_nonneg hi hj
  | over => show 0 ≤ (if j = 0 then 0 else i / j); split; omega; exact Int.ediv_nonneg hi hj
  | rest => show 0 ≤ (if j = 0 then 0 else i % j); split; omega; exact Int.emod_nonneg i (by assumption)
theorem Dd.fn_lt (d : Dd) {i j : Int} {m n : Nat} (hi : 0 ≤ i) (hj : 0 ≤ j) (him : i < 2 ^ m) (hjn : j < 2 ^ n) (hm : 0 < m) (hn : 0 < n) : d.fn i j < 2 ^ (m + n) := by
  have e : (2 : Int) ^ (m + n) = 2 ^ m * 2 ^ n := Int.pow_add ..
  have m2 : (2 : Int) ≤ 2 ^ m := by
    obtain ⟨k, rfl⟩ : ∃ k, m = k + 1 := ⟨m - 1, by omega⟩
    rw [Int.pow_succ]
    have : (0 : Int) < 2 ^ k := Int.pow_pos (by decide)
    omega
  have n2 : (2 : Int) ≤ 2 ^ n := by
    obtain ⟨k, rfl⟩ : ∃ k, n = k + 1 := ⟨n - 1, by omega⟩
    rw [Int.pow_succ]
    have : (0 : Int) < 2 ^ k := Int.pow_pos (by decide)
    omega
  rw [e]
  generalize (2 : Int) ^ m = M at *
  generalize (2 : Int) ^ n = N at *
  have big : M ≤ M * N := by
    have := Int.mul_le_mul_of_nonneg_left (show (1 : Int) ≤ N by omega) (show (0 : Int) ≤ M by omega)
    omega
  have big2 : N ≤ M * N := by
    have := Int.mul_le_mul_of_nonneg_right (show (1 : Int) ≤ M by omega) (show (0 : Int) ≤ N by omega)
    omega
  cases d with
  | plus =>
    show i + j < M * N
    have : 0 ≤ (M - 1) * (N - 1) := Int.mul_nonneg (by omega) (by omega)
    have e2 : (M - 1) * (N - 1) = M * N - M - N + 1 := by rw [Int.sub_mul, Int.mul_sub]; omega
    omega
  | less => show (if i < j then 0 else i - j) < M * N; split <;> omega
  | times => exact Int.lt_of_le_of_lt (Int.mul_le_mul_of_nonneg_left (by omega) hi) (Int.mul_lt_mul_of_pos_right him (by omega))
  | over =>
    show (if j = 0 then 0 else i / j) < M * N
    split
    · omega
    · have := Int.ediv_le_self j hi
      omega
  | rest =>
    show (if j = 0 then 0 else i % j) < M * N
    split
    · omega
    · have := Int.emod_lt_of_pos i (show 0 < j by omega)
      omega
theorem Ex.size_pos : ∀ e : Ex, 0 < e.size
  | .num _ => by show 0 < 1; decide
  | .box _ => by show 0 < 1; decide
  | .asked => by decide
  | .told => by decide
  | .op _ l r => by have := l.size_pos; show 0 < l.size + r.size; omega
theorem Ex.size_le : ∀ e : Ex, e.size ≤ 2 ^ e.deep
  | .num _ => by show 1 ≤ 2 ^ 1; decide
  | .box _ => by show 1 ≤ 2 ^ 1; decide
  | .asked => by show 1 ≤ 2 ^ 1; decide
  | .told => by show 1 ≤ 2 ^ 1; decide
  | .op _ l r => by
    have h1 := l.size_le
    have h2 := r.size_le
    show l.size + r.size ≤ 2 ^ (max l.deep r.deep + 1)
    have h3 : 2 ^ l.deep ≤ 2 ^ max l.deep r.deep := Nat.pow_le_pow_right (by decide) (Nat.le_max_left ..)
    have h4 : 2 ^ r.deep ≤ 2 ^ max l.deep r.deep := Nat.pow_le_pow_right (by decide) (Nat.le_max_right ..)
    rw [Nat.pow_succ]
    omega
theorem Ex.val_ok {kvs : List (Str × Int)} {xs : List Str} {a t : Int} (B : Bx kvs xs) (ha : 0 ≤ a ∧ a < 1024) (ht : 0 ≤ t ∧ t < 1024) : ∀ e : Ex, e.good xs → 0 ≤ e.val kvs a t ∧ e.val kvs a t < 2 ^ (10 * e.size)
  | .num n, h => h
  | .box x, h => by
    obtain ⟨n, e1, h1, h2⟩ := B.all x h
    show 0 ≤ (look kvs x).getD 0 ∧ (look kvs x).getD 0 < 2 ^ 10
    rw [e1]
    exact ⟨h1, h2⟩
  | .asked, _ => ha
  | .told, _ => ht
  | .op d l r, h => by
    obtain ⟨l1, l2⟩ := Ex.val_ok B ha ht l h.1
    obtain ⟨r1, r2⟩ := Ex.val_ok B ha ht r h.2
    refine ⟨d.fn_nn l1 r1, ?_⟩
    have q := d.fn_lt l1 r1 l2 r2 (by have := l.size_pos; omega) (by have := r.size_pos; omega)
    show d.fn _ _ < 2 ^ (10 * (l.size + r.size))
    rw [Nat.mul_add]
    exact q
/-- a number that all deeds take -/
def Nb (i : Int) : Prop := 0 ≤ i ∧ i < 2 ^ 640
theorem nb_of {i : Int} {n : Nat} (h0 : 0 ≤ i) (h : i < 2 ^ (10 * n)) (hn : n ≤ 64) : Nb i := by
  refine ⟨h0, Int.lt_of_lt_of_le h ?_⟩
  have : (2 : Nat) ^ (10 * n) ≤ 2 ^ 640 := Nat.pow_le_pow_right (by decide) (by omega)
  exact_mod_cast this
theorem Ex.nb {kvs : List (Str × Int)} {xs : List Str} {a t : Int} (B : Bx kvs xs) (ha : 0 ≤ a ∧ a < 1024) (ht : 0 ≤ t ∧ t < 1024) {e : Ex} (h : e.good xs) (hd : e.deep ≤ 6) : Nb (e.val kvs a t) := by
  obtain ⟨h0, h1⟩ := e.val_ok B ha ht h
  refine nb_of h0 h1 (Nat.le_trans e.size_le ?_)
  exact Nat.pow_le_pow_right (by decide) hd
theorem Nb.abs {i : Int} (h : Nb i) : i.natAbs < 2 ^ 640 := by
  have h1 := h.1
  have h2 := h.2
  have e : ((2 : Nat) ^ 640 : Nat) = ((2 : Int) ^ 640).toNat := by decide +kernel
  rw [e]
  generalize (2 : Int) ^ 640 = M at *
  omega
theorem Nb.log {i : Int} (h : Nb i) : i.natAbs.log2 < 1920 := by
  by_cases z : i.natAbs = 0
  · rw [z]; decide
  · have := (Nat.log2_lt z).mpr h.abs
    omega

/-! ### trees in the heap -/
inductive ExAt (H : Hp) : V → Ex → Prop
  | num {a : Addr} {n : Int} : H a = some (.tup [.str "number", .int n]) → ExAt H (.ref a) (.num n)
  | box {a : Addr} {x : Str} : H a = some (.tup [.str "box", .str x]) → ExAt H (.ref a) (.box x)
  | asked {a : Addr} : H a = some (.tup [.str "asked"]) → ExAt H (.ref a) .asked
  | told {a : Addr} : H a = some (.tup [.str "told"]) → ExAt H (.ref a) .told
  | op {a : Addr} {d : Dd} {v u : V} {l r : Ex} : H a = some (.tup [.str d.word, v, u]) → ExAt H v l → ExAt H u r → ExAt H (.ref a) (.op d l r)
/-- the tuples stay -/
def Tups (H H' : Hp) : Prop := ∀ a xs, H a = some (.tup xs) → H' a = some (.tup xs)
theorem ExAt.keep {H H' : Hp} (k : Tups H H') {v : V} {e : Ex} (h : ExAt H v e) : ExAt H' v e := by
  induction h with
  | num h => exact .num (k _ _ h)
  | box h => exact .box (k _ _ h)
  | asked h => exact .asked (k _ _ h)
  | told h => exact .told (k _ _ h)
  | op h _ _ i1 i2 => exact .op (k _ _ h) i1 i2
theorem Same.tups {H H' : Hp} (s : Same H H') : Tups H H' := fun a xs h => s a _ h
theorem same_new {H : Hp} {p : Addr} (h : H p = none) (o : HO) : Same H (upd H p o) := fun b u q => by rw [upd_ne (ne_of_none q h)]; exact q
theorem same_refl {H : Hp} : Same H H := fun _ _ q => q
/-- all but b stays -/
def Kept (b : Addr) (H H' : Hp) : Prop := ∀ a o, a ≠ b → H a = some o → H' a = some o
theorem Kept.refl {b : Addr} {H : Hp} : Kept b H H := fun _ _ _ q => q
theorem Kept.trans {b : Addr} {H H1 H2 : Hp} (h : Kept b H H1) (g : Kept b H1 H2) : Kept b H H2 := fun a o n q => g a o n (h a o n q)
theorem Kept.of {b : Addr} {H H' : Hp} (s : Same H H') : Kept b H H' := fun a o _ q => s a o q
theorem Kept.new {b p : Addr} {H : Hp} (h : H p = none) (o : HO) : Kept b H (upd H p o) := .of (same_new h o)
theorem Kept.put {b : Addr} {H : Hp} (o : HO) : Kept b H (upd H b o) := fun a u n q => by rw [upd_ne n]; exact q
theorem Kept.tups {b : Addr} {H H' : Hp} {xs : List V} (k : Kept b H H') (hb : H b = some (.lst xs)) : Tups H H' := fun a ys q => k a _ (ne_of q hb (by intro z; cases z)) q
end Any
namespace Any
open L2 PySem

/-! ### the text, by places -/
def top (i : Nat) : Stmt := PySem.Challenge.pw_anystore_k51_measures_told.main.body.getD i (.Pass ⟨0, 0, 0, 0⟩)
abbrev sPlus : Stmt := top 2
abbrev sLess : Stmt := top 3
abbrev sTimes : Stmt := top 4
abbrev sOver : Stmt := top 5
abbrev sRest : Stmt := top 6
abbrev sReady : Stmt := top 9

theorem scPlus : FnScope ["left", "right"] ["left", "right"] (defScope sPlus) := ⟨rfl, rfl, rfl, by decide +kernel, rfl, by decide +kernel, by decide +kernel⟩
theorem scLess : FnScope ["left", "right"] ["left", "right"] (defScope sLess) := ⟨rfl, rfl, rfl, by decide +kernel, rfl, by decide +kernel, by decide +kernel⟩
theorem scTimes : FnScope ["left", "right"] ["left", "right"] (defScope sTimes) := ⟨rfl, rfl, rfl, by decide +kernel, rfl, by decide +kernel, by decide +kernel⟩
theorem scOver : FnScope ["left", "right"] ["left", "right"] (defScope sOver) := ⟨rfl, rfl, rfl, by decide +kernel, rfl, by decide +kernel, by decide +kernel⟩
theorem scRest : FnScope ["left", "right"] ["left", "right"] (defScope sRest) := ⟨rfl, rfl, rfl, by decide +kernel, rfl, by decide +kernel, by decide +kernel⟩
def spDeed (d : Dd) : Sp := fun vs H Q _ => ∃ i j, vs = [.int i, .int j] ∧ Nb i ∧ Nb j ∧ Q (.int (d.fn i j)) H
section
variable {P : Program} {w : World} {K : PySem.W.Frag} {mg : Str → Option Value} {base : Heap} {f : Addr} {fd : FuncData}
theorem wideMul {i j : Int} (hi : Nb i) (hj : Nb j) : CMulW i j := wide_mul hi.abs hj.abs (by decide) (by decide) (by decide)
theorem wideDiv {i j : Int} (hj : Nb j) (h : j ≠ 0) : CDivW i j := wide_div (by have := hj.1; omega) hj.abs (by decide) (by decide)
theorem ok_plus (F : Fun K "plus" "plus" sPlus f fd) : FnOk P w K mg base CX0 1 f fd ["left", "right"] (spDeed .plus) := by
  refine F.ok scPlus (fun vs H Q E h => ?_) (fun cdv A outer s H vs Q E hr h => ?_)
  · obtain ⟨i, j, rfl, _⟩ := h
    rfl
  obtain ⟨i, j, rfl, hi, hj, q⟩ := h
  exact ⟨_, pss_one (ps_ret (pe_op op_add (pv 0) (pv 1))), _, rfl, _, rfl, _, _, rfl, rfl, q⟩
theorem ok_less (F : Fun K "less" "less" sLess f fd) : FnOk P w K mg base CX0 1 f fd ["left", "right"] (spDeed .less) := by
  refine F.ok scLess (fun vs H Q E h => ?_) (fun cdv A outer s H vs Q E hr h => ?_)
  · obtain ⟨i, j, rfl, _⟩ := h
    rfl
  obtain ⟨i, j, rfl, hi, hj, q⟩ := h
  refine ⟨_, pss_cons (ps_if (pt_cmpR op_lt (pv 0) (pv 1) (nomark _)) (pss_one (ps_ret pe_int)) pss_nil) (pss_one (ps_ret (pe_op op_sub (pv 0) (pv 1)))), _, rfl, _, rfl, _, _, rfl, rfl, _, rfl, ?_⟩
  have q' : Q (.int (if i < j then 0 else i - j)) H := q
  refine ite2 (fun c => ?_) (fun c => ?_)
  · rw [if_pos (of_decide_eq_true c)] at q'
    exact q'
  · rw [if_neg (of_decide_eq_false (Bool.eq_false_iff.mpr c))] at q'
    exact ⟨_, rfl, _, rfl, _, _, rfl, rfl, q'⟩
theorem ok_times (F : Fun K "times" "times" sTimes f fd) : FnOk P w K mg base CX0 1 f fd ["left", "right"] (spDeed .times) := by
  refine F.ok scTimes (fun vs H Q E h => ?_) (fun cdv A outer s H vs Q E hr h => ?_)
  · obtain ⟨i, j, rfl, _⟩ := h
    rfl
  obtain ⟨i, j, rfl, hi, hj, q⟩ := h
  exact ⟨_, pss_one (ps_ret (pe_op op_mulW (pv 0) (pv 1))), _, rfl, _, rfl, _, _, rfl, rfl, wideMul hi hj, q⟩
theorem ok_over (F : Fun K "over" "over" sOver f fd) : FnOk P w K mg base CX0 1 f fd ["left", "right"] (spDeed .over) := by
  refine F.ok scOver (fun vs H Q E h => ?_) (fun cdv A outer s H vs Q E hr h => ?_)
  · obtain ⟨i, j, rfl, _⟩ := h
    rfl
  obtain ⟨i, j, rfl, hi, hj, q⟩ := h
  refine ⟨_, pss_cons (ps_if (pt_cmpR op_eq (pv 1) pe_int (nomark _)) (pss_one (ps_ret pe_int)) pss_nil) (pss_one (ps_ret (pe_op op_fdivW (pv 0) (pv 1)))), _, rfl, rfl, _, rfl, ?_⟩
  have q' : Q (.int (if j = 0 then 0 else i / j)) H := q
  refine ite2 (fun c => ?_) (fun c => ?_)
  · have c' : V.int j = V.int 0 := of_decide_eq_true c
    rw [if_pos (V.int.inj c')] at q'
    exact q'
  · have c' : ¬ V.int j = V.int 0 := of_decide_eq_false (Bool.eq_false_iff.mpr c)
    have nz : j ≠ 0 := fun z => c' (by rw [z])
    rw [if_neg nz] at q'
    exact ⟨_, rfl, _, rfl, _, _, rfl, rfl, wideDiv hj nz, q'⟩
theorem ok_rest (F : Fun K "rest" "rest" sRest f fd) : FnOk P w K mg base CX0 1 f fd ["left", "right"] (spDeed .rest) := by
  refine F.ok scRest (fun vs H Q E h => ?_) (fun cdv A outer s H vs Q E hr h => ?_)
  · obtain ⟨i, j, rfl, _⟩ := h
    rfl
  obtain ⟨i, j, rfl, hi, hj, q⟩ := h
  refine ⟨_, pss_cons (ps_if (pt_cmpR op_eq (pv 1) pe_int (nomark _)) (pss_one (ps_ret pe_int)) pss_nil) (pss_one (ps_ret (pe_op op_mod (pv 0) (pv 1)))), _, rfl, rfl, _, rfl, ?_⟩
  have q' : Q (.int (if j = 0 then 0 else i % j)) H := q
  refine ite2 (fun c => ?_) (fun c => ?_)
  · have c' : V.int j = V.int 0 := of_decide_eq_true c
    rw [if_pos (V.int.inj c')] at q'
    exact q'
  · have c' : ¬ V.int j = V.int 0 := of_decide_eq_false (Bool.eq_false_iff.mpr c)
    have nz : j ≠ 0 := fun z => c' (by rw [z])
    rw [if_neg nz] at q'
    exact ⟨_, rfl, _, rfl, _, _, rfl, rfl, (by have := hj.1; omega), q'⟩

/-- what the table of deeds holds -/
structure Deeds (P : Program) (w : World) (K : PySem.W.Frag) (mg : Str → Option Value) (base : Heap) : Prop where
  ex : ∃ D : Addr, mg "DEEDS" = some (.ref D) ∧ ∀ d : Dd, ∃ g : Addr, KDct K w D d.word (.ref g) ∧ PySem.W.keepIn K (.ref g) = true ∧ FnR P w K mg base CX0 1 g (spDeed d)
end
end Any
set_option maxHeartbeats 1000000
namespace Any
open L2 PySem PySem.Spec PyProof.Rows LamX NdefX
theorem itT {b : Bool} {A B : Prop} (h : b = true) (a : A) : if b = true then A else B := by
  rw [if_pos h]
  exact a
theorem itF {b : Bool} {A B : Prop} (h : b = false) (a : B) : if b = true then A else B := by
  rw [if_neg (by rw [h]; decide)]
  exact a
theorem ne_str {x y : Str} (h : x ≠ y) : decide (V.str x = V.str y) = false := decide_eq_false fun z => h (V.str.inj z)
theorem eq_str {x : Str} : decide (V.str x = V.str x) = true := decide_eq_true rfl
/-! ### the lambdas of the text -/
def ifB : Stmt → List Stmt
  | .If _ b _ _ => b
  | _ => []
def retE : Stmt → Expr
  | .Return (some e) _ => e
  | _ => .Constant .none 0 ⟨0, 0, 0, 0⟩
def stN (l : List Stmt) (i : Nat) : Stmt := l.getD i (.Pass ⟨0, 0, 0, 0⟩)
def lamP : Expr → Arguments
  | .Lambda p _ _ _ => p
  | _ => { posonlyargs := [], args := [], vararg := none, kwonlyargs := [], kw_defaults := [], kwarg := none, defaults := [] }
def lamB : Expr → Expr
  | .Lambda _ b _ _ => b
  | e => e
def lamS : Expr → Scope
  | .Lambda _ _ s _ => s
  | _ => { kind := .function, names := [], isGenerator := false, isCoroutine := false }
abbrev lamN : Expr := retE (stN (ifB (stN (defBody sReady) 1)) 1)
abbrev lamX : Expr := retE (stN (ifB (stN (defBody sReady) 2)) 1)
abbrev lamA : Expr := retE (stN (ifB (stN (defBody sReady) 3)) 0)
abbrev lamT : Expr := retE (stN (ifB (stN (defBody sReady) 4)) 0)
abbrev lamO : Expr := retE (stN (defBody sReady) 8)
abbrev psL : List Str := ["boxes", "asked", "told"]
theorem scN : NScope ["boxes", "asked", "told", "number"] psL ["number"] (lamS lamN) := nscope_by (by decide +kernel)
theorem scX : NScope ["boxes", "asked", "told", "at"] psL ["at"] (lamS lamX) := nscope_by (by decide +kernel)
theorem scA : NScope ["boxes", "asked", "told"] psL [] (lamS lamA) := nscope_by (by decide +kernel)
theorem scT : NScope ["boxes", "asked", "told"] psL [] (lamS lamT) := nscope_by (by decide +kernel)
theorem scO : NScope ["boxes", "asked", "told", "deed", "left", "right"] psL ["deed", "left", "right"] (lamS lamO) := nscope_by (by decide +kernel)
/-- F is made of the lambda L, its code object is known -/
structure Made (H : Hp) (f : Addr) (F : LF) (L : Expr) : Prop where
  at_ : H f = some (LamO f F)
  p : F.params = lamP L
  b : F.body = lamB L
  s : F.scope = lamS L
  code : H F.c = some (CodeO F.c F.qual)
theorem Made.ext {H H' : Hp} {f : Addr} {F : LF} {L : Expr} (m : Made H f F L) (e : ExtN H H') : Made H' f F L := ⟨e _ _ m.at_ lamO_ne, m.p, m.b, m.s, e _ _ m.code codeO_ne⟩
theorem CapsAt.ext {H H' : Hp} {F : LF} {fr : List Str} {ws : List V} (C : CapsAt H F fr ws) (e : ExtN H H') : CapsAt H' F fr ws := by
  refine ⟨C.len, fun y c h => ?_, C.inj, fun i y h => ?_⟩
  · obtain ⟨w, z⟩ := C.all y c h
    exact ⟨w, e _ _ z cellO_tbl⟩
  · obtain ⟨c, h1, h2⟩ := C.has i y h
    exact ⟨c, h1, fun v hv => e _ _ (h2 v hv) cellO_tbl⟩
theorem hid_ext {H H' : Hp} (e : ExtN H H') (cs : List Addr) : ExtN (hid H cs) (hid H' cs) := fun b o h n => by
  obtain ⟨nb, h⟩ := hid_some h
  rw [hid_out nb]
  exact e b o h n
theorem reT_hid (H : Hp) (cs : List Addr) : reT H (hid H cs) cs = H := by
  funext b
  by_cases h : b ∈ cs
  · exact reT_in h
  · rw [reT_out h, hid_out h]
theorem back {Q : VK} {v : V} {H : Hp} {cs : List Addr} (q : Q v H) : Q v (reT H (hid H cs) cs) := by
  rw [reT_hid]
  exact q
/-- the lambda at f tells the worth of e, by the numbers of the boxes xs; G: which def a deed's is -/
def CloE (G : Dd → Addr → Prop) (xs : List Str) : Ex → Hp → Addr → Prop
  | .num n, H, f => ∃ F, Made H f F lamN ∧ CapsAt H F ["number"] [.int n]
  | .box x, H, f => ∃ (F : LF) (i : Nat), Made H f F lamX ∧ CapsAt H F ["at"] [.int i] ∧ xs[i]? = some x ∧ ∀ j, j < i → xs[j]? ≠ some x
  | .asked, H, f => ∃ F, Made H f F lamA ∧ CapsAt H F [] []
  | .told, H, f => ∃ F, Made H f F lamT ∧ CapsAt H F [] []
  | .op d l r, H, f => ∃ (F : LF) (g fl fr : Addr), Made H f F lamO ∧ CapsAt H F ["deed", "left", "right"] [.ref g, .ref fl, .ref fr] ∧ G d g ∧ CloE G xs l (hid H F.cells) fl ∧ CloE G xs r (hid H F.cells) fr
theorem CloE.ext {G : Dd → Addr → Prop} {xs : List Str} : ∀ {e : Ex} {H H' : Hp} {f : Addr}, CloE G xs e H f → ExtN H H' → CloE G xs e H' f
  | .num n, _, _, _, ⟨F, m, c⟩, e => ⟨F, m.ext e, c.ext e⟩
  | .box x, _, _, _, ⟨F, i, m, c, h⟩, e => ⟨F, i, m.ext e, c.ext e, h⟩
  | .asked, _, _, _, ⟨F, m, c⟩, e => ⟨F, m.ext e, c.ext e⟩
  | .told, _, _, _, ⟨F, m, c⟩, e => ⟨F, m.ext e, c.ext e⟩
  | .op d l r, _, _, _, ⟨F, g, fl, fr, m, c, hg, h1, h2⟩, e => ⟨F, g, fl, fr, m.ext e, c.ext e, hg, h1.ext (hid_ext e _), h2.ext (hid_ext e _)⟩
theorem CloE.lm {G : Dd → Addr → Prop} {xs : List Str} : ∀ {e : Ex} {H : Hp} {f : Addr}, CloE G xs e H f → IsLm H f
  | .num _, _, _, ⟨F, m, _⟩ => ⟨F, m.at_⟩
  | .box _, _, _, ⟨F, _, m, _⟩ => ⟨F, m.at_⟩
  | .asked, _, _, ⟨F, m, _⟩ => ⟨F, m.at_⟩
  | .told, _, _, ⟨F, m, _⟩ => ⟨F, m.at_⟩
  | .op _ _ _, _, _, ⟨F, _, _, _, m, _⟩ => ⟨F, m.at_⟩
/-- the numbers of boxes, as they stand in a list -/
def numsV (kvs : List (Str × Int)) : List V := kvs.map fun p => .int p.2
abbrev namesOf (kvs : List (Str × Int)) : List Str := kvs.map (·.1)
theorem look_at : ∀ {kvs : List (Str × Int)} {i : Nat} {x : Str}, (namesOf kvs)[i]? = some x → (∀ j, j < i → (namesOf kvs)[j]? ≠ some x) → ∃ n, look kvs x = some n ∧ (numsV kvs)[i]? = some (.int n)
  | [], i, x, h, _ => by simp at h
  | p :: r, 0, x, h, _ => by
    have h : p.1 = x := Option.some.inj h
    refine ⟨p.2, ?_, rfl⟩
    unfold look
    rw [List.find?_cons, decide_eq_true h]
    rfl
  | p :: r, i + 1, x, h, n => by
    have h0 : p.1 ≠ x := fun z => n 0 (by omega) (by rw [← z]; rfl)
    obtain ⟨m, e1, e2⟩ := look_at (kvs := r) (i := i) h (fun j hj => n (j + 1) (by omega))
    refine ⟨m, ?_, e2⟩
    unfold look at e1 ⊢
    rw [List.find?_cons, decide_eq_false h0]
    exact e1
def DeedIs (P : Program) (w : World) (K : PySem.W.Frag) (mg : Str → Option Value) (base : Heap) (d : Dd) (g : Addr) : Prop := PySem.W.keepIn K (.ref g) = true ∧ FnR P w K mg base CX0 1 g (spDeed d)
def spClo (G : Dd → Addr → Prop) (n : Nat) (f : Addr) : Sp := fun vs H Q _ => ∃ (e : Ex) (kvs : List (Str × Int)) (xs : List Str) (b : Addr) (a t : Int), vs = [.ref b, .int a, .int t] ∧ e.deep ≤ n ∧ e.deep ≤ 6 ∧ H b = some (.lst (numsV kvs)) ∧ CloE G (namesOf kvs) e H f ∧ e.good xs ∧ Bx kvs xs ∧
  (0 ≤ a ∧ a < 1024) ∧ (0 ≤ t ∧ t < 1024) ∧ Q (.int (e.val kvs a t)) H
section
variable {P : Program} {w : World} {K : PySem.W.Frag} {mg : Str → Option Value} {base : Heap}
theorem lst_hid {H : Hp} {F : LF} {fr : List Str} {ws xs : List V} {b : Addr} (C : CapsAt H F fr ws) (h : H b = some (.lst xs)) : hid H F.cells b = some (.lst xs) := by
  rw [hid_out fun z => ?_]
  · exact h
  · obtain ⟨w, e⟩ := C.cell z
    rw [h] at e
    unfold CellO at e
    cases e
theorem no_clo : FnL P w K mg base 0 (spClo (DeedIs P w K mg base) 0) := fun f A outer s H us vs Q _ _ _ h => by
  obtain ⟨e, kvs, xs, b, a, t, _, hd, _⟩ := h
  cases e <;> exact absurd hd (by show ¬ _ ≤ 0; exact Nat.not_succ_le_zero _)
theorem ok_clo {n : Nat} (G : FnL P w K mg base (n + 1) (spClo (DeedIs P w K mg base) n)) : FnL P w K mg base (n + 2) (spClo (DeedIs P w K mg base) (n + 1)) := by
  intro f A outer s H us vs Q hr e0 rv h
  obtain ⟨e, kvs, xs, b, a, t, rfl, hd, hd6, hb, hc, hg, B, ha, ht, q⟩ := h
  cases e with
  | num m =>
    obtain ⟨⟨qu, pa, bo, sc, cl, co⟩, M, C⟩ := hc
    obtain ⟨m1, rfl, rfl, rfl, m5⟩ := M
    refine lam_run (k := n + 1) (N := ["boxes", "asked", "told", "number"]) (ws := [.int m]) scN (fun pm ctv us hl => match us, hl with | [_, _, _], _ => rfl) hr e0 m1 m5 C rv rfl fun hr => ⟨_, pv 3, _, rfl, ?_⟩
    exact back q
  | box x =>
    obtain ⟨⟨qu, pa, bo, sc, cl, co⟩, i, M, C, hi, hj⟩ := hc
    obtain ⟨m1, rfl, rfl, rfl, m5⟩ := M
    obtain ⟨m, e1, e2⟩ := look_at hi hj
    refine lam_run (k := n + 1) (N := ["boxes", "asked", "told", "at"]) (ws := [.int i]) scX (fun pm ctv us hl => match us, hl with | [_, _, _], _ => rfl) hr e0 m1 m5 C rv rfl fun hr => ⟨_, pe_ix ix_list (pv 0) (pv 3) (fun _ _ => rfl), _, rfl, _, rfl, b, _, _, _, rfl, rfl, SqL.of (lst_hid C hb), atI_nat e2, ?_⟩
    refine back ?_
    have q' : Q (.int ((look kvs x).getD 0)) H := q
    rw [e1] at q'
    exact q'
  | asked =>
    obtain ⟨⟨qu, pa, bo, sc, cl, co⟩, M, C⟩ := hc
    obtain ⟨m1, rfl, rfl, rfl, m5⟩ := M
    refine lam_run (k := n + 1) (N := ["boxes", "asked", "told"]) (ws := []) scA (fun pm ctv us hl => match us, hl with | [_, _, _], _ => rfl) hr e0 m1 m5 C rv rfl fun hr => ⟨_, pv 1, _, rfl, ?_⟩
    exact back q
  | told =>
    obtain ⟨⟨qu, pa, bo, sc, cl, co⟩, M, C⟩ := hc
    obtain ⟨m1, rfl, rfl, rfl, m5⟩ := M
    refine lam_run (k := n + 1) (N := ["boxes", "asked", "told"]) (ws := []) scT (fun pm ctv us hl => match us, hl with | [_, _, _], _ => rfl) hr e0 m1 m5 C rv rfl fun hr => ⟨_, pv 2, _, rfl, ?_⟩
    exact back q
  | op d l r =>
    obtain ⟨⟨qu, pa, bo, sc, cl, co⟩, g, fl, fr, M, C, ⟨kk, FR⟩, h1, h2⟩ := hc
    obtain ⟨m1, rfl, rfl, rfl, m5⟩ := M
    have dl : l.deep ≤ n := Nat.le_trans (Nat.le_max_left ..) (Nat.le_of_succ_le_succ hd)
    have dr : r.deep ≤ n := Nat.le_trans (Nat.le_max_right ..) (Nat.le_of_succ_le_succ hd)
    have dl6 : l.deep ≤ 6 := Nat.le_trans (Nat.le_max_left ..) (Nat.le_of_succ_le hd6)
    have dr6 : r.deep ≤ 6 := Nat.le_trans (Nat.le_max_right ..) (Nat.le_of_succ_le hd6)
    refine lam_run (k := n + 1) (N := ["boxes", "asked", "told", "deed", "left", "right"]) (ws := [.ref g, .ref fl, .ref fr]) scO (fun pm ctv us hl => match us, hl with | [_, _, _], _ => rfl) hr e0 m1 m5 C rv rfl fun hr =>
      ⟨_, pe_callS (k := 1) (i := 3) (hr.mono (by omega)) pass0 rfl (.inr (.inr rfl)) (pa_cons (pe_callL (i := 4) G hr rfl (.inr (.inr rfl)) (pa_cons (pv 0) (pa_cons (pv 1) (pa_cons (pv 2) pa_nil)))) (pa_cons (pe_callL (i := 5) G hr rfl (.inr (.inr rfl)) (pa_cons (pv 0) (pa_cons (pv 1) (pa_cons (pv 2) pa_nil)))) pa_nil)), ?_⟩
    refine ⟨g, spDeed d, FR, kk, rfl, fl, rfl, h1.lm, _, rfl, _, rfl, _, rfl, h1.lm, l, kvs, xs, b, a, t, rfl, dl, dl6, lst_hid C hb, h1, hg.1, B, ha, ht, ?_⟩
    refine ⟨fr, rfl, h2.lm, _, rfl, _, rfl, _, rfl, h2.lm, r, kvs, xs, b, a, t, rfl, dr, dr6, lst_hid C hb, h2, hg.2, B, ha, ht, ?_⟩
    refine ⟨_, _, rfl, Ex.nb B ha ht hg.1 dl6, Ex.nb B ha ht hg.2 dr6, ?_⟩
    exact back q
theorem all_clo : ∀ n : Nat, FnL P w K mg base (n + 1) (spClo (DeedIs P w K mg base) n)
  | 0 => no_clo.mono (by omega)
  | n + 1 => ok_clo (all_clo n)
end
end Any
set_option maxHeartbeats 1000000
namespace Any
open L2 PySem PySem.Spec PyProof.Rows LamX NdefX
/-! ### heaps that grow, tables aside -/
structure Gr (T : List NTab) (H H' : Hp) : Prop where
  ext : ExtN H H'
  no : ∀ b, H' b = none → H b = none
  tabs : TabsN T H'
theorem Gr.refl {T : List NTab} {H : Hp} (t : TabsN T H) : Gr T H H := ⟨ExtN.refl H, fun _ z => z, t⟩
theorem Gr.trans {T : List NTab} {H H1 H2 : Hp} (a : Gr T H H1) (b : Gr T H1 H2) : Gr T H H2 := ⟨a.ext.trans b.ext, fun c z => a.no c (b.no c z), b.tabs⟩
theorem same_no {H H' : Hp} (s : Same H H') : ∀ b, H' b = none → H b = none := fun b z => by
  cases e : H b with
  | none => rfl
  | some o => rw [s b o e] at z; cases z
theorem Gr.same {T : List NTab} {H H1 H2 : Hp} (a : Gr T H H1) (s : Same H1 H2) : Gr T H H2 := ⟨a.ext.trans (ExtN.of s), fun c z => a.no c (same_no s c z), a.tabs.ext s⟩
theorem Gr.of {T : List NTab} {H H' : Hp} (t : TabsN T H) (s : Same H H') : Gr T H H' := (Gr.refl t).same s
theorem Gr.tup {T : List NTab} {H H' : Hp} (g : Gr T H H') {a : Addr} {xs : List V} (h : H a = some (.tup xs)) : H' a = some (.tup xs) := g.ext _ _ h fun _ z => by cases z
theorem Gr.lst {T : List NTab} {H H' : Hp} (g : Gr T H H') {a : Addr} {xs : List V} (h : H a = some (.lst xs)) : H' a = some (.lst xs) := g.ext _ _ h fun _ z => by cases z
theorem Gr.dK {T : List NTab} {H H' : Hp} (g : Gr T H H') {a : Addr} {xs : List (Key × V)} (h : H a = some (.dK xs)) : H' a = some (.dK xs) := g.ext _ _ h fun _ z => by cases z
theorem Gr.tups {T : List NTab} {H H' : Hp} (g : Gr T H H') : Tups H H' := fun _ _ h => g.tup h
/-! ### a def that hands back a lambda -/
structure FunC (K : PySem.W.Frag) (x qual : Str) (st : Stmt) (f : Addr) (fd : FuncData) (c : Addr) : Prop where
  ex : ∃ (oc : Value) (od : Option Addr) (kV doc pm : Value) (an : Option Addr) (ct : Value) (osl : Array (Option Value)),
    fd = PySem.W.fnOf x qual (defArgs st) (defBody st) (defScope st) .none kV doc pm an (.ref c) ct ∧ K.lookup f = some ⟨oc, od, .func fd, osl⟩ ∧ PySem.W.codeIn K (.ref c) qual = true
  kp : PySem.W.keepIn K (.ref f) = true
section
variable {P : Program} {w : World} {K : PySem.W.Frag} {mg : Str → Option Value} {base : Heap} {f c : Addr} {fd : FuncData}
theorem fun_c {x ql : Str} {st : Stmt} {N ps : List Str} {k : Nat} {sp : Sp} (F : FunC K x ql st f fd c) (S : FnScope N ps (defScope st)) (ln : ∀ vs H Q E, sp vs H Q E → vs.length = ps.length)
    (hb : ∀ (A : Around) (out : List Env) (s : Shared) (H : Hp) (vs : List V) (Q : VK) (E : XK), Room k (A.deeper (envOfC ql (defScope st) s.heap.objs.size f (.ref c))) → sp vs H Q E →
      ∃ t, PRs (cxOf CX0 P w K mg base N ql (defScope st) f (.ref c) A out s H E) (defBody st) t ∧ t ⟨fun _ H' => Q .non H', RetC N (defScope st) s.heap.objs.size Q⟩ (L2.start N vs) H) : FnOk P w K mg base CX0 (k + 1) f fd ps sp := by
  obtain ⟨_, _, _, _, _, _, _, _, rfl, lk, hc⟩ := F.ex
  exact fn_c lk hc S ln hb
theorem FunC.binds {x ql : Str} {st : Stmt} {ps : List Str} (F : FunC K x ql st f fd c) (h : ∀ (kV doc pm : Value) (an : Option Addr) (ct : Value) (us : List Value), us.length = ps.length → bindArgs (PySem.W.fnOf x ql (defArgs st) (defBody st) (defScope st) .none kV doc pm an (.ref c) ct) ⟨us, []⟩ = pure (ps.zip us)) : Binds K fd ps [] := by
  obtain ⟨_, _, kV, doc, pm, an, ct, _, rfl, lk, hc⟩ := F.ex
  intro s us _ hl
  rw [List.append_nil] at hl ⊢
  exact .of_eq (h kV doc pm an ct us hl)
/-- the captured names are known at the end -/
theorem caps_ret {N N2 ps fr : List Str} {sc nsc : Scope} {L : Addr} {σ : L2.St} {H' H'' : Hp} {F : LF} {ws : List V}
    (R : ∀ (x : Str) (c : Addr) (i : Nat) (u : V), (cellsFrom (L + 1) sc.names []).lookup x = some c → N[i]? = some x → σ[i]? = some (some u) → sc.names.lookup x = some .cell → H' c = none ∧ H'' c = some (CellO c u))
    (inj : ∀ x y c, (cellsFrom (L + 1) sc.names []).lookup x = some c → (cellsFrom (L + 1) sc.names []).lookup y = some c → x = y)
    (hcl : F.cl = cloFrom (cellsFrom (L + 1) sc.names []) nsc.names []) (S : NScope N2 ps fr nsc) (cel : ∀ y ∈ fr, sc.names.lookup y = some .cell) (len : ws.length = fr.length)
    (at_ : ∀ (i : Nat) (y : Str), fr[i]? = some y → ∃ (j : Nat) (u : V), N[j]? = some y ∧ σ[j]? = some (some u) ∧ ws[i]? = some u) : CapsAt H'' F fr ws ∧ ∀ b ∈ F.cells, H' b = none := by
  have hfree : ∀ y ∈ nsc.names, y.2 = .free → ∃ c, (cellsFrom (L + 1) sc.names []).lookup y.1 = some c := fun y hy e => cell_has (cel _ (S.free y hy e))
  have sub : ∀ {y c}, F.cl.lookup y = some c → (cellsFrom (L + 1) sc.names []).lookup y = some c := fun {y c} e => by
    rw [hcl] at e
    exact clo_cm hfree e
  have infr : ∀ {y c}, F.cl.lookup y = some c → y ∈ fr := fun {y c} e => by
    rw [hcl] at e
    rcases cloFrom_mem (PySem.mem_of_lookup e) with hm | ⟨h1, _⟩
    · cases hm
    · exact S.free _ h1 rfl
  have one : ∀ {y c}, F.cl.lookup y = some c → ∃ u, H' c = none ∧ H'' c = some (CellO c u) := fun {y c} e => by
    have hy := infr e
    obtain ⟨i, hi⟩ := List.mem_iff_getElem?.mp hy
    obtain ⟨j, u, j1, j2, _⟩ := at_ i y hi
    exact ⟨u, R y c j u (sub e) j1 j2 (cel y hy)⟩
  refine ⟨⟨len, fun y c e => ?_, fun x y c e1 e2 => inj x y c (sub e1) (sub e2), fun i y e => ?_⟩, fun b hb => ?_⟩
  · obtain ⟨u, _, z⟩ := one e
    exact ⟨u, z⟩
  · have hy := List.mem_of_getElem? e
    obtain ⟨c, hc⟩ := cell_has (n := L + 1) (cel y hy)
    refine ⟨c, ?_, fun v hv => ?_⟩
    · rw [hcl]
      exact clo_has hfree (PySem.mem_of_lookup (S.frk y hy)) hc
    · obtain ⟨j, u, j1, j2, j3⟩ := at_ i y e
      rw [hv] at j3
      cases j3
      exact (R y c j v hc j1 j2 (cel y hy)).2
  · obtain ⟨y, e⟩ := F.of_cells hb
    obtain ⟨u, z, _⟩ := one e
    exact z
end
/-! ### ready_worth -/
abbrev nmReady : List Str := ["expression", "owns", "kind", "number", "at", "deed", "left", "right"]
abbrev psReady : List Str := ["expression", "owns"]
theorem scReady : FnScope nmReady psReady (defScope sReady) := ⟨rfl, rfl, rfl, by decide +kernel, rfl, by decide +kernel, by decide +kernel⟩
/-- the lambdas' own name -/
def qReady : Str := (envOfC "ready_worth" (defScope sReady) 0 0 .none).qual ++ "<lambda>"
/-- a lambda that ready_worth made, its frame at L0 -/
abbrev mkReady (L : Expr) (L0 c' : Addr) : LF := ⟨qReady, lamP L, lamB L, lamS L, cloFrom (cellsFrom (L0 + 1) (defScope sReady).names []) (lamS L).names [], c'⟩
def spReady (T : List NTab) (G : Dd → Addr → Prop) (n : Nat) : Sp := fun vs H Q _ => ∃ (v : V) (o : Addr) (e : Ex) (xs : List Str), vs = [v, .ref o] ∧ ExAt H v e ∧ e.deep ≤ n ∧ e.good xs ∧ H o = some (.lst (xs.map V.str)) ∧ TabsN T H ∧
  ∀ f H', Gr T H H' → CloE G xs e H' f → Q (.ref f) H'
/-- the first place of a name -/
theorem first_at {x : Str} : ∀ {xs : List Str}, x ∈ xs → ∃ i : Nat, xs[i]? = some x ∧ ∀ j, j < i → xs[j]? ≠ some x
  | y :: r, h => by
    by_cases e : y = x
    · exact ⟨0, by rw [e]; rfl, fun j hj => absurd hj (Nat.not_lt_zero _)⟩
    · rcases List.mem_cons.mp h with z | z
      · exact absurd z.symm e
      · obtain ⟨i, h1, h2⟩ := first_at z
        refine ⟨i + 1, h1, fun j hj => ?_⟩
        cases j with
        | zero => exact fun z => e (Option.some.inj z)
        | succ j => exact h2 j (by omega)
theorem strs_flat : ∀ xs : List Str, (xs.map V.str).all flatV = true
  | [] => rfl
  | x :: r => by
    rw [List.map_cons, List.all_cons, strs_flat r]
    rfl
/-- the table of deeds, each a def that keeps its promise -/
structure DeedsT (P : Program) (w : World) (K : PySem.W.Frag) (mg : Str → Option Value) (base : Heap) : Prop where
  ex : ∃ D : Addr, mg "DEEDS" = some (.ref D) ∧ ∀ d : Dd, ∃ g : Addr, KDct K w D d.word (.ref g) ∧ DeedIs P w K mg base d g
section
variable {P : Program} {w : World} {K : PySem.W.Frag} {mg : Str → Option Value} {base : Heap} {f c Pt : Addr} {fd : FuncData} {T : List NTab}
theorem no_ready : FnOk P w K mg base CX0 0 f fd psReady (spReady T (DeedIs P w K mg base) 0) := by
  have no : ∀ vs H Q E, ¬ spReady T (DeedIs P w K mg base) 0 vs H Q E := fun vs H Q E h => by
    obtain ⟨v, o, e, xs, _, _, hd, _⟩ := h
    cases e <;> exact absurd hd (by show ¬ _ ≤ 0; exact Nat.not_succ_le_zero _)
  exact ⟨fun vs H Q E h => absurd h (no vs H Q E), fun A outer s H args us vs Q E _ _ _ _ h => absurd h (no vs H Q E)⟩
theorem ok_ready {n : Nat} (F : FunC K "ready_worth" "ready_worth" sReady f fd c) (TB : TabB base mg c Pt) (hm : (Pt, fun _ _ => qReady) ∈ T) (hu : ∀ p ∈ T, p.1 = Pt → p.2 = fun _ _ => qReady) (G : FnOk P w K mg base CX0 (n + 1) f fd psReady (spReady T (DeedIs P w K mg base) n))
    (D : DeedsT P w K mg base) (mR : mg "ready_worth" = some (.ref f)) (bR : Binds K fd psReady []) : FnOk P w K mg base CX0 (n + 2) f fd psReady (spReady T (DeedIs P w K mg base) (n + 1)) := by
  refine fun_c F scReady (fun vs H Q E h => ?_) (fun A outer s H vs Q E hr h => ?_)
  · obtain ⟨v, o, e, xs, rfl, _⟩ := h
    rfl
  obtain ⟨v, o, e, xs, rfl, hv, hd, hg, ho, hT, q⟩ := h
  obtain ⟨DA, mD, hD⟩ := D.ex
  let X := cxOf CX0 P w K mg base nmReady "ready_worth" (defScope sReady) f (.ref c) A outer s H E
  have TBx : TabB X.base X.mg c Pt := TB
  refine ⟨_, prs_cons (pr_go (ps_set (i := 2) scReady.nd rfl (Or.inl rfl) (pe_ix ix_tup (pv 0) pe_int (fun _ _ => rfl))))
    (prs_cons (pr_if (pt_cmpR op_eq (pv 2) pe_str (nomark _)) (prs_cons (pr_go (ps_set (i := 3) scReady.nd rfl (Or.inr rfl) (pe_ix ix_tup (pv 0) pe_int (fun _ _ => rfl)))) (prs_one (pr_ret (pe_lamb TBx rfl hm rfl hu rfl (ndef_free (sc := defScope sReady) (fr := []) (by decide +kernel)))))) prs_nil)
    (prs_cons (pr_if (pt_cmpR op_eq (pv 2) pe_str (nomark _)) (prs_cons (pr_go (ps_set (i := 4) scReady.nd rfl (Or.inr rfl) (pe_bm PySem.F.plainAttrs_list PySem.F.slot_list_index PySem.F.type_list_index mt_index (pv 1) (pa_cons (pe_ix ix_tup (pv 0) pe_int (fun _ _ => rfl)) pa_nil)))) (prs_one (pr_ret (pe_lamb TBx rfl hm rfl hu rfl (ndef_free (sc := defScope sReady) (fr := []) (by decide +kernel)))))) prs_nil)
    (prs_cons (pr_if (pt_cmpR op_eq (pv 2) pe_str (nomark _)) (prs_one (pr_ret (pe_lamb TBx rfl hm rfl hu rfl (ndef_free (sc := defScope sReady) (fr := []) (by decide +kernel))))) prs_nil)
    (prs_cons (pr_if (pt_cmpR op_eq (pv 2) pe_str (nomark _)) (prs_one (pr_ret (pe_lamb TBx rfl hm rfl hu rfl (ndef_free (sc := defScope sReady) (fr := []) (by decide +kernel))))) prs_nil)
    (prs_cons (pr_go (ps_set (i := 5) scReady.nd rfl (Or.inr rfl) (pe_ix ix_kdict (pe_glob (v := .ref DA) rfl mD rfl) (pv 2) (fun _ _ => rfl))))
    (prs_cons (pr_go (ps_set (i := 6) scReady.nd rfl (Or.inr rfl) (pe_call G hr rfl mR F.kp bR .nil pass0 (pa_cons (pe_ix ix_tup (pv 0) pe_int (fun _ _ => rfl)) (pa_cons (pv 1) pa_nil)))))
    (prs_cons (pr_go (ps_set (i := 7) scReady.nd rfl (Or.inr rfl) (pe_call G hr rfl mR F.kp bR .nil pass0 (pa_cons (pe_ix ix_tup (pv 0) pe_int (fun _ _ => rfl)) (pa_cons (pv 1) pa_nil)))))
    (prs_one (pr_ret (pe_lamb TBx rfl hm rfl hu rfl (ndef_free (sc := defScope sReady) (fr := []) (by decide +kernel)))))))))))), ?_⟩
  cases hv with
  | num h =>
    rename_i a m
    refine ⟨_, rfl, _, _, _, _, rfl, rfl, SqT.of h, atI_nat (j := 0) rfl, ?_⟩
    refine ⟨_, rfl, rfl, _, rfl, itT eq_str ?_⟩
    refine ⟨_, rfl, _, _, _, _, rfl, rfl, SqT.of h, atI_nat (j := 1) rfl, hT, fun g c' H1 eN nn T1 f0 f1 c1 H2 sm R _ inj => ?_⟩
    obtain ⟨C, _⟩ := caps_ret (F := mkReady lamN s.heap.objs.size c') (ws := [.int m]) R inj rfl scN (by decide +kernel) rfl fun i y e => match i, e with | 0, e => by cases e; exact ⟨3, _, rfl, rfl, rfl⟩ | _ + 1, e => by cases e
    exact q g H2 ⟨eN.trans (ExtN.of sm), fun b z => nn b (same_no sm b z), T1.ext sm⟩ ⟨_, ⟨sm _ _ f1, rfl, rfl, rfl, sm _ _ c1⟩, C⟩
  | box h =>
    rename_i a x
    obtain ⟨i, i1, i2⟩ := first_at hg
    refine ⟨_, rfl, _, _, _, _, rfl, rfl, SqT.of h, atI_nat (j := 0) rfl, ?_⟩
    refine ⟨_, rfl, rfl, _, rfl, itF (ne_str (by decide)) ?_⟩
    refine ⟨_, rfl, rfl, _, rfl, itT eq_str ?_⟩
    refine ⟨_, rfl, .inl ⟨rfl, _, SqL.of ho⟩, _, rfl, _, _, _, _, rfl, rfl, SqT.of h, atI_nat (j := 1) rfl, o, _, _, i, .str x, rfl, rfl, SqL.of ho, rfl, strs_flat xs, by rw [List.getElem?_map, i1]; rfl, by simp [eqV], fun j z hj hz => ?_, ?_⟩
    · rw [List.getElem?_map] at hz
      cases ez : xs[j]? with
      | none => rw [ez] at hz; cases hz
      | some y =>
        rw [ez] at hz
        cases hz
        have : y ≠ x := fun e => i2 j hj (by rw [ez, e])
        simp [eqV, this]
    · refine ⟨hT, fun g c' H1 eN nn T1 f0 f1 c1 H2 sm R _ inj => ?_⟩
      obtain ⟨C, _⟩ := caps_ret (F := mkReady lamX s.heap.objs.size c') (ws := [.int i]) R inj rfl scX (by decide +kernel) rfl fun i y e => match i, e with | 0, e => by cases e; exact ⟨4, _, rfl, rfl, rfl⟩ | _ + 1, e => by cases e
      exact q g H2 ⟨eN.trans (ExtN.of sm), fun b z => nn b (same_no sm b z), T1.ext sm⟩ ⟨_, i, ⟨sm _ _ f1, rfl, rfl, rfl, sm _ _ c1⟩, C, i1, i2⟩
  | asked h =>
    refine ⟨_, rfl, _, _, _, _, rfl, rfl, SqT.of h, atI_nat (j := 0) rfl, ?_⟩
    refine ⟨_, rfl, rfl, _, rfl, itF (ne_str (by decide)) ?_⟩
    refine ⟨_, rfl, rfl, _, rfl, itF (ne_str (by decide)) ?_⟩
    refine ⟨_, rfl, rfl, _, rfl, itT eq_str ?_⟩
    refine ⟨hT, fun g c' H1 eN nn T1 f0 f1 c1 H2 sm R _ inj => ?_⟩
    obtain ⟨C, _⟩ := caps_ret (F := mkReady lamA s.heap.objs.size c') (ws := []) R inj rfl scA (by decide +kernel) rfl fun i y e => by cases e
    exact q g H2 ⟨eN.trans (ExtN.of sm), fun b z => nn b (same_no sm b z), T1.ext sm⟩ ⟨_, ⟨sm _ _ f1, rfl, rfl, rfl, sm _ _ c1⟩, C⟩
  | told h =>
    refine ⟨_, rfl, _, _, _, _, rfl, rfl, SqT.of h, atI_nat (j := 0) rfl, ?_⟩
    refine ⟨_, rfl, rfl, _, rfl, itF (ne_str (by decide)) ?_⟩
    refine ⟨_, rfl, rfl, _, rfl, itF (ne_str (by decide)) ?_⟩
    refine ⟨_, rfl, rfl, _, rfl, itF (ne_str (by decide)) ?_⟩
    refine ⟨_, rfl, rfl, _, rfl, itT eq_str ?_⟩
    refine ⟨hT, fun g c' H1 eN nn T1 f0 f1 c1 H2 sm R _ inj => ?_⟩
    obtain ⟨C, _⟩ := caps_ret (F := mkReady lamT s.heap.objs.size c') (ws := []) R inj rfl scT (by decide +kernel) rfl fun i y e => by cases e
    exact q g H2 ⟨eN.trans (ExtN.of sm), fun b z => nn b (same_no sm b z), T1.ext sm⟩ ⟨_, ⟨sm _ _ f1, rfl, rfl, rfl, sm _ _ c1⟩, C⟩
  | op h h1 h2 =>
    rename_i p d x y l r
    have w1 : d.word ≠ "number" ∧ d.word ≠ "box" ∧ d.word ≠ "asked" ∧ d.word ≠ "told" := by cases d <;> decide
    obtain ⟨g, kd, gd⟩ := hD d
    have dl : l.deep ≤ n := Nat.le_trans (Nat.le_max_left ..) (Nat.le_of_succ_le_succ hd)
    have dr : r.deep ≤ n := Nat.le_trans (Nat.le_max_right ..) (Nat.le_of_succ_le_succ hd)
    refine ⟨_, rfl, _, _, _, _, rfl, rfl, SqT.of h, atI_nat (j := 0) rfl, ?_⟩
    refine ⟨_, rfl, rfl, _, rfl, itF (ne_str w1.1) ?_⟩
    refine ⟨_, rfl, rfl, _, rfl, itF (ne_str w1.2.1) ?_⟩
    refine ⟨_, rfl, rfl, _, rfl, itF (ne_str w1.2.2.1) ?_⟩
    refine ⟨_, rfl, rfl, _, rfl, itF (ne_str w1.2.2.2) ?_⟩
    refine ⟨_, rfl, DA, d.word, .ref g, rfl, rfl, kd, ?_⟩
    refine ⟨_, rfl, _, _, _, _, rfl, rfl, SqT.of h, atI_nat (j := 1) rfl, _, rfl, x, o, l, xs, rfl, h1, dl, hg.1, ho, hT, fun fl H1 g1 cl1 => ?_⟩
    refine ⟨_, rfl, _, _, _, _, rfl, rfl, SqT.of (g1.tup h), atI_nat (j := 2) rfl, _, rfl, y, o, r, xs, rfl, h2.keep g1.tups, dr, hg.2, g1.lst ho, g1.tabs, fun fr H2 g2 cl2 => ?_⟩
    refine ⟨g2.tabs, fun fo c' H3 eN nn T3 f0 f1 c1 H4 sm R _ inj => ?_⟩
    obtain ⟨C, cn⟩ := caps_ret (F := mkReady lamO s.heap.objs.size c') (ws := [.ref g, .ref fl, .ref fr]) R inj rfl scO (by decide +kernel) rfl fun i y e => match i, e with | 0, e => by cases e; exact ⟨5, _, rfl, rfl, rfl⟩ | 1, e => by cases e; exact ⟨6, _, rfl, rfl, rfl⟩ | 2, e => by cases e; exact ⟨7, _, rfl, rfl, rfl⟩ | _ + 3, e => by cases e
    have g12 := g1.trans g2
    have ex : ∀ cs : List Addr, (∀ b ∈ cs, H3 b = none) → ExtN H3 (hid H4 cs) := fun cs hc b o hb _ => by
      rw [hid_out (fun z => by rw [hc b z] at hb; cases hb)]
      exact sm _ _ hb
    refine q fo H4 ⟨(g12.ext.trans eN).trans (ExtN.of sm), fun b z => g12.no b (nn b (same_no sm b z)), T3.ext sm⟩ ⟨_, g, fl, fr, ⟨sm _ _ f1, rfl, rfl, rfl, sm _ _ c1⟩, C, gd, ?_, ?_⟩
    · exact ((cl1.ext g2.ext).ext eN).ext (ex _ cn)
    · exact (cl2.ext eN).ext (ex _ cn)
theorem all_ready (F : FunC K "ready_worth" "ready_worth" sReady f fd c) (TB : TabB base mg c Pt) (hm : (Pt, fun _ _ => qReady) ∈ T) (hu : ∀ p ∈ T, p.1 = Pt → p.2 = fun _ _ => qReady) (D : DeedsT P w K mg base) (mR : mg "ready_worth" = some (.ref f)) (bR : Binds K fd psReady []) :
    ∀ n : Nat, FnOk P w K mg base CX0 (n + 1) f fd psReady (spReady T (DeedIs P w K mg base) n)
  | 0 => no_ready.mono (by omega)
  | n + 1 => ok_ready F TB hm hu (all_ready F TB hm hu D mR bR n) D mR bR
end
theorem bx_names : ∀ kvs : List (Str × Int), (bx kvs).map (fun kv => kV kv.1) = (namesOf kvs).map V.str
  | [] => rfl
  | p :: r => by
    have ih := bx_names r
    unfold bx namesOf at ih ⊢
    rw [List.map_cons, List.map_cons, List.map_cons, List.map_cons, ih]
    rfl
theorem bx_nums : ∀ kvs : List (Str × Int), (bx kvs).map (·.2) = numsV kvs
  | [] => rfl
  | p :: r => by
    have ih := bx_nums r
    unfold bx numsV at ih ⊢
    rw [List.map_cons, List.map_cons, List.map_cons, ih]
theorem look_in : ∀ {kvs : List (Str × Int)} {x : Str} {n : Int}, look kvs x = some n → x ∈ namesOf kvs
  | [], x, n, h => by cases h
  | p :: r, x, n, h => by
    by_cases e : p.1 = x
    · rw [← e]
      exact List.mem_cons_self ..
    · refine List.mem_cons_of_mem _ (look_in (n := n) ?_)
      unfold look at h ⊢
      rw [List.find?_cons, decide_eq_false e] at h
      exact h
theorem Ex.good_of {kvs : List (Str × Int)} {xs : List Str} (B : Bx kvs xs) : ∀ {e : Ex}, e.good xs → e.good (namesOf kvs)
  | .num _, h => h
  | .box x, h => by
    obtain ⟨n, e, _⟩ := B.all x h
    exact look_in e
  | .asked, _ => trivial
  | .told, _ => trivial
  | .op _ l r, h => ⟨Ex.good_of B h.1, Ex.good_of B h.2⟩
end Any
set_option maxHeartbeats 1000000
namespace Any
open L2 PySem PySem.Spec PyProof.Rows LamX NdefX
/-! ### tests as trees -/
inductive Ts
  | is (l r : Ex) | bel (l r : Ex) | nt (t : Ts) | both (t u : Ts) | either (t u : Ts)
def Ts.deep : Ts → Nat
  | .is _ _ => 1
  | .bel _ _ => 1
  | .nt t => t.deep + 1
  | .both t u => max t.deep u.deep + 1
  | .either t u => max t.deep u.deep + 1
/-- of these boxes, its expressions not too deep -/
def Ts.good (xs : List Str) : Ts → Prop
  | .is l r => (l.good xs ∧ l.deep ≤ 6) ∧ (r.good xs ∧ r.deep ≤ 6)
  | .bel l r => (l.good xs ∧ l.deep ≤ 6) ∧ (r.good xs ∧ r.deep ≤ 6)
  | .nt t => t.good xs
  | .both t u => t.good xs ∧ u.good xs
  | .either t u => t.good xs ∧ u.good xs
def Ts.val (kvs : List (Str × Int)) (a t : Int) : Ts → Bool
  | .is l r => decide (l.val kvs a t = r.val kvs a t)
  | .bel l r => decide (l.val kvs a t < r.val kvs a t)
  | .nt x => !x.val kvs a t
  | .both x y => x.val kvs a t && y.val kvs a t
  | .either x y => x.val kvs a t || y.val kvs a t
inductive TsAt (H : Hp) : V → Ts → Prop
  | is {a : Addr} {v u : V} {l r : Ex} : H a = some (.tup [.str "is", v, u]) → ExAt H v l → ExAt H u r → TsAt H (.ref a) (.is l r)
  | bel {a : Addr} {v u : V} {l r : Ex} : H a = some (.tup [.str "below", v, u]) → ExAt H v l → ExAt H u r → TsAt H (.ref a) (.bel l r)
  | nt {a : Addr} {v : V} {t : Ts} : H a = some (.tup [.str "not", v]) → TsAt H v t → TsAt H (.ref a) (.nt t)
  | both {a : Addr} {v u : V} {l r : Ts} : H a = some (.tup [.str "both", v, u]) → TsAt H v l → TsAt H u r → TsAt H (.ref a) (.both l r)
  | either {a : Addr} {v u : V} {l r : Ts} : H a = some (.tup [.str "either", v, u]) → TsAt H v l → TsAt H u r → TsAt H (.ref a) (.either l r)
theorem TsAt.keep {H H' : Hp} (k : Tups H H') {v : V} {e : Ts} (h : TsAt H v e) : TsAt H' v e := by
  induction h with
  | is h h1 h2 => exact .is (k _ _ h) (h1.keep k) (h2.keep k)
  | bel h h1 h2 => exact .bel (k _ _ h) (h1.keep k) (h2.keep k)
  | nt h _ i1 => exact .nt (k _ _ h) i1
  | both h _ _ i1 i2 => exact .both (k _ _ h) i1 i2
  | either h _ _ i1 i2 => exact .either (k _ _ h) i1 i2


abbrev sRT : Stmt := top 10
abbrev sRC : Stmt := top 11
abbrev lamNt : Expr := retE (stN (ifB (stN (defBody sRT) 1)) 1)
abbrev lamBo : Expr := retE (stN (ifB (stN (defBody sRT) 5)) 0)
abbrev lamEi : Expr := retE (stN (defBody sRT) 6)
abbrev lamIs : Expr := retE (stN (ifB (stN (defBody sRC) 0)) 0)
abbrev lamBe : Expr := retE (stN (defBody sRC) 1)
theorem scNt : NScope ["boxes", "asked", "told", "inner"] psL ["inner"] (lamS lamNt) := nscope_by (by decide +kernel)
theorem scBo : NScope ["boxes", "asked", "told", "first", "second"] psL ["first", "second"] (lamS lamBo) := nscope_by (by decide +kernel)
theorem scEi : NScope ["boxes", "asked", "told", "first", "second"] psL ["first", "second"] (lamS lamEi) := nscope_by (by decide +kernel)
theorem scIs : NScope ["boxes", "asked", "told", "left", "right"] psL ["left", "right"] (lamS lamIs) := nscope_by (by decide +kernel)
theorem scBe : NScope ["boxes", "asked", "told", "left", "right"] psL ["left", "right"] (lamS lamBe) := nscope_by (by decide +kernel)
/-- the lambda at f tells whether e holds -/
def CloT (G : Dd → Addr → Prop) (xs : List Str) : Ts → Hp → Addr → Prop
  | .is l r, H, f => ∃ (F : LF) (fl fr : Addr), Made H f F lamIs ∧ CapsAt H F ["left", "right"] [.ref fl, .ref fr] ∧ CloE G xs l (hid H F.cells) fl ∧ CloE G xs r (hid H F.cells) fr
  | .bel l r, H, f => ∃ (F : LF) (fl fr : Addr), Made H f F lamBe ∧ CapsAt H F ["left", "right"] [.ref fl, .ref fr] ∧ CloE G xs l (hid H F.cells) fl ∧ CloE G xs r (hid H F.cells) fr
  | .nt t, H, f => ∃ (F : LF) (fi : Addr), Made H f F lamNt ∧ CapsAt H F ["inner"] [.ref fi] ∧ CloT G xs t (hid H F.cells) fi
  | .both t u, H, f => ∃ (F : LF) (fl fr : Addr), Made H f F lamBo ∧ CapsAt H F ["first", "second"] [.ref fl, .ref fr] ∧ CloT G xs t (hid H F.cells) fl ∧ CloT G xs u (hid H F.cells) fr
  | .either t u, H, f => ∃ (F : LF) (fl fr : Addr), Made H f F lamEi ∧ CapsAt H F ["first", "second"] [.ref fl, .ref fr] ∧ CloT G xs t (hid H F.cells) fl ∧ CloT G xs u (hid H F.cells) fr
theorem CloT.ext {G : Dd → Addr → Prop} {xs : List Str} : ∀ {e : Ts} {H H' : Hp} {f : Addr}, CloT G xs e H f → ExtN H H' → CloT G xs e H' f
  | .is _ _, _, _, _, ⟨F, a, b, m, c, h1, h2⟩, e => ⟨F, a, b, m.ext e, c.ext e, h1.ext (hid_ext e _), h2.ext (hid_ext e _)⟩
  | .bel _ _, _, _, _, ⟨F, a, b, m, c, h1, h2⟩, e => ⟨F, a, b, m.ext e, c.ext e, h1.ext (hid_ext e _), h2.ext (hid_ext e _)⟩
  | .nt _, _, _, _, ⟨F, a, m, c, h1⟩, e => ⟨F, a, m.ext e, c.ext e, CloT.ext h1 (hid_ext e _)⟩
  | .both _ _, _, _, _, ⟨F, a, b, m, c, h1, h2⟩, e => ⟨F, a, b, m.ext e, c.ext e, CloT.ext h1 (hid_ext e _), CloT.ext h2 (hid_ext e _)⟩
  | .either _ _, _, _, _, ⟨F, a, b, m, c, h1, h2⟩, e => ⟨F, a, b, m.ext e, c.ext e, CloT.ext h1 (hid_ext e _), CloT.ext h2 (hid_ext e _)⟩
theorem CloT.lm {G : Dd → Addr → Prop} {xs : List Str} : ∀ {e : Ts} {H : Hp} {f : Addr}, CloT G xs e H f → IsLm H f
  | .is _ _, _, _, ⟨F, _, _, m, _⟩ => ⟨F, m.at_⟩
  | .bel _ _, _, _, ⟨F, _, _, m, _⟩ => ⟨F, m.at_⟩
  | .nt _, _, _, ⟨F, _, m, _⟩ => ⟨F, m.at_⟩
  | .both _ _, _, _, ⟨F, _, _, m, _⟩ => ⟨F, m.at_⟩
  | .either _ _, _, _, ⟨F, _, _, m, _⟩ => ⟨F, m.at_⟩
def spCloT (G : Dd → Addr → Prop) (n : Nat) (f : Addr) : Sp := fun vs H Q _ => ∃ (e : Ts) (kvs : List (Str × Int)) (xs : List Str) (b : Addr) (a t : Int), vs = [.ref b, .int a, .int t] ∧ e.deep ≤ n ∧ H b = some (.lst (numsV kvs)) ∧ CloT G (namesOf kvs) e H f ∧ e.good xs ∧ Bx kvs xs ∧
  (0 ≤ a ∧ a < 1024) ∧ (0 ≤ t ∧ t < 1024) ∧ Q (.bl (e.val kvs a t)) H
section
variable {P : Program} {w : World} {K : PySem.W.Frag} {mg : Str → Option Value} {base : Heap}
theorem no_cloT {k : Nat} : FnL P w K mg base k (spCloT (DeedIs P w K mg base) 0) := fun f A outer s H us vs Q _ _ _ h => by
  obtain ⟨e, kvs, xs, b, a, t, _, hd, _⟩ := h
  cases e <;> exact absurd hd (by show ¬ _ ≤ 0; exact Nat.not_succ_le_zero _)
theorem ok_cloT {n : Nat} (G : FnL P w K mg base (n + 7) (spCloT (DeedIs P w K mg base) n)) : FnL P w K mg base (n + 8) (spCloT (DeedIs P w K mg base) (n + 1)) := by
  intro f A outer s H us vs Q hr e0 rv h
  obtain ⟨e, kvs, xs, b, a, t, rfl, hd, hb, hc, hg, B, ha, ht, q⟩ := h
  have G6 : FnL P w K mg base 7 (spClo (DeedIs P w K mg base) 6) := all_clo 6
  cases e with
  | is l r =>
    obtain ⟨⟨qu, pa, bo, sc, cl, co⟩, fl, fr, M, C, h1, h2⟩ := hc
    obtain ⟨m1, rfl, rfl, rfl, m5⟩ := M
    refine lam_run (k := n + 7) (N := ["boxes", "asked", "told", "left", "right"]) (ws := [.ref fl, .ref fr]) scIs (fun pm ctv us hl => match us, hl with | [_, _, _], _ => rfl) hr e0 m1 m5 C rv rfl fun hr =>
      ⟨_, pe_cmpR op_eq (pe_callL (i := 3) G6 (hr.mono (by omega)) rfl (.inr (.inr rfl)) (pa_cons (pv 0) (pa_cons (pv 1) (pa_cons (pv 2) pa_nil)))) (pe_callL (i := 4) G6 (hr.mono (by omega)) rfl (.inr (.inr rfl)) (pa_cons (pv 0) (pa_cons (pv 1) (pa_cons (pv 2) pa_nil)))) (nomark _), ?_⟩
    refine ⟨fl, rfl, h1.lm, _, rfl, _, rfl, _, rfl, h1.lm, l, kvs, xs, b, a, t, rfl, hg.1.2, hg.1.2, lst_hid C hb, h1, hg.1.1, B, ha, ht, ?_⟩
    refine ⟨fr, rfl, h2.lm, _, rfl, _, rfl, _, rfl, h2.lm, r, kvs, xs, b, a, t, rfl, hg.2.2, hg.2.2, lst_hid C hb, h2, hg.2.1, B, ha, ht, rfl, ?_⟩
    rw [show decide (V.int (l.val kvs a t) = V.int (r.val kvs a t)) = decide (l.val kvs a t = r.val kvs a t) from decide_eq_decide.mpr ⟨fun z => V.int.inj z, fun z => by rw [z]⟩]
    exact back q
  | bel l r =>
    obtain ⟨⟨qu, pa, bo, sc, cl, co⟩, fl, fr, M, C, h1, h2⟩ := hc
    obtain ⟨m1, rfl, rfl, rfl, m5⟩ := M
    refine lam_run (k := n + 7) (N := ["boxes", "asked", "told", "left", "right"]) (ws := [.ref fl, .ref fr]) scBe (fun pm ctv us hl => match us, hl with | [_, _, _], _ => rfl) hr e0 m1 m5 C rv rfl fun hr =>
      ⟨_, pe_cmpR op_lt (pe_callL (i := 3) G6 (hr.mono (by omega)) rfl (.inr (.inr rfl)) (pa_cons (pv 0) (pa_cons (pv 1) (pa_cons (pv 2) pa_nil)))) (pe_callL (i := 4) G6 (hr.mono (by omega)) rfl (.inr (.inr rfl)) (pa_cons (pv 0) (pa_cons (pv 1) (pa_cons (pv 2) pa_nil)))) (nomark _), ?_⟩
    refine ⟨fl, rfl, h1.lm, _, rfl, _, rfl, _, rfl, h1.lm, l, kvs, xs, b, a, t, rfl, hg.1.2, hg.1.2, lst_hid C hb, h1, hg.1.1, B, ha, ht, ?_⟩
    exact ⟨fr, rfl, h2.lm, _, rfl, _, rfl, _, rfl, h2.lm, r, kvs, xs, b, a, t, rfl, hg.2.2, hg.2.2, lst_hid C hb, h2, hg.2.1, B, ha, ht, _, _, rfl, rfl, back q⟩
  | nt x =>
    obtain ⟨⟨qu, pa, bo, sc, cl, co⟩, fi, M, C, h1⟩ := hc
    obtain ⟨m1, rfl, rfl, rfl, m5⟩ := M
    refine lam_run (k := n + 7) (N := ["boxes", "asked", "told", "inner"]) (ws := [.ref fi]) scNt (fun pm ctv us hl => match us, hl with | [_, _, _], _ => rfl) hr e0 m1 m5 C rv rfl fun hr =>
      ⟨_, pe_not (pe_callL (i := 3) G hr rfl (.inr (.inr rfl)) (pa_cons (pv 0) (pa_cons (pv 1) (pa_cons (pv 2) pa_nil)))), ?_⟩
    exact ⟨fi, rfl, h1.lm, _, rfl, _, rfl, _, rfl, h1.lm, x, kvs, xs, b, a, t, rfl, Nat.le_of_succ_le_succ hd, lst_hid C hb, h1, hg, B, ha, ht, _, rfl, back q⟩
  | both x y =>
    obtain ⟨⟨qu, pa, bo, sc, cl, co⟩, fl, fr, M, C, h1, h2⟩ := hc
    obtain ⟨m1, rfl, rfl, rfl, m5⟩ := M
    have dl : x.deep ≤ n := Nat.le_trans (Nat.le_max_left ..) (Nat.le_of_succ_le_succ hd)
    have dr : y.deep ≤ n := Nat.le_trans (Nat.le_max_right ..) (Nat.le_of_succ_le_succ hd)
    refine lam_run (k := n + 7) (N := ["boxes", "asked", "told", "first", "second"]) (ws := [.ref fl, .ref fr]) scBo (fun pm ctv us hl => match us, hl with | [_, _, _], _ => rfl) hr e0 m1 m5 C rv rfl fun hr =>
      ⟨_, pe_and (pe_callL (i := 3) G hr rfl (.inr (.inr rfl)) (pa_cons (pv 0) (pa_cons (pv 1) (pa_cons (pv 2) pa_nil)))) (pe_one (pe_callL (i := 4) G hr rfl (.inr (.inr rfl)) (pa_cons (pv 0) (pa_cons (pv 1) (pa_cons (pv 2) pa_nil))))), ?_⟩
    have z : Q (.bl (x.val kvs a t && y.val kvs a t)) H := q
    refine ⟨fl, rfl, h1.lm, _, rfl, _, rfl, _, rfl, h1.lm, x, kvs, xs, b, a, t, rfl, dl, lst_hid C hb, h1, hg.1, B, ha, ht, _, rfl, ?_⟩
    cases e1 : x.val kvs a t with
    | false => rw [e1] at z; exact itF rfl (back z)
    | true => rw [e1] at z; exact itT rfl ⟨fr, rfl, h2.lm, _, rfl, _, rfl, _, rfl, h2.lm, y, kvs, xs, b, a, t, rfl, dr, lst_hid C hb, h2, hg.2, B, ha, ht, back z⟩
  | either x y =>
    obtain ⟨⟨qu, pa, bo, sc, cl, co⟩, fl, fr, M, C, h1, h2⟩ := hc
    obtain ⟨m1, rfl, rfl, rfl, m5⟩ := M
    have dl : x.deep ≤ n := Nat.le_trans (Nat.le_max_left ..) (Nat.le_of_succ_le_succ hd)
    have dr : y.deep ≤ n := Nat.le_trans (Nat.le_max_right ..) (Nat.le_of_succ_le_succ hd)
    refine lam_run (k := n + 7) (N := ["boxes", "asked", "told", "first", "second"]) (ws := [.ref fl, .ref fr]) scEi (fun pm ctv us hl => match us, hl with | [_, _, _], _ => rfl) hr e0 m1 m5 C rv rfl fun hr =>
      ⟨_, pe_or (pe_callL (i := 3) G hr rfl (.inr (.inr rfl)) (pa_cons (pv 0) (pa_cons (pv 1) (pa_cons (pv 2) pa_nil)))) (pe_one (pe_callL (i := 4) G hr rfl (.inr (.inr rfl)) (pa_cons (pv 0) (pa_cons (pv 1) (pa_cons (pv 2) pa_nil))))), ?_⟩
    have z : Q (.bl (x.val kvs a t || y.val kvs a t)) H := q
    refine ⟨fl, rfl, h1.lm, _, rfl, _, rfl, _, rfl, h1.lm, x, kvs, xs, b, a, t, rfl, dl, lst_hid C hb, h1, hg.1, B, ha, ht, _, rfl, ?_⟩
    cases e1 : x.val kvs a t with
    | true => rw [e1] at z; exact itT rfl (back z)
    | false => rw [e1] at z; exact itF rfl ⟨fr, rfl, h2.lm, _, rfl, _, rfl, _, rfl, h2.lm, y, kvs, xs, b, a, t, rfl, dr, lst_hid C hb, h2, hg.2, B, ha, ht, back z⟩
theorem all_cloT : ∀ n : Nat, FnL P w K mg base (n + 7) (spCloT (DeedIs P w K mg base) n)
  | 0 => no_cloT
  | n + 1 => ok_cloT (all_cloT n)
end
end Any
set_option maxHeartbeats 1000000
namespace Any
open L2 PySem PySem.Spec PyProof.Rows LamX NdefX
/-! ### ready_comparison, ready_test -/
abbrev nmRC : List Str := ["kind", "left", "right"]
theorem scRC : FnScope nmRC nmRC (defScope sRC) := ⟨rfl, rfl, rfl, by decide +kernel, rfl, by decide +kernel, by decide +kernel⟩
abbrev nmRT : List Str := ["test", "owns", "kind", "inner", "first", "second"]
abbrev psRT : List Str := ["test", "owns"]
theorem scRT : FnScope nmRT psRT (defScope sRT) := ⟨rfl, rfl, rfl, by decide +kernel, rfl, by decide +kernel, by decide +kernel⟩
def qRC : Str := (envOfC "ready_comparison" (defScope sRC) 0 0 .none).qual ++ "<lambda>"
def qRT : Str := (envOfC "ready_test" (defScope sRT) 0 0 .none).qual ++ "<lambda>"
abbrev mkRC (L : Expr) (L0 c' : Addr) : LF := ⟨qRC, lamP L, lamB L, lamS L, cloFrom (cellsFrom (L0 + 1) (defScope sRC).names []) (lamS L).names [], c'⟩
abbrev mkRT (L : Expr) (L0 c' : Addr) : LF := ⟨qRT, lamP L, lamB L, lamS L, cloFrom (cellsFrom (L0 + 1) (defScope sRT).names []) (lamS L).names [], c'⟩
def spRC (T : List NTab) (G : Dd → Addr → Prop) : Sp := fun vs H Q _ => ∃ (k : Str) (fl fr : Addr) (l r : Ex) (xs : List Str), vs = [.str k, .ref fl, .ref fr] ∧ (k = "is" ∨ k = "below") ∧ CloE G xs l H fl ∧ CloE G xs r H fr ∧ TabsN T H ∧
  ∀ f H', Gr T H H' → (k = "is" → CloT G xs (.is l r) H' f) → (k = "below" → CloT G xs (.bel l r) H' f) → Q (.ref f) H'
def spRT (T : List NTab) (G : Dd → Addr → Prop) (n : Nat) : Sp := fun vs H Q _ => ∃ (v : V) (o : Addr) (e : Ts) (xs : List Str), vs = [v, .ref o] ∧ TsAt H v e ∧ e.deep ≤ n ∧ e.good xs ∧ H o = some (.lst (xs.map V.str)) ∧ TabsN T H ∧
  ∀ f H', Gr T H H' → CloT G xs e H' f → Q (.ref f) H'
theorem ext_hid {H3 H4 : Hp} (sm : Same H3 H4) {cs : List Addr} (hc : ∀ b ∈ cs, H3 b = none) : ExtN H3 (hid H4 cs) := fun b o hb _ => by
  rw [hid_out (fun z => by rw [hc b z] at hb; cases hb)]
  exact sm _ _ hb
section
variable {P : Program} {w : World} {K : PySem.W.Frag} {mg : Str → Option Value} {base : Heap} {f c Pt rw_ rc : Addr} {fd rwd rcd : FuncData} {T : List NTab}
theorem ok_rc (F : FunC K "ready_comparison" "ready_comparison" sRC f fd c) (TB : TabB base mg c Pt) (hm : (Pt, fun _ _ => qRC) ∈ T) (hu : ∀ p ∈ T, p.1 = Pt → p.2 = fun _ _ => qRC) : FnOk P w K mg base CX0 1 f fd nmRC (spRC T (DeedIs P w K mg base)) := by
  refine fun_c F scRC (fun vs H Q E h => ?_) (fun A outer s H vs Q E hr h => ?_)
  · obtain ⟨k, fl, fr, l, r, xs, rfl, _⟩ := h
    rfl
  obtain ⟨k, fl, fr, l, r, xs, rfl, hk, h1, h2, hT, q⟩ := h
  let X := cxOf CX0 P w K mg base nmRC "ready_comparison" (defScope sRC) f (.ref c) A outer s H E
  have TBx : TabB X.base X.mg c Pt := TB
  refine ⟨_, prs_cons (pr_if (pt_cmpR op_eq (pv 0) pe_str (nomark _)) (prs_one (pr_ret (pe_lamb TBx rfl hm rfl hu rfl (ndef_free (sc := defScope sRC) (fr := []) (by decide +kernel))))) prs_nil)
    (prs_one (pr_ret (pe_lamb TBx rfl hm rfl hu rfl (ndef_free (sc := defScope sRC) (fr := []) (by decide +kernel))))), ?_⟩
  rcases hk with rfl | rfl
  · refine ⟨_, rfl, rfl, _, rfl, itT eq_str ⟨hT, fun g c' H1 eN nn T1 f0 f1 c1 H2 sm R _ inj => ?_⟩⟩
    obtain ⟨C, cn⟩ := caps_ret (F := mkRC lamIs s.heap.objs.size c') (ws := [.ref fl, .ref fr]) R inj rfl scIs (by decide +kernel) rfl fun i y e => match i, e with | 0, e => by cases e; exact ⟨1, _, rfl, rfl, rfl⟩ | 1, e => by cases e; exact ⟨2, _, rfl, rfl, rfl⟩ | _ + 2, e => by cases e
    exact q g H2 ⟨eN.trans (ExtN.of sm), fun b z => nn b (same_no sm b z), T1.ext sm⟩ (fun _ => ⟨_, fl, fr, ⟨sm _ _ f1, rfl, rfl, rfl, sm _ _ c1⟩, C, (h1.ext eN).ext (ext_hid sm cn), (h2.ext eN).ext (ext_hid sm cn)⟩) fun z => absurd z (by decide)
  · refine ⟨_, rfl, rfl, _, rfl, itF (ne_str (by decide)) ⟨hT, fun g c' H1 eN nn T1 f0 f1 c1 H2 sm R _ inj => ?_⟩⟩
    obtain ⟨C, cn⟩ := caps_ret (F := mkRC lamBe s.heap.objs.size c') (ws := [.ref fl, .ref fr]) R inj rfl scBe (by decide +kernel) rfl fun i y e => match i, e with | 0, e => by cases e; exact ⟨1, _, rfl, rfl, rfl⟩ | 1, e => by cases e; exact ⟨2, _, rfl, rfl, rfl⟩ | _ + 2, e => by cases e
    exact q g H2 ⟨eN.trans (ExtN.of sm), fun b z => nn b (same_no sm b z), T1.ext sm⟩ (fun z => absurd z (by decide)) fun _ => ⟨_, fl, fr, ⟨sm _ _ f1, rfl, rfl, rfl, sm _ _ c1⟩, C, (h1.ext eN).ext (ext_hid sm cn), (h2.ext eN).ext (ext_hid sm cn)⟩
theorem no_rt {k : Nat} : FnOk P w K mg base CX0 k f fd psRT (spRT T (DeedIs P w K mg base) 0) := by
  have no : ∀ vs H Q E, ¬ spRT T (DeedIs P w K mg base) 0 vs H Q E := fun vs H Q E h => by
    obtain ⟨v, o, e, xs, _, _, hd, _⟩ := h
    cases e <;> exact absurd hd (by show ¬ _ ≤ 0; exact Nat.not_succ_le_zero _)
  exact ⟨fun vs H Q E h => absurd h (no vs H Q E), fun A outer s H args us vs Q E _ _ _ _ h => absurd h (no vs H Q E)⟩
theorem ok_rt {n : Nat} (F : FunC K "ready_test" "ready_test" sRT f fd c) (TB : TabB base mg c Pt) (hm : (Pt, fun _ _ => qRT) ∈ T) (hu : ∀ p ∈ T, p.1 = Pt → p.2 = fun _ _ => qRT) (G : FnOk P w K mg base CX0 (n + 7) f fd psRT (spRT T (DeedIs P w K mg base) n)) (mG : mg "ready_test" = some (.ref f)) (bG : Binds K fd psRT [])
    (GW : FnOk P w K mg base CX0 7 rw_ rwd psReady (spReady T (DeedIs P w K mg base) 6)) (mW : mg "ready_worth" = some (.ref rw_)) (kW : PySem.W.keepIn K (.ref rw_) = true) (bW : Binds K rwd psReady [])
    (GC : FnOk P w K mg base CX0 1 rc rcd nmRC (spRC T (DeedIs P w K mg base))) (mC : mg "ready_comparison" = some (.ref rc)) (kC : PySem.W.keepIn K (.ref rc) = true) (bC : Binds K rcd nmRC []) : FnOk P w K mg base CX0 (n + 8) f fd psRT (spRT T (DeedIs P w K mg base) (n + 1)) := by
  refine fun_c F scRT (fun vs H Q E h => ?_) (fun A outer s H vs Q E hr h => ?_)
  · obtain ⟨v, o, e, xs, rfl, _⟩ := h
    rfl
  obtain ⟨v, o, e, xs, rfl, hv, hd, hg, ho, hT, q⟩ := h
  let X := cxOf CX0 P w K mg base nmRT "ready_test" (defScope sRT) f (.ref c) A outer s H E
  have TBx : TabB X.base X.mg c Pt := TB
  have hr7 : Room 7 (A.deeper (envOfC "ready_test" (defScope sRT) s.heap.objs.size f (.ref c))) := hr.mono (by omega)
  have hr1 : Room 1 (A.deeper (envOfC "ready_test" (defScope sRT) s.heap.objs.size f (.ref c))) := hr.mono (by omega)
  have two : 2 ≤ sizeLine := by decide
  refine ⟨_, prs_cons (pr_go (ps_set (i := 2) scRT.nd rfl (Or.inl rfl) (pe_ix ix_tup (pv 0) pe_int (fun _ _ => rfl))))
    (prs_cons (pr_if (pt_cmpR op_eq (pv 2) pe_str (nomark _)) (prs_cons (pr_go (ps_set (i := 3) scRT.nd rfl (Or.inr rfl) (pe_call G hr rfl mG F.kp bG .nil pass0 (pa_cons (pe_ix ix_tup (pv 0) pe_int (fun _ _ => rfl)) (pa_cons (pv 1) pa_nil))))) (prs_one (pr_ret (pe_lamb TBx rfl hm rfl hu rfl (ndef_free (sc := defScope sRT) (fr := []) (by decide +kernel)))))) prs_nil)
    (prs_cons (pr_if (pt_cmpR op_in_seq (pv 2) (pe_tup (pa_cons pe_str (pa_cons pe_str pa_nil))) (by rfl)) (prs_one (pr_ret (pe_call GC hr1 rfl mC kC bC .nil pass0 (pa_cons (pv 2) (pa_cons (pe_call GW hr7 rfl mW kW bW .nil pass0 (pa_cons (pe_ix ix_tup (pv 0) pe_int (fun _ _ => rfl)) (pa_cons (pv 1) pa_nil))) (pa_cons (pe_call GW hr7 rfl mW kW bW .nil pass0 (pa_cons (pe_ix ix_tup (pv 0) pe_int (fun _ _ => rfl)) (pa_cons (pv 1) pa_nil))) pa_nil)))))) prs_nil)
    (prs_cons (pr_go (ps_set (i := 4) scRT.nd rfl (Or.inr rfl) (pe_call G hr rfl mG F.kp bG .nil pass0 (pa_cons (pe_ix ix_tup (pv 0) pe_int (fun _ _ => rfl)) (pa_cons (pv 1) pa_nil)))))
    (prs_cons (pr_go (ps_set (i := 5) scRT.nd rfl (Or.inr rfl) (pe_call G hr rfl mG F.kp bG .nil pass0 (pa_cons (pe_ix ix_tup (pv 0) pe_int (fun _ _ => rfl)) (pa_cons (pv 1) pa_nil)))))
    (prs_cons (pr_if (pt_cmpR op_eq (pv 2) pe_str (nomark _)) (prs_one (pr_ret (pe_lamb TBx rfl hm rfl hu rfl (ndef_free (sc := defScope sRT) (fr := []) (by decide +kernel))))) prs_nil)
    (prs_one (pr_ret (pe_lamb TBx rfl hm rfl hu rfl (ndef_free (sc := defScope sRT) (fr := []) (by decide +kernel)))))))))), ?_⟩
  cases hv with
  | nt h h1 =>
    rename_i p0 x l
    refine ⟨_, rfl, _, _, _, _, rfl, rfl, SqT.of h, atI_nat (j := 0) rfl, ?_⟩
    refine ⟨_, rfl, rfl, _, rfl, itT eq_str ?_⟩
    refine ⟨_, rfl, _, _, _, _, rfl, rfl, SqT.of h, atI_nat (j := 1) rfl, _, rfl, x, o, l, xs, rfl, h1, Nat.le_of_succ_le_succ hd, hg, ho, hT, fun fi H1 g1 cl1 => ?_⟩
    refine ⟨g1.tabs, fun g c' H2 eN nn T2 f0 f1 c1 H3 sm R _ inj => ?_⟩
    obtain ⟨C, cn⟩ := caps_ret (F := mkRT lamNt s.heap.objs.size c') (ws := [.ref fi]) R inj rfl scNt (by decide +kernel) rfl fun i y e => match i, e with | 0, e => by cases e; exact ⟨3, _, rfl, rfl, rfl⟩ | _ + 1, e => by cases e
    exact q g H3 ⟨(g1.ext.trans eN).trans (ExtN.of sm), fun b z => g1.no b (nn b (same_no sm b z)), T2.ext sm⟩ ⟨_, fi, ⟨sm _ _ f1, rfl, rfl, rfl, sm _ _ c1⟩, C, (cl1.ext eN).ext (ext_hid sm cn)⟩
  | both h h1 h2 =>
    rename_i p0 x y l r
    have dl : l.deep ≤ n := Nat.le_trans (Nat.le_max_left ..) (Nat.le_of_succ_le_succ hd)
    have dr : r.deep ≤ n := Nat.le_trans (Nat.le_max_right ..) (Nat.le_of_succ_le_succ hd)
    refine ⟨_, rfl, _, _, _, _, rfl, rfl, SqT.of h, atI_nat (j := 0) rfl, ?_⟩
    refine ⟨_, rfl, rfl, _, rfl, itF (ne_str (by decide)) ?_⟩
    refine ⟨_, rfl, two, fun p hp => ⟨p, _, rfl, .inr (SqT.of upd_same), rfl, rfl, _, rfl, itF rfl ?_⟩⟩
    have g0 := Gr.of hT (same_new hp (.tup [.str "is", .str "below"]))
    refine ⟨_, rfl, _, _, _, _, rfl, rfl, SqT.of (g0.tup h), atI_nat (j := 1) rfl, _, rfl, x, o, l, xs, rfl, h1.keep g0.tups, dl, hg.1, g0.lst ho, g0.tabs, fun fl H1 g1 cl1 => ?_⟩
    have g01 := g0.trans g1
    refine ⟨_, rfl, _, _, _, _, rfl, rfl, SqT.of (g01.tup h), atI_nat (j := 2) rfl, _, rfl, y, o, r, xs, rfl, h2.keep g01.tups, dr, hg.2, g01.lst ho, g01.tabs, fun fr H2 g2 cl2 => ?_⟩
    have g02 := g01.trans g2
    refine ⟨_, rfl, rfl, _, rfl, itT eq_str ⟨g02.tabs, fun g c' H3 eN nn T3 f0 f1 c1 H4 sm R _ inj => ?_⟩⟩
    obtain ⟨C, cn⟩ := caps_ret (F := mkRT lamBo s.heap.objs.size c') (ws := [.ref fl, .ref fr]) R inj rfl scBo (by decide +kernel) rfl fun i y e => match i, e with | 0, e => by cases e; exact ⟨4, _, rfl, rfl, rfl⟩ | 1, e => by cases e; exact ⟨5, _, rfl, rfl, rfl⟩ | _ + 2, e => by cases e
    exact q g H4 ⟨(g02.ext.trans eN).trans (ExtN.of sm), fun b z => g02.no b (nn b (same_no sm b z)), T3.ext sm⟩ ⟨_, fl, fr, ⟨sm _ _ f1, rfl, rfl, rfl, sm _ _ c1⟩, C, ((cl1.ext g2.ext).ext eN).ext (ext_hid sm cn), (cl2.ext eN).ext (ext_hid sm cn)⟩
  | either h h1 h2 =>
    rename_i p0 x y l r
    have dl : l.deep ≤ n := Nat.le_trans (Nat.le_max_left ..) (Nat.le_of_succ_le_succ hd)
    have dr : r.deep ≤ n := Nat.le_trans (Nat.le_max_right ..) (Nat.le_of_succ_le_succ hd)
    refine ⟨_, rfl, _, _, _, _, rfl, rfl, SqT.of h, atI_nat (j := 0) rfl, ?_⟩
    refine ⟨_, rfl, rfl, _, rfl, itF (ne_str (by decide)) ?_⟩
    refine ⟨_, rfl, two, fun p hp => ⟨p, _, rfl, .inr (SqT.of upd_same), rfl, rfl, _, rfl, itF rfl ?_⟩⟩
    have g0 := Gr.of hT (same_new hp (.tup [.str "is", .str "below"]))
    refine ⟨_, rfl, _, _, _, _, rfl, rfl, SqT.of (g0.tup h), atI_nat (j := 1) rfl, _, rfl, x, o, l, xs, rfl, h1.keep g0.tups, dl, hg.1, g0.lst ho, g0.tabs, fun fl H1 g1 cl1 => ?_⟩
    have g01 := g0.trans g1
    refine ⟨_, rfl, _, _, _, _, rfl, rfl, SqT.of (g01.tup h), atI_nat (j := 2) rfl, _, rfl, y, o, r, xs, rfl, h2.keep g01.tups, dr, hg.2, g01.lst ho, g01.tabs, fun fr H2 g2 cl2 => ?_⟩
    have g02 := g01.trans g2
    refine ⟨_, rfl, rfl, _, rfl, itF (ne_str (by decide)) ⟨g02.tabs, fun g c' H3 eN nn T3 f0 f1 c1 H4 sm R _ inj => ?_⟩⟩
    obtain ⟨C, cn⟩ := caps_ret (F := mkRT lamEi s.heap.objs.size c') (ws := [.ref fl, .ref fr]) R inj rfl scEi (by decide +kernel) rfl fun i y e => match i, e with | 0, e => by cases e; exact ⟨4, _, rfl, rfl, rfl⟩ | 1, e => by cases e; exact ⟨5, _, rfl, rfl, rfl⟩ | _ + 2, e => by cases e
    exact q g H4 ⟨(g02.ext.trans eN).trans (ExtN.of sm), fun b z => g02.no b (nn b (same_no sm b z)), T3.ext sm⟩ ⟨_, fl, fr, ⟨sm _ _ f1, rfl, rfl, rfl, sm _ _ c1⟩, C, ((cl1.ext g2.ext).ext eN).ext (ext_hid sm cn), (cl2.ext eN).ext (ext_hid sm cn)⟩
  | is h h1 h2 =>
    rename_i p0 x y l r
    refine ⟨_, rfl, _, _, _, _, rfl, rfl, SqT.of h, atI_nat (j := 0) rfl, ?_⟩
    refine ⟨_, rfl, rfl, _, rfl, itF (ne_str (by decide)) ?_⟩
    refine ⟨_, rfl, two, fun p hp => ⟨p, _, rfl, .inr (SqT.of upd_same), rfl, rfl, _, rfl, itT rfl ?_⟩⟩
    have g0 := Gr.of hT (same_new hp (.tup [.str "is", .str "below"]))
    refine ⟨_, rfl, _, rfl, _, _, _, _, rfl, rfl, SqT.of (g0.tup h), atI_nat (j := 1) rfl, _, rfl, x, o, l, xs, rfl, h1.keep g0.tups, hg.1.2, hg.1.1, g0.lst ho, g0.tabs, fun fl H1 g1 cl1 => ?_⟩
    have g01 := g0.trans g1
    refine ⟨_, rfl, _, _, _, _, rfl, rfl, SqT.of (g01.tup h), atI_nat (j := 2) rfl, _, rfl, y, o, r, xs, rfl, h2.keep g01.tups, hg.2.2, hg.2.1, g01.lst ho, g01.tabs, fun fr H2 g2 cl2 => ?_⟩
    have g02 := g01.trans g2
    refine ⟨"is", fl, fr, l, r, xs, rfl, .inl rfl, cl1.ext g2.ext, cl2, g02.tabs, fun g H3 g3 c3 _ H4 sm _ _ _ => ?_⟩
    exact q g H4 ((g02.trans g3).same sm) ((c3 rfl).ext (ExtN.of sm))
  | bel h h1 h2 =>
    rename_i p0 x y l r
    refine ⟨_, rfl, _, _, _, _, rfl, rfl, SqT.of h, atI_nat (j := 0) rfl, ?_⟩
    refine ⟨_, rfl, rfl, _, rfl, itF (ne_str (by decide)) ?_⟩
    refine ⟨_, rfl, two, fun p hp => ⟨p, _, rfl, .inr (SqT.of upd_same), rfl, rfl, _, rfl, itT rfl ?_⟩⟩
    have g0 := Gr.of hT (same_new hp (.tup [.str "is", .str "below"]))
    refine ⟨_, rfl, _, rfl, _, _, _, _, rfl, rfl, SqT.of (g0.tup h), atI_nat (j := 1) rfl, _, rfl, x, o, l, xs, rfl, h1.keep g0.tups, hg.1.2, hg.1.1, g0.lst ho, g0.tabs, fun fl H1 g1 cl1 => ?_⟩
    have g01 := g0.trans g1
    refine ⟨_, rfl, _, _, _, _, rfl, rfl, SqT.of (g01.tup h), atI_nat (j := 2) rfl, _, rfl, y, o, r, xs, rfl, h2.keep g01.tups, hg.2.2, hg.2.1, g01.lst ho, g01.tabs, fun fr H2 g2 cl2 => ?_⟩
    have g02 := g01.trans g2
    refine ⟨"below", fl, fr, l, r, xs, rfl, .inr rfl, cl1.ext g2.ext, cl2, g02.tabs, fun g H3 g3 _ c3 H4 sm _ _ _ => ?_⟩
    exact q g H4 ((g02.trans g3).same sm) ((c3 rfl).ext (ExtN.of sm))
theorem all_rt (F : FunC K "ready_test" "ready_test" sRT f fd c) (TB : TabB base mg c Pt) (hm : (Pt, fun _ _ => qRT) ∈ T) (hu : ∀ p ∈ T, p.1 = Pt → p.2 = fun _ _ => qRT) (mG : mg "ready_test" = some (.ref f)) (bG : Binds K fd psRT [])
    (GW : FnOk P w K mg base CX0 7 rw_ rwd psReady (spReady T (DeedIs P w K mg base) 6)) (mW : mg "ready_worth" = some (.ref rw_)) (kW : PySem.W.keepIn K (.ref rw_) = true) (bW : Binds K rwd psReady [])
    (GC : FnOk P w K mg base CX0 1 rc rcd nmRC (spRC T (DeedIs P w K mg base))) (mC : mg "ready_comparison" = some (.ref rc)) (kC : PySem.W.keepIn K (.ref rc) = true) (bC : Binds K rcd nmRC []) : ∀ n : Nat, FnOk P w K mg base CX0 (n + 7) f fd psRT (spRT T (DeedIs P w K mg base) n)
  | 0 => no_rt
  | n + 1 => ok_rt F TB hm hu (all_rt F TB hm hu mG bG GW mW kW bW GC mC kC bC n) mG bG GW mW kW bW GC mC kC bC
end
/-! ### holds -/
abbrev sHolds : Stmt := top 8
abbrev nmHolds : List Str := ["test", "boxes", "asked", "told", "holds_by"]
abbrev psH : List Str := ["test", "boxes", "asked", "told"]
theorem scHolds : FnScope nmHolds psH (defScope sHolds) := ⟨rfl, rfl, rfl, by decide +kernel, rfl, by decide +kernel, by decide +kernel⟩
def spHolds (T : List NTab) (n : Nat) : Sp := fun vs H Q _ => ∃ (v : V) (c : Addr) (e : Ts) (kvs : List (Str × Int)) (xs : List Str) (a t : Int), vs = [v, .ref c, .int a, .int t] ∧ TsAt H v e ∧ e.deep ≤ n ∧ e.good xs ∧ Bx kvs xs ∧
  H c = some (.dK (bx kvs)) ∧ (0 ≤ a ∧ a < 1024) ∧ (0 ≤ t ∧ t < 1024) ∧ TabsN T H ∧ ∀ H', Gr T H H' → Q (.bl (e.val kvs a t)) H'
theorem Ts.good_of {kvs : List (Str × Int)} {xs : List Str} (B : Bx kvs xs) : ∀ {e : Ts}, e.good xs → e.good (namesOf kvs)
  | .is _ _, h => ⟨⟨Ex.good_of B h.1.1, h.1.2⟩, Ex.good_of B h.2.1, h.2.2⟩
  | .bel _ _, h => ⟨⟨Ex.good_of B h.1.1, h.1.2⟩, Ex.good_of B h.2.1, h.2.2⟩
  | .nt t, h => Ts.good_of (e := t) B h
  | .both _ _, h => ⟨Ts.good_of B h.1, Ts.good_of B h.2⟩
  | .either _ _, h => ⟨Ts.good_of B h.1, Ts.good_of B h.2⟩
section
variable {P : Program} {w : World} {K : PySem.W.Frag} {mg : Str → Option Value} {base : Heap} {f rf : Addr} {fd rd : FuncData} {T : List NTab}
theorem ok_holds {n : Nat} {kws : List (Str × V)} (F : FunD K "holds" "holds" (defArgs sHolds) (defBody sHolds) (defScope sHolds) [] kws f fd) (G : FnOk P w K mg base CX0 (n + 7) rf rd psRT (spRT T (DeedIs P w K mg base) n)) (mR : mg "ready_test" = some (.ref rf)) (kR : PySem.W.keepIn K (.ref rf) = true) (bR : Binds K rd psRT [])
    (ml : mg "list" = none) : FnOk P w K mg base CX0 (n + 8) f fd psH (spHolds T n) := by
  refine F.ok scHolds (fun vs H Q E h => ?_) (fun cdv A outer s H vs Q E hr h => ?_)
  · obtain ⟨v, c, e, kvs, xs, a, t, rfl, _⟩ := h
    rfl
  obtain ⟨v, c, e, kvs, xs, a, t, rfl, hv, hd, hg, B, hc, ha, ht, hT, q⟩ := h
  refine ⟨_, PSs.nox (pss_cons (ps_set (i := 4) scHolds.nd rfl (Or.inl rfl) (pe_call G hr rfl mR kR bR .nil pass0 (pa_cons (pv 0) (pa_cons (pe_callTy (call_listD rfl) rfl ml (by decide +kernel) (pa_cons (pv 1) pa_nil)) pa_nil))))
    (pss_one (ps_ret (pe_callL (i := 4) (all_cloT n) hr rfl (.inl rfl) (pa_cons (pe_listVals rfl (pv 1) rfl ml (by decide +kernel)) (pa_cons (pv 2) (pa_cons (pv 3) pa_nil))))))), ?_⟩
  refine ⟨_, rfl, _, rfl, c, _, rfl, .inl hc, fun p1 hp1 => ?_⟩
  rw [bx_names]
  have s1 := same_new hp1 (.lst ((namesOf kvs).map V.str))
  refine ⟨v, p1, e, namesOf kvs, rfl, hv.keep (Same.tups s1), hd, Ts.good_of B hg, upd_same, hT.ext s1, fun g H2 g2 cl => ?_⟩
  have gr := (Gr.of hT s1).trans g2
  refine ⟨g, rfl, cl.lm, _, rfl, c, _, rfl, gr.dK hc, fun p3 hp3 => ?_⟩
  rw [bx_nums]
  have s3 := same_new hp3 (.lst (numsV kvs))
  have cl3 := cl.ext (ExtN.of s3)
  exact ⟨_, rfl, _, rfl, cl3.lm, e, kvs, xs, p3, a, t, rfl, hd, upd_same, cl3, hg, B, ha, ht, q _ (gr.same s3)⟩
theorem kb_holds {kws : List (Str × V)} (F : FunD K "holds" "holds" (defArgs sHolds) (defBody sHolds) (defScope sHolds) [] kws f fd) : KBn K fd psH 2 ["asked", "told"] (fun us ws => us ++ ws) (fun us ws => us ++ ws) := by
  obtain ⟨oc, od, dV, kV, doc, pm, an, cdv, ct, osl, rfl, lk, hcd, hD, hK⟩ := F.ex
  have hd : dV = .none := hD.elim (fun z => z.2) (fun z => absurd rfl z.1)
  subst hd
  refine ⟨fun s us ws _ l1 l2 => ?_, fun r1 r2 => r1.append r2⟩
  match us, ws, l1, l2 with
  | [u1, u2], [w1, w2], _, _ => exact .of_eq rfl
end
end Any
namespace Any
open L2 PySem PySem.Spec PyProof.Rows LamX NdefX
theorem small {n : Nat} (h : n ≤ 1000) : n ≤ sizeLine := Nat.le_of_lt (small1000 h)
/-! ### defs by their names -/
section
variable (P : Program) (w : World) (K : PySem.W.Frag) (mg : Str → Option Value) (base : Heap)
/-- the name x of the module holds this def -/
def Nd (x : Str) (st : Stmt) (ps : List Str) : Prop := ∃ f fd, mg x = some (.ref f) ∧ Fun K x x st f fd ∧ Binds K fd ps []
/-- .. one that keeps this promise -/
def Df (k : Nat) (x : Str) (ps : List Str) (sp : Sp) : Prop := ∃ f fd, mg x = some (.ref f) ∧ PySem.W.keepIn K (.ref f) = true ∧ FnOk P w K mg base CX0 k f fd ps sp ∧ Binds K fd ps []
/-- .. where no repr is under way -/
def DfG (k : Nat) (x : Str) (ps : List Str) (sp : Sp) : Prop := ∃ f fd, mg x = some (.ref f) ∧ PySem.W.keepIn K (.ref f) = true ∧ FnG P w K mg base CX0 k f fd ps sp ∧ Binds K fd ps []
/-- a method of the class at C -/
def Mf (C : Addr) (k : Nat) (m : Str) (ps : List Str) (sp : Sp) : Prop := ∃ f fd, Meth K C m f ∧ FnOk P w K mg base CX0 k f fd ps sp ∧ Binds K fd ps []
end
section
variable {X : Cx} {k : Nat} {x m : Str} {C : Addr} {ps : List Str} {sp : Sp} {p pos apos : Pos} {e o : Expr} {es : List Expr} {t : TA} {ta : TE}
theorem pe_D (D : Df X.prog X.w X.K X.mg X.base k x ps sp) (hr : Room k X.A) (hg : Gl X x) (ha : PA X (e :: es) t) (hdb : (x == ("__debug__" : Str)) = false := by decide)
    (he : starEach (e :: es) X.env = (false, eval e X.env) :: starEach es X.env := by rfl) (hpl : (backTo pos (starEach es X.env)).any (·.1) = false := by rfl) : PE X (.Call (.Name x p) (e :: es) [] pos) (tCall sp [] E0 t) := by
  obtain ⟨f, fd, hm, hk, F, hb⟩ := D
  exact pe_call F hr hg hm hk hb .nil pass0 ha hdb he hpl
theorem pe_DG (D : DfG X.prog X.w X.K X.mg X.base k x ps sp) (hG : X.A.guards = some []) (hr : Room k X.A) (hg : Gl X x) (ha : PA X (e :: es) t) (hdb : (x == ("__debug__" : Str)) = false := by decide)
    (he : starEach (e :: es) X.env = (false, eval e X.env) :: starEach es X.env := by rfl) (hpl : (backTo pos (starEach es X.env)).any (·.1) = false := by rfl) : PE X (.Call (.Name x p) (e :: es) [] pos) (tCall sp [] E0 t) := by
  obtain ⟨f, fd, hm, hk, F, hb⟩ := D
  exact pe_callG F hG hr hg hm hk hb .nil pass0 ha hdb he hpl
theorem pe_M {pl : Sem Bool} (D : Mf X.prog X.w X.K X.mg X.base C k m ps sp) (c : Cls X.K C) (he : PE X o ta) (hr : Room k X.A) (ha : PA X (e :: es) t)
    (hst : starEach (e :: es) X.env = (false, eval e X.env) :: starEach es X.env := by rfl) (hpl : (backTo pos (starEach es X.env)).any (·.1) = false := by rfl)
    (ht : eval (.Call (.Attribute o m apos) (e :: es) [] pos) X.env = (do
      let ov ← eval o X.env
      standAt apos.atName
      let (f, first) ← holding [ov] (getMethod ov m pl)
      callWith pos f first (backTo pos (starEach (e :: es) X.env)) (backToKw pos (keywordEach [] X.env))) := by rfl) :
    PE X (.Call (.Attribute o m apos) (e :: es) [] pos) (tMeth C m sp [] E0 ta t) := by
  obtain ⟨f, fd, hm, F, hb⟩ := D
  exact pe_meth he c hm F hr hb .nil pass0 ha hst hpl ht
end
section
variable {P : Program} {w : World} {K : PySem.W.Frag} {mg : Str → Option Value} {base : Heap}
theorem Df.mono {j k : Nat} {x : Str} {ps : List Str} {sp : Sp} (D : Df P w K mg base j x ps sp) (h : j ≤ k) : Df P w K mg base k x ps sp := by
  obtain ⟨f, fd, hm, hk, F, hb⟩ := D
  exact ⟨f, fd, hm, hk, F.mono h, hb⟩
end
theorem itD {c A B : Prop} [Decidable c] (h1 : c → A) (h2 : ¬ c → B) : if decide c = true then A else B := ite2 (fun z => h1 (of_decide_eq_true z)) fun z => h2 fun q => z (decide_eq_true q)
theorem itN {c A B : Prop} [Decidable c] (h1 : ¬ c → A) (h2 : c → B) : if (!decide c) = true then A else B := by
  by_cases h : c
  · rw [decide_eq_true h]
    exact itF rfl (h2 h)
  · rw [decide_eq_false h]
    exact itT rfl (h1 h)
theorem itEq {i j : Int} {A B : Prop} (h1 : i = j → A) (h2 : i ≠ j → B) : if decide (V.int i = V.int j) = true then A else B := itD (fun z => h1 (V.int.inj z)) fun z => h2 fun q => z (by rw [q])
theorem itNe {i j : Int} {A B : Prop} (h1 : i ≠ j → A) (h2 : i = j → B) : if (!decide (V.int i = V.int j)) = true then A else B := itN (fun z => h1 fun q => z (by rw [q])) fun z => h2 (V.int.inj z)
theorem kept_same {l : Addr} {H H1 H2 : Hp} (s : Same H H1) (n : H l = none) (k : Kept l H1 H2) : Same H H2 := fun a o h => k a o (ne_of_none h n) (s a o h)
abbrev sBag : Stmt := top 90
abbrev sTake : Stmt := top 91
theorem scBag : FnScope ["_law_script", "_law_at", "_law_cell", "_law_far"] ["_law_script", "_law_at"] (defScope sBag) := ⟨rfl, rfl, rfl, by decide +kernel, rfl, by decide +kernel, by decide +kernel⟩
theorem scTake : FnScope ["_law_bag_here", "_law_many", "_law_digit", "_law_primes", "_law_turn", "_law_base", "_law_mixed"] ["_law_bag_here", "_law_many"] (defScope sTake) := ⟨rfl, rfl, rfl, by decide +kernel, rfl, by decide +kernel, by decide +kernel⟩
/-- a bag from which so many may still be taken -/
def Bag (H : Hp) (b : Addr) (k : Nat) : Prop := ∃ g s c : Int, H b = some (.lst [.int g, .int s, .int c]) ∧ 0 ≤ g ∧ 0 ≤ s ∧ s < 2 ^ 62 ∧ 0 ≤ c ∧ c + k < 2 ^ 40
theorem Bag.less {H : Hp} {b : Addr} {m n : Nat} (h : Bag H b m) (k : n ≤ m) : Bag H b n := by
  obtain ⟨g, s, c, h1, h2, h3, h4, h5, h6⟩ := h
  exact ⟨g, s, c, h1, h2, h3, h4, h5, by omega⟩
theorem Bag.keep {H H' : Hp} {b : Addr} {n : Nat} (h : Bag H b n) (k : Same H H') : Bag H' b n := by
  obtain ⟨g, s, c, h1, h2⟩ := h
  exact ⟨g, s, c, k _ _ h1, h2⟩
theorem Bag.keepX {H H' : Hp} {b x : Addr} {n : Nat} (h : Bag H b n) (k : Kept x H H') (ne : b ≠ x) : Bag H' b n := by
  obtain ⟨g, s, c, h1, h2⟩ := h
  exact ⟨g, s, c, k _ _ ne h1, h2⟩
theorem Bag.lst {H : Hp} {b : Addr} {n : Nat} (h : Bag H b n) : ∃ xs, H b = some (.lst xs) := by
  obtain ⟨g, s, c, h1, h2⟩ := h
  exact ⟨_, h1⟩
theorem Bag.tups {H H' : Hp} {b : Addr} {n : Nat} (h : Bag H b n) (k : Kept b H H') : Tups H H' := by
  obtain ⟨xs, h⟩ := h.lst
  exact k.tups h
theorem Bag.ne {H : Hp} {b p : Addr} {n : Nat} (h : Bag H b n) (k : H p = none) : p ≠ b := by
  obtain ⟨xs, h⟩ := h.lst
  intro e
  rw [e, h] at k
  cases k
theorem Bag.put {H : Hp} {b p : Addr} {n : Nat} {o : HO} (h : Bag H b n) (ne : b ≠ p) : Bag (upd H p o) b n := by
  obtain ⟨g, s, c, h1, h2⟩ := h
  exact ⟨g, s, c, by rw [upd_ne ne]; exact h1, h2⟩
def spBag (K : PySem.W.Frag) : Sp := fun vs H Q _ => ∃ (a : Addr) (ns : List Int) (k : Int), vs = [.ref a, .int k] ∧ SqL K H a (ns.map V.int) ∧ 0 ≤ k ∧ k < 64 ∧ ∀ (b : Addr) (H' : Hp), H b = none → Same H H' → Bag H' b 1000000000 → Q (.ref b) H'
def spTake : Sp := fun vs H Q _ => ∃ (b : Addr) (m : Int) (n : Nat), vs = [.ref b, .int m] ∧ Bag H b (n + 1) ∧ 1 ≤ m ∧ m ≤ 1000000 ∧
  ∀ (d : Int) (H' : Hp), Kept b H H' → Bag H' b n → 0 ≤ d → d < m → Q (.int d) H'
def primes : List Int := [2147483647, 2147483629, 2147483587, 2147483579, 2147483563, 2147483549, 2147483543]
theorem prime_at {r : Int} (h0 : 0 ≤ r) (h1 : r < 7) : ∃ p : Int, atI (primes.map V.int) r = some (.int p) ∧ 0 < p ∧ p < 2 ^ 31 := by
  have : r = 0 ∨ r = 1 ∨ r = 2 ∨ r = 3 ∨ r = 4 ∨ r = 5 ∨ r = 6 := by omega
  rcases this with rfl | rfl | rfl | rfl | rfl | rfl | rfl <;> exact ⟨_, rfl, by decide, by decide⟩
theorem base_bits {s c : Int} (h1 : 0 ≤ s) (h2 : s < 2 ^ 62) (h3 : 0 ≤ c) (h4 : c < 2 ^ 40) : CPowW (s * (2 * c + 1) + 4603 * c * c + 67) 3 := by
  refine ⟨by decide, ?_⟩
  have a1 : 0 ≤ s * (2 * c + 1) := Int.mul_nonneg h1 (by omega)
  have a2 : s * (2 * c + 1) ≤ 2 ^ 62 * 2 ^ 42 := Int.mul_le_mul (by omega) (by omega) (by omega) (by decide)
  have a3 : 0 ≤ 4603 * c * c := Int.mul_nonneg (by omega) h3
  have a4 : 4603 * c * c ≤ 2 ^ 53 * 2 ^ 40 := Int.mul_le_mul (by omega) (by omega) h3 (by decide)
  have b : (s * (2 * c + 1) + 4603 * c * c + 67).natAbs < 2 ^ 110 := by
    generalize s * (2 * c + 1) = x at *
    generalize 4603 * c * c = y at *
    omega
  have c1 := intBits_le b
  omega
section
variable {P : Program} {w : World} {K : PySem.W.Frag} {mg : Str → Option Value} {base : Heap} {f : Addr} {fd : FuncData}
theorem ok_bag (ml : mg "len" = none) (ma : mg "abs" = none) (mi : mg "int" = none) (F : Fun K "_law_bag" "_law_bag" sBag f fd) : FnOk P w K mg base CX0 1 f fd ["_law_script", "_law_at"] (spBag K) := by
  refine F.ok scBag (fun vs H Q E h => ?_) (fun cdv A outer s H vs Q E hr h => ?_)
  · obtain ⟨a, ns, k, rfl, _⟩ := h
    rfl
  obtain ⟨a, ns, k, rfl, hS, h0, h1, q⟩ := h
  have fin : ∀ cell : Int, ∀ (b : Addr), H b = none → Q (.ref b) (upd H b (.lst [.int ((if cell < 0 then -cell else cell) * (if decide ((10 : Int) ^ (18 : Int).toNat ≤ (if cell < 0 then -cell else cell)) = true then 1 else 0)), .int (cell % 1000000000000000003 + 4093 * k * k + 59 * k + 47), .int 0])) := fun cell b hb => by
    refine q b _ hb (same_new hb _) ⟨_, _, _, upd_same, ?_, ?_, ?_, Int.le_refl 0, by decide⟩
    · refine Int.mul_nonneg (by split <;> omega) (by split <;> omega)
    · have z := Int.emod_nonneg cell (show (1000000000000000003 : Int) ≠ 0 by decide)
      have z2 : 0 ≤ 4093 * k * k := Int.mul_nonneg (Int.mul_nonneg (by decide) h0) h0
      omega
    · have z := Int.emod_lt_of_pos cell (show (0 : Int) < 1000000000000000003 by decide)
      have z2 : 4093 * k * k ≤ 4093 * 64 * 64 := by
        have a1 : 4093 * k ≤ 4093 * 64 := by omega
        have a2 : 4093 * k * k ≤ 4093 * 64 * k := Int.mul_le_mul_of_nonneg_right a1 h0
        have a3 : 4093 * 64 * k ≤ 4093 * 64 * 64 := by omega
        omega
      omega
  have one : ∀ c : Bool, -(2 ^ 64) < (if c = true then (1 : Int) else 0) ∧ (if c = true then (1 : Int) else 0) < 2 ^ 64 := fun c => by cases c <;> decide
  obtain ⟨tT, hT, leafT⟩ : ∃ t, PSs (cxOf CX0 P w K mg base ["_law_script", "_law_at", "_law_cell", "_law_far"] "_law_bag" (defScope sBag) f cdv A outer s H E).nox ((defBody sBag).drop 2) t ∧ ∀ cell : Int, t { nx := fun _ H' => Q .non H', rt := Q } [some (.ref a), some (.int k), some (.int cell), none] H := by
    refine ⟨_, pss_cons (ps_set (i := 3) scBag.nd rfl (Or.inl rfl) (pe_callB call_abs rfl ma (by decide +kernel) (pa_cons (pv 2) pa_nil)))
      (pss_one (ps_ret (pe_lst (pa_cons (pe_op op_mul (pv 3) (pe_callTy call_int1 rfl mi (by decide +kernel) (pa_cons (pe_cmpR op_ge (pv 3) (pe_op op_pow pe_int pe_int) (nomark _)) pa_nil)))
        (pa_cons (pe_op op_add (pe_op op_add (pe_op op_add (pe_op op_mod (pv 2) pe_int) (pe_op op_mul (pe_op op_mul pe_int (pv 1)) (pv 1))) (pe_op op_mul pe_int (pv 1))) pe_int) (pa_cons pe_int pa_nil)))))), ?_⟩
    intro cell
    refine ⟨_, rfl, _, rfl, ?_⟩
    refine ⟨_, rfl, _, rfl, _, _, rfl, rfl, ⟨by decide, by decide, by decide⟩, _, _, rfl, rfl, .inr ⟨_, rfl, _, _, rfl, rfl, .inr (one _), ?_⟩⟩
    refine ⟨_, rfl, _, _, rfl, rfl, (by show (0 : Int) < 1000000000000000003; decide), _, rfl, _, _, rfl, rfl, .inl ⟨by decide, by decide⟩, _, rfl, _, _, rfl, rfl, .inl ⟨by omega, by omega⟩, _, _, rfl, rfl, ?_⟩
    exact ⟨_, rfl, _, _, rfl, rfl, .inl ⟨by decide, by decide⟩, _, _, rfl, rfl, _, _, rfl, rfl, (by show 3 ≤ sizeLine; decide), fun p hp => fin cell p hp⟩
  refine ⟨_, pss_cons (ps_set (i := 2) scBag.nd rfl (Or.inl rfl) pe_int)
    (pss_cons (ps_if (pt_cmpR op_lt (pv 1) (pe_callB call_len_seq rfl ml PySem.boot_len (pa_cons (pv 0) pa_nil)) (nomark _)) (pss_one (ps_set (i := 2) scBag.nd rfl (Or.inl rfl) (pe_ix ix_list (pv 0) (pv 1) (fun _ _ => rfl)))) pss_nil) hT), ?_⟩
  refine ⟨_, rfl, _, rfl, a, _, rfl, .inl hS, _, _, rfl, rfl, _, rfl, itD (fun c => ?_) (fun c => leafT 0)⟩
  rw [List.length_map] at c
  have hk : k.toNat < ns.length := by omega
  have ek : k = ((k.toNat : Nat) : Int) := by omega
  have q2 : atI (ns.map V.int) ((k.toNat : Nat) : Int) = some (.int ns[k.toNat]) := atI_nat (by rw [List.getElem?_map, List.getElem?_eq_getElem hk]; rfl)
  rw [← ek] at q2
  exact ⟨_, rfl, _, rfl, a, _, _, _, rfl, rfl, hS, q2, leafT _⟩
theorem ok_take (F : Fun K "_law_take" "_law_take" sTake f fd) : FnOk P w K mg base CX0 1 f fd ["_law_bag_here", "_law_many"] spTake := by
  refine F.ok scTake (fun vs H Q E h => ?_) (fun cdv A outer s H vs Q E hr h => ?_)
  · obtain ⟨b, m, n, rfl, _⟩ := h
    rfl
  obtain ⟨b, m, n, rfl, ⟨g, sd, c, hb, hg, hs0, hs1, hc0, hc1⟩, hm0, hm1, q⟩ := h
  refine ⟨_, pss_cons (ps_if (pt_cmpR op_gt (pe_ix ix_list (pv 0) pe_int (fun _ _ => rfl)) pe_int (nomark _))
      (pss_cons (ps_set (i := 2) scTake.nd rfl (Or.inl rfl) (pe_op op_mod (pe_ix ix_list (pv 0) pe_int (fun _ _ => rfl)) (pv 1)))
      (pss_cons (ps_asg (pe_op op_fdiv (pe_ix ix_list (pv 0) pe_int (fun _ _ => rfl)) (pv 1)) (pg_sub (pv 0) pe_int set_list))
      (pss_one (ps_ret (pv 2))))) pss_nil)
    (pss_cons (ps_set (i := 3) scTake.nd rfl (Or.inl rfl) (pe_tup (pa_cons pe_int (pa_cons pe_int (pa_cons pe_int (pa_cons pe_int (pa_cons pe_int (pa_cons pe_int (pa_cons pe_int pa_nil)))))))))
    (pss_cons (ps_asg (pe_op op_add (pe_ix ix_list (pv 0) pe_int (fun _ _ => rfl)) pe_int) (pg_sub (pv 0) pe_int set_list))
    (pss_cons (ps_set (i := 4) scTake.nd rfl (Or.inl rfl) (pe_ix ix_list (pv 0) pe_int (fun _ _ => rfl)))
    (pss_cons (ps_set (i := 5) scTake.nd rfl (Or.inl rfl) (pe_op op_add (pe_op op_add (pe_op op_mul (pe_ix ix_list (pv 0) pe_int (fun _ _ => rfl)) (pe_op op_add (pe_op op_mul pe_int (pv 4)) pe_int)) (pe_op op_mul (pe_op op_mul pe_int (pv 4)) (pv 4))) pe_int))
    (pss_cons (ps_set (i := 6) scTake.nd rfl (Or.inl rfl) (pe_op op_mod (pe_op op_powW (pv 5) pe_int) (pe_ix ix_tup (pv 3) (pe_op op_mod (pv 4) pe_int) (fun _ _ => rfl))))
    (pss_one (ps_ret (pe_op op_mod (pe_op op_fdiv (pe_op op_mod (pe_op op_mul (pv 6) (pe_op op_add (pe_op op_add (pe_op op_fdiv (pv 6) pe_int) (pe_op op_mul pe_int (pv 4))) pe_int)) (pe_ix ix_tup (pv 3) (pe_op op_mod (pe_op op_add (pv 4) pe_int) pe_int) (fun _ _ => rfl))) pe_int) (pv 1))))))))), ?_⟩
  refine ⟨_, rfl, b, _, _, _, rfl, rfl, SqL.of hb, atI_nat (j := 0) rfl, _, _, rfl, rfl, _, rfl, ?_⟩
  refine ite2 (fun c' => ?_) (fun c' => ?_)
  · refine ⟨_, rfl, b, _, _, _, rfl, rfl, SqL.of hb, atI_nat (j := 0) rfl, _, rfl, _, _, rfl, rfl, (by omega), ?_⟩
    refine ⟨_, rfl, b, _, _, _, rfl, rfl, SqL.of hb, atI_nat (j := 0) rfl, _, rfl, _, _, rfl, rfl, ⟨by omega, by omega⟩, ?_⟩
    refine ⟨_, rfl, b, _, _, 0, rfl, rfl, hb, rfl, ?_⟩
    refine ⟨_, rfl, q _ _ (Kept.put _) ⟨_, _, _, upd_same, ?_, hs0, hs1, hc0, by omega⟩ (Int.emod_nonneg _ (by omega)) (Int.emod_lt_of_pos _ (by omega))⟩
    exact Int.ediv_nonneg hg (by omega)
  · refine ⟨(by show 7 ≤ sizeLine; decide), fun p hp => ?_⟩
    have bp : b ≠ p := ne_of_none hb hp
    have hb1 : upd H p (.tup (primes.map V.int)) b = some (.lst [.int g, .int sd, .int c]) := by rw [upd_ne bp]; exact hb
    refine ⟨_, rfl, b, _, _, _, rfl, rfl, SqL.of hb1, atI_nat (j := 2) rfl, _, _, rfl, rfl, ?_⟩
    refine ⟨_, rfl, b, _, _, 2, rfl, rfl, hb1, rfl, ?_⟩
    have hb2 : upd (upd H p (.tup (primes.map V.int))) b (.lst [.int g, .int sd, .int (c + 1)]) b = some (.lst [.int g, .int sd, .int (c + 1)]) := upd_same
    have hp2 : upd (upd H p (.tup (primes.map V.int))) b (.lst [.int g, .int sd, .int (c + 1)]) p = some (.tup (primes.map V.int)) := by rw [upd_ne bp.symm]; exact upd_same
    have kept : Kept b H (upd (upd H p (.tup (primes.map V.int))) b (.lst [.int g, .int sd, .int (c + 1)])) := (Kept.new hp _).trans (Kept.put _)
    have bag : Bag (upd (upd H p (.tup (primes.map V.int))) b (.lst [.int g, .int sd, .int (c + 1)])) b n := ⟨_, _, _, hb2, hg, hs0, hs1, by omega, by omega⟩
    have c0 : 0 ≤ c + 1 := by omega
    have c1 : c + 1 < 2 ^ 40 := by omega
    refine ⟨_, rfl, b, _, _, _, rfl, rfl, SqL.of hb2, atI_nat (j := 2) rfl, ?_⟩
    refine ⟨_, rfl, b, _, _, _, rfl, rfl, SqL.of hb2, atI_nat (j := 1) rfl, _, rfl, _, _, rfl, rfl, .inl ⟨by decide, by decide⟩, _, _, rfl, rfl, _, _, rfl, rfl, .inl ⟨by omega, by omega⟩, ?_⟩
    refine ⟨_, rfl, _, _, rfl, rfl, .inl ⟨by decide, by decide⟩, _, rfl, _, _, rfl, rfl, .inl ⟨by omega, by omega⟩, _, _, rfl, rfl, _, _, rfl, rfl, ?_⟩
    obtain ⟨p1, e1, p10, p11⟩ := prime_at (r := (c + 1) % 7) (by omega) (by omega)
    refine ⟨_, rfl, _, _, rfl, rfl, base_bits hs0 hs1 c0 c1, _, rfl, _, rfl, _, _, rfl, rfl, (by show (0 : Int) < 7; decide), p, _, _, _, rfl, rfl, SqT.of hp2, e1, _, _, rfl, rfl, p10, ?_⟩
    have m2 : -(2 ^ 64) < (sd * (2 * (c + 1) + 1) + 4603 * (c + 1) * (c + 1) + 67) ^ Int.toNat 3 % p1 ∧ (sd * (2 * (c + 1) + 1) + 4603 * (c + 1) * (c + 1) + 67) ^ Int.toNat 3 % p1 < 2 ^ 64 := by
      have m0 := Int.emod_nonneg ((sd * (2 * (c + 1) + 1) + 4603 * (c + 1) * (c + 1) + 67) ^ Int.toNat 3) (show p1 ≠ 0 by omega)
      have m1 := Int.emod_lt_of_pos ((sd * (2 * (c + 1) + 1) + 4603 * (c + 1) * (c + 1) + 67) ^ Int.toNat 3) p10
      generalize (sd * (2 * (c + 1) + 1) + 4603 * (c + 1) * (c + 1) + 67) ^ Int.toNat 3 % p1 = mx at *
      omega
    obtain ⟨p2, e2, p20, p21⟩ := prime_at (r := (c + 1 + 4) % 7) (by omega) (by omega)
    refine ⟨_, rfl, _, rfl, _, _, rfl, rfl, ⟨by decide, by decide⟩, _, rfl, _, _, rfl, rfl, .inl ⟨by decide, by decide⟩, _, _, rfl, rfl, _, _, rfl, rfl, _, _, rfl, rfl, .inl m2, ?_⟩
    refine ⟨_, rfl, _, rfl, _, _, rfl, rfl, _, _, rfl, rfl, (by show (0 : Int) < 7; decide), p, _, _, _, rfl, rfl, SqT.of hp2, e2, _, _, rfl, rfl, p20, _, _, rfl, rfl, ⟨by decide, by decide⟩, _, rfl, _, _, rfl, rfl, (by omega), ?_⟩
    exact q _ _ kept bag (Int.emod_nonneg _ (by omega)) (Int.emod_lt_of_pos _ (by omega))
end
end Any
namespace Any
open L2 PySem PySem.Spec PyProof.Rows LamX NdefX

/-! ### list(d), d a written dict of texts -/
def Keyed : List DictEntry → List Str → Prop
  | [], [] => True
  | e :: es, k :: ks => (∃ t, e.key = .str k t) ∧ Keyed es ks
  | _, _ => False
theorem keyed_pairs {P : Program} {w : World} : ∀ {es : List DictEntry} {ks : List Str}, Keyed es ks →
    ∃ kvs : List (Str × Value), Pairs (PySem.strKind P w) es kvs ∧ kvs.map (·.1) = ks
  | [], [], _ => ⟨[], .nil, rfl⟩
  | e :: es, k :: ks, h => by
    obtain ⟨⟨t, h1⟩, h2⟩ := h
    obtain ⟨kvs, p, q⟩ := keyed_pairs (P := P) (w := w) h2
    exact ⟨(k, e.val) :: kvs, .cons (by rw [h1]; exact strKind_is P w k t) rfl p, by rw [List.map_cons, q]⟩
  | [], _ :: _, h => h.elim
  | _ :: _, [], h => h.elim
/-- a written dict with these keys -/
def KKeys (K : PySem.W.Frag) (w : World) (a : Addr) (ks : List Str) : Prop :=
  ∃ es n, K.lookup a = some ⟨.type "dict", none, .dict es n, #[]⟩ ∧ PySem.W.KeysLit w.params es.toList ∧ Keyed es.toList ks ∧ ks.Nodup ∧ (a == sysModules) = false ∧ ks.length ≤ sizeLine
theorem strs_is {P : Program} {w : World} : ∀ {us : List Value} {ks : List Str}, us.length = ks.length → (∀ (j : Nat) (v : Value), us[j]? = some v → ∃ k, ks[j]? = some k ∧ (PySem.strKind P w).is k v = true) → Vals (ks.map V.str) us
  | [], [], _, _ => .nil
  | u :: us, k :: ks, hl, h => by
    obtain ⟨k', e, h0⟩ := h 0 u rfl
    cases e
    obtain ⟨t, rfl⟩ := Value.isStrOf_shape h0
    exact .cons ⟨t, rfl⟩ (strs_is (P := P) (w := w) (by simpa using hl) fun j v e => h (j + 1) v e)
section
variable {X : Cx}
theorem call_listK (hc : X.calm = true) : CallR X (.type "list") (fun xs H Q => ∃ a ks, xs = [.ref a] ∧ KKeys X.K X.w a ks ∧ ∀ p, H p = none → Q (.ref p) (upd H p (.lst (ks.map V.str)))) := by
  intro pins s σ H xs us Q I r q
  obtain ⟨a, ks, rfl, ⟨es, n, hl, hk, hy, nd, lo, hz⟩, q⟩ := q
  obtain ⟨u, rfl, rx⟩ := vals1 r
  cases rx
  obtain ⟨kvs, hp, ek⟩ := keyed_pairs (P := X.prog) (w := X.w) hy
  have hat : s.heap.DictAt (PySem.strKind X.prog X.w) a kvs n := ⟨_, es, I.kIn _ _ hl, ⟨rfl, rfl, rfl⟩, rfl, fun e he => by
    obtain ⟨x, t, e1, e2⟩ := hk.all e (Array.mem_toList_iff.mpr he)
    exact ⟨x, by rw [e1]; exact strKind_is X.prog X.w x t, e2⟩, hp, by rw [ek]; exact nd⟩
  have hlen : kvs.length = ks.length := by rw [← ek, List.length_map]
  refine PySem.W.kdl_call (PySem.W.kdl_dict (knd := PySem.strKind X.prog X.w) (kvs := kvs) (ep := n) lo) (I.ok.hd hc) hat (by rw [hlen]; exact hz) fun h' tk acc c' kp hD hacc => ?_
  have hv : Vals (ks.map V.str) acc.toList := strs_is (P := X.prog) (w := X.w) (by rw [Array.length_toList, ← hlen]; exact hacc.1) fun j v e => by
    obtain ⟨k, x, h1, h2⟩ := hacc.2 j v (by rw [← Array.getElem?_toList]; exact e)
    exact ⟨k, by rw [← ek, List.getElem?_map, h1]; rfl, h2⟩
  refine ⟨.ref s.heap.objs.size, upd H s.heap.objs.size (.lst (ks.map V.str)), I.laid (t' := tk) kp (Nat.le_refl _)
    (show ObjOk X.prog X.w _ _ _ (.lst (ks.map V.str)) from ⟨by rw [List.length_map]; exact hz, acc.toList, c', hv, by rw [Array.toArray_toList]; exact hD⟩), rfl, q _ (I.hok.fresh (Nat.le_refl _))⟩
end

/-! ### rows made of rows, all else staying -/
/-- what a row's making asks -/
def Turns (J : It) (g : TG) (tt : TT) (te : TE) (vs : List Nat) (σ : L2.St) (H1 : Hp) (D : Addr) (Qd : Hp → Prop) : Prop :=
  ∃ W : Nat → Nat → Hp → Prop, (∃ m, W 0 m (upd H1 D (.lst []))) ∧
    ∀ i m H, W i m H → (J.stop i H ∧ Qd H) ∨
      (J.go i H ∧ ∃ N : Hp → Prop, (∀ H', N H' → ∃ m', m' < m ∧ W (i + 1) m' H') ∧
        ∀ x H', J.yld i H x H' →
          g x (wipe σ vs) H' fun σ2 H2 => wipe σ2 vs = wipe σ vs ∧
            tt σ2 H2 fun b H3 => if b = true then te σ2 H3 fun y H4 => ∃ acc, H4 D = some (.lst acc) ∧ acc.length < sizeLine ∧ N (upd H4 D (.lst (acc ++ [y]))) else N H3)
section
variable {K : PySem.W.Frag} {a : Addr} {xs : List V} {g : TG} {tt : TT} {te : TE} {vs : List Nat} {σ : L2.St} {H1 : Hp} {D : Addr} {Qd : Hp → Prop}
/-- each turn puts one thing behind, or none -/
def TurnF (xs : List V) (gs : List (Option V)) (g : TG) (tt : TT) (te : TE) (vs : List Nat) (σ : L2.St) (H1 : Hp) : Prop :=
  ∀ (i : Nat) (x : V) (o : Option V) (H : Hp) (Y : VK) (N : Hp → Prop), xs[i]? = some x → gs[i]? = some o → Same H1 H → (∀ y, o = some y → ∀ H4, Same H H4 → Y y H4) → (o = none → ∀ H4, Same H H4 → N H4) →
    g x (wipe σ vs) H fun σ2 H2 => wipe σ2 vs = wipe σ vs ∧ tt σ2 H2 fun b H3 => if b = true then te σ2 H3 Y else N H3
theorem take_fm {gs : List (Option V)} {i : Nat} {o : Option V} (h : gs[i]? = some o) : (gs.take (i + 1)).filterMap id = (gs.take i).filterMap id ++ o.toList := by
  rw [List.take_add_one, h, List.filterMap_append]
  cases o <;> rfl
theorem fm_len (gs : List (Option V)) : (gs.filterMap id).length ≤ gs.length := List.length_filterMap_le ..
theorem turns_tup (gs : List (Option V)) (hD : H1 D = none) (ha : ∀ H, Same H1 H → SqT K H a xs) (hn : gs.length = xs.length) (hz : xs.length ≤ sizeLine) (hs : TurnF xs gs g tt te vs σ H1)
    (hd : ∀ H, H D = some (.lst (gs.filterMap id)) → Same H1 H → Qd H) : Turns (Itt K a) g tt te vs σ H1 D Qd := by
  refine lc_tup (K := K) (a := a) (xs := xs) (fun i Hc => Hc D = some (.lst ((gs.take i).filterMap id)) ∧ Same H1 Hc) ⟨upd_same, same_new hD _⟩ (fun i Hc _ z => ha Hc z.2) ?_ ?_
  · rintro i x Hc hx ⟨hC, sm⟩
    have hi : i < xs.length := (List.getElem?_eq_some_iff.mp hx).1
    obtain ⟨o, ho⟩ : ∃ o, gs[i]? = some o := ⟨gs[i]'(by omega), by simp [hn, hi]⟩
    refine hs i x o Hc _ _ hx ho sm (fun y ey H4 s4 => ⟨_, s4 _ _ hC, ?_, ?_, fun b u hb => ?_⟩) (fun en H4 s4 => ⟨?_, sm.trans s4⟩)
    · have := fm_len (gs.take i)
      rw [List.length_take] at this
      omega
    · rw [upd_same, take_fm ho, ey]
      rfl
    · rw [upd_ne (ne_of_none hb hD)]
      exact s4 _ _ (sm _ _ hb)
    · rw [take_fm ho, en]
      show H4 D = some (.lst (_ ++ []))
      rw [List.append_nil]
      exact s4 _ _ hC
  · rintro Hc ⟨hC, sm⟩
    rw [← hn, List.take_length] at hC
    exact hd Hc hC sm
theorem turns_list (gs : List (Option V)) (hD : H1 D = none) (ha : ∀ H, Same H1 H → SqL K H a xs) (hn : gs.length = xs.length) (hz : xs.length ≤ sizeLine) (hs : TurnF xs gs g tt te vs σ H1)
    (hd : ∀ H, H D = some (.lst (gs.filterMap id)) → Same H1 H → Qd H) : Turns (Itl K a) g tt te vs σ H1 D Qd := by
  refine lc_list (K := K) (a := a) (xs := xs) (fun i Hc => Hc D = some (.lst ((gs.take i).filterMap id)) ∧ Same H1 Hc) ⟨upd_same, same_new hD _⟩ (fun i Hc _ z => ha Hc z.2) ?_ ?_
  · rintro i x Hc hx ⟨hC, sm⟩
    have hi : i < xs.length := (List.getElem?_eq_some_iff.mp hx).1
    obtain ⟨o, ho⟩ : ∃ o, gs[i]? = some o := ⟨gs[i]'(by omega), by simp [hn, hi]⟩
    refine hs i x o Hc _ _ hx ho sm (fun y ey H4 s4 => ⟨_, s4 _ _ hC, ?_, ?_, fun b u hb => ?_⟩) (fun en H4 s4 => ⟨?_, sm.trans s4⟩)
    · have := fm_len (gs.take i)
      rw [List.length_take] at this
      omega
    · rw [upd_same, take_fm ho, ey]
      rfl
    · rw [upd_ne (ne_of_none hb hD)]
      exact s4 _ _ (sm _ _ hb)
    · rw [take_fm ho, en]
      show H4 D = some (.lst (_ ++ []))
      rw [List.append_nil]
      exact s4 _ _ hC
  · rintro Hc ⟨hC, sm⟩
    rw [← hn, List.take_length] at hC
    exact hd Hc hC sm
end
end Any
namespace Any
open L2 PySem PySem.Spec PyProof.Rows LamX NdefX
abbrev sWhole : Stmt := top 20
abbrev sWithin : Stmt := top 21
abbrev sName : Stmt := top 22
abbrev sIsExpr : Stmt := top 23
abbrev sIsTest : Stmt := top 24
abbrev sExFits : Stmt := top 25
abbrev sTsFits : Stmt := top 26
abbrev sRow : Stmt := top 27
abbrev sCount : Stmt := top 28
theorem scWhole : FnScope ["thing"] ["thing"] (defScope sWhole) := ⟨rfl, rfl, rfl, by decide +kernel, rfl, by decide +kernel, by decide +kernel⟩
theorem scWithin : FnScope ["thing", "least", "most"] ["thing", "least", "most"] (defScope sWithin) := ⟨rfl, rfl, rfl, by decide +kernel, rfl, by decide +kernel, by decide +kernel⟩
theorem scRow : FnScope ["thing"] ["thing"] (defScope sRow) := ⟨rfl, rfl, rfl, by decide +kernel, rfl, by decide +kernel, by decide +kernel⟩
theorem scCount : FnScope ["term", "part"] ["term"] (defScope sCount) := ⟨rfl, rfl, rfl, by decide +kernel, rfl, by decide +kernel, by decide +kernel⟩
theorem scExFits : FnScope ["thing", "boxes", "words", "deep", "kind", "part"] ["thing", "boxes", "words", "deep"] (defScope sExFits) := ⟨rfl, rfl, rfl, by decide +kernel, rfl, by decide +kernel, by decide +kernel⟩
theorem scTsFits : FnScope ["thing", "boxes", "words", "deep", "kind", "part"] ["thing", "boxes", "words", "deep"] (defScope sTsFits) := ⟨rfl, rfl, rfl, by decide +kernel, rfl, by decide +kernel, by decide +kernel⟩
theorem scIsExpr : FnScope ["thing", "boxes", "words"] ["thing", "boxes", "words"] (defScope sIsExpr) := ⟨rfl, rfl, rfl, by decide +kernel, rfl, by decide +kernel, by decide +kernel⟩
theorem scIsTest : FnScope ["thing", "boxes", "words"] ["thing", "boxes", "words"] (defScope sIsTest) := ⟨rfl, rfl, rfl, by decide +kernel, rfl, by decide +kernel, by decide +kernel⟩
/-- the names of Python's own that the program asks for -/
structure Own (mg : Str → Option Value) : Prop where
  isi : mg "isinstance" = none
  int : mg "int" = none
  bool : mg "bool" = none
  str : mg "str" = none
  tuple : mg "tuple" = none
  len : mg "len" = none
  all : mg "all" = none
  sum : mg "sum" = none
  list : mg "list" = none
def spWhole : Sp := fun vs H Q _ => ∃ i, vs = [.int i] ∧ Q (.bl true) H
def spWithin : Sp := fun vs H Q _ => ∃ i l m, vs = [.int i, .int l, .int m] ∧ Q (.bl (decide (l ≤ i) && decide (i ≤ m))) H
def spRow : Sp := fun vs H Q _ => ∃ a x xs, vs = [.ref a] ∧ H a = some (.tup (x :: xs)) ∧ Q (.bl true) H
section
variable {P : Program} {w : World} {K : PySem.W.Frag} {mg : Str → Option Value} {base : Heap} {f g : Addr} {fd gd : FuncData}
theorem kb (a b : String) (r : Bool) (h : kitB a b = some r := by decide +kernel) : PySem.W.kitOne K (.type a) (.type b) = some r := kit_ty h
theorem ok_whole (O : Own mg) (F : Fun K "is_whole" "is_whole" sWhole f fd) : FnOk P w K mg base CX0 1 f fd ["thing"] spWhole := by
  refine F.ok scWhole (fun vs H Q E h => ?_) (fun cdv A outer s H vs Q E hr h => ?_)
  · obtain ⟨i, rfl, _⟩ := h
    rfl
  obtain ⟨i, rfl, q⟩ := h
  refine ⟨_, pss_one (ps_ret (pe_and (pe_callB call_isi rfl O.isi (by decide +kernel) (pa_cons (pv 0) (pa_cons (pe_bltn (v := .ty "int") rfl O.int (by decide +kernel) rfl) pa_nil)))
    (pe_one (pe_not (pe_callB call_isi rfl O.isi (by decide +kernel) (pa_cons (pv 0) (pa_cons (pe_bltn (v := .ty "bool") rfl O.bool (by decide +kernel) rfl) pa_nil))))))), ?_⟩
  exact ⟨_, rfl, _, _, _, _, true, rfl, .ty "int", .base (.int i), kb "int" "int" true, _, rfl, _, rfl, _, _, _, _, false, rfl, .ty "bool", .base (.int i), kb "int" "bool" false, _, rfl, q⟩
theorem ok_within (F : Fun K "is_within" "is_within" sWithin f fd) (G : FnOk P w K mg base CX0 1 g gd ["thing"] spWhole) (bG : Binds K gd ["thing"] []) (kG : PySem.W.keepIn K (.ref g) = true) (mG : mg "is_whole" = some (.ref g)) :
    FnOk P w K mg base CX0 2 f fd ["thing", "least", "most"] spWithin := by
  refine F.ok scWithin (fun vs H Q E h => ?_) (fun cdv A outer s H vs Q E hr h => ?_)
  · obtain ⟨i, l, m, rfl, _⟩ := h
    rfl
  obtain ⟨i, l, m, rfl, q⟩ := h
  refine ⟨_, pss_one (ps_ret (pe_and (pe_call G hr rfl mG kG bG .nil pass0 (pa_cons (pv 0) pa_nil)) (pe_one (pe_chain op_le op_le (pv 1) (pv 0) (pv 2))))), ?_⟩
  refine ⟨_, rfl, i, rfl, _, rfl, _, rfl, _, rfl, _, _, rfl, rfl, _, rfl, ?_⟩
  refine ite2 (fun c => ?_) (fun c => ?_)
  · rw [c] at q
    exact ⟨_, rfl, _, _, rfl, rfl, q⟩
  · rw [Bool.eq_false_iff.mpr c] at q
    exact q
theorem ok_row (O : Own mg) (F : Fun K "is_row" "is_row" sRow f fd) : FnOk P w K mg base CX0 1 f fd ["thing"] spRow := by
  refine F.ok scRow (fun vs H Q E h => ?_) (fun cdv A outer s H vs Q E hr h => ?_)
  · obtain ⟨a, x, xs, rfl, _⟩ := h
    rfl
  obtain ⟨a, x, xs, rfl, ha, q⟩ := h
  refine ⟨_, pss_one (ps_ret (pe_and (pe_callB call_isi rfl O.isi (by decide +kernel) (pa_cons (pv 0) (pa_cons (pe_bltn (v := .ty "tuple") rfl O.tuple (by decide +kernel) rfl) pa_nil)))
    (pe_one (pe_cmpR op_gt (pe_callB call_len_seq rfl O.len PySem.boot_len (pa_cons (pv 0) pa_nil)) pe_int (nomark _))))), ?_⟩
  refine ⟨_, rfl, _, _, _, _, true, rfl, .ty "tuple", .base (.tup ha), kb "tuple" "tuple" true, _, rfl, _, rfl, a, _, rfl, .inr (SqT.of ha), _, _, rfl, rfl, ?_⟩
  show Q (.bl (decide ((0 : Int) < ((x :: xs).length : Nat)))) H
  rw [show decide ((0 : Int) < ((x :: xs).length : Nat)) = true from decide_eq_true (by rw [List.length_cons]; omega)]
  exact q
end
end Any
namespace Any
open L2 PySem PySem.Spec PyProof.Rows LamX NdefX
/-! ### right ones -/
def Ex.cnt : Ex → Nat
  | .op _ l r => 1 + (l.cnt + r.cnt)
  | _ => 1
def Ts.cnt : Ts → Nat
  | .is l r => 1 + (l.cnt + r.cnt)
  | .bel l r => 1 + (l.cnt + r.cnt)
  | .nt t => 1 + t.cnt
  | .both t u => 1 + (t.cnt + u.cnt)
  | .either t u => 1 + (t.cnt + u.cnt)
/-- how many stand within one another, expressions too -/
def Ts.dp : Ts → Nat
  | .is l r => max l.deep r.deep + 1
  | .bel l r => max l.deep r.deep + 1
  | .nt t => t.dp + 1
  | .both t u => max t.dp u.dp + 1
  | .either t u => max t.dp u.dp + 1
def Ex.fit (xs ws : List Str) : Ex → Prop
  | .num n => 0 ≤ n ∧ n ≤ 999
  | .box x => x ∈ xs
  | .asked => ("asked" : Str) ∈ ws
  | .told => ("told" : Str) ∈ ws
  | .op _ l r => l.fit xs ws ∧ r.fit xs ws
def Ts.fit (xs ws : List Str) : Ts → Prop
  | .is l r => l.fit xs ws ∧ r.fit xs ws
  | .bel l r => l.fit xs ws ∧ r.fit xs ws
  | .nt t => t.fit xs ws
  | .both t u => t.fit xs ws ∧ u.fit xs ws
  | .either t u => t.fit xs ws ∧ u.fit xs ws
theorem Ex.deep_pos : ∀ e : Ex, 0 < e.deep
  | .num _ => Nat.one_pos
  | .box _ => Nat.one_pos
  | .asked => Nat.one_pos
  | .told => Nat.one_pos
  | .op _ _ _ => Nat.succ_pos _
theorem Ts.dp_pos : ∀ e : Ts, 0 < e.dp
  | .is _ _ => Nat.succ_pos _
  | .bel _ _ => Nat.succ_pos _
  | .nt _ => Nat.succ_pos _
  | .both _ _ => Nat.succ_pos _
  | .either _ _ => Nat.succ_pos _
/-- a part of an expression or a test: none that is a tuple, or one that counts so many, at most d deep -/
inductive Part (H : Hp) (d : Nat) : V → Option Nat → Prop
  | int (i : Int) : Part H d (.int i) none
  | str (x : Str) : Part H d (.str x) none
  | ex {v : V} {e : Ex} : ExAt H v e → e.deep ≤ d → Part H d v (some e.cnt)
  | ts {v : V} {e : Ts} : TsAt H v e → e.dp ≤ d → Part H d v (some e.cnt)
theorem Part.keep {H H' : Hp} (k : Tups H H') {d : Nat} {v : V} {o : Option Nat} (h : Part H d v o) : Part H' d v o := by
  cases h with
  | int i => exact .int i
  | str x => exact .str x
  | ex h hd => exact .ex (h.keep k) hd
  | ts h hd => exact .ts (h.keep k) hd
/-- as a tuple of a word and parts -/
theorem Part.open {H : Hp} {d : Nat} {v : V} {n : Nat} (h : Part H (d + 1) v (some n)) : ∃ a z xs os, v = .ref a ∧ H a = some (.tup (z :: xs)) ∧ Paired (Part H d) xs os ∧ n = 1 + (os.map fun o => o.getD 0).sum ∧ xs.length ≤ 2 := by
  cases h with
  | ex h hd =>
    cases h with
    | num h => exact ⟨_, _, _, [none], rfl, h, .cons (.int _) .nil, rfl, by first | decide | (show 1 ≤ 2; decide) | (show 0 ≤ 2; decide)⟩
    | box h => exact ⟨_, _, _, [none], rfl, h, .cons (.str _) .nil, rfl, by first | decide | (show 1 ≤ 2; decide) | (show 0 ≤ 2; decide)⟩
    | asked h => exact ⟨_, _, _, [], rfl, h, .nil, rfl, by first | decide | (show 1 ≤ 2; decide) | (show 0 ≤ 2; decide)⟩
    | told h => exact ⟨_, _, _, [], rfl, h, .nil, rfl, by first | decide | (show 1 ≤ 2; decide) | (show 0 ≤ 2; decide)⟩
    | op h h1 h2 =>
      rename_i l r
      have hd : max l.deep r.deep + 1 ≤ d + 1 := hd
      exact ⟨_, _, _, [some l.cnt, some r.cnt], rfl, h, .cons (.ex h1 (by omega)) (.cons (.ex h2 (by omega)) .nil), (by show 1 + (l.cnt + r.cnt) = 1 + (l.cnt + (r.cnt + 0)); omega), by show 2 ≤ 2; decide⟩
  | ts h hd =>
    cases h with
    | is h h1 h2 =>
      rename_i l r
      have hd : max l.deep r.deep + 1 ≤ d + 1 := hd
      exact ⟨_, _, _, [some l.cnt, some r.cnt], rfl, h, .cons (.ex h1 (by omega)) (.cons (.ex h2 (by omega)) .nil), (by show 1 + (l.cnt + r.cnt) = 1 + (l.cnt + (r.cnt + 0)); omega), by show 2 ≤ 2; decide⟩
    | bel h h1 h2 =>
      rename_i l r
      have hd : max l.deep r.deep + 1 ≤ d + 1 := hd
      exact ⟨_, _, _, [some l.cnt, some r.cnt], rfl, h, .cons (.ex h1 (by omega)) (.cons (.ex h2 (by omega)) .nil), (by show 1 + (l.cnt + r.cnt) = 1 + (l.cnt + (r.cnt + 0)); omega), by show 2 ≤ 2; decide⟩
    | nt h h1 =>
      rename_i t
      have hd : t.dp + 1 ≤ d + 1 := hd
      exact ⟨_, _, _, [some t.cnt], rfl, h, .cons (.ts h1 (by omega)) .nil, rfl, by show 1 ≤ 2; decide⟩
    | both h h1 h2 =>
      rename_i l r
      have hd : max l.dp r.dp + 1 ≤ d + 1 := hd
      exact ⟨_, _, _, [some l.cnt, some r.cnt], rfl, h, .cons (.ts h1 (by omega)) (.cons (.ts h2 (by omega)) .nil), (by show 1 + (l.cnt + r.cnt) = 1 + (l.cnt + (r.cnt + 0)); omega), by show 2 ≤ 2; decide⟩
    | either h h1 h2 =>
      rename_i l r
      have hd : max l.dp r.dp + 1 ≤ d + 1 := hd
      exact ⟨_, _, _, [some l.cnt, some r.cnt], rfl, h, .cons (.ts h1 (by omega)) (.cons (.ts h2 (by omega)) .nil), (by show 1 + (l.cnt + r.cnt) = 1 + (l.cnt + (r.cnt + 0)); omega), by show 2 ≤ 2; decide⟩
theorem Part.ref {H : Hp} {d n : Nat} {v : V} (h : Part H d v (some n)) : ∃ a xs, v = .ref a ∧ H a = some (.tup xs) := by
  cases d with
  | zero =>
    cases h with
    | ex _ hd => exact absurd hd (Nat.not_le.mpr (Ex.deep_pos _))
    | ts _ hd => exact absurd hd (Nat.not_le.mpr (Ts.dp_pos _))
  | succ d =>
    obtain ⟨a, z, xs, os, e, h1, _⟩ := h.open
    exact ⟨a, _, e, h1⟩
def spCount (n : Nat) : Sp := fun vs H Q _ => ∃ v k, vs = [v] ∧ Part H n v (some k) ∧ ∀ H', Same H H' → Q (.int k) H'
theorem paired_at {α β : Type} {R : α → β → Prop} : ∀ {xs : List α} {ys : List β}, Paired R xs ys → ∀ {i : Nat} {x : α} {y : β}, xs[i]? = some x → ys[i]? = some y → R x y
  | _, _, .nil, i, x, y, h, _ => by simp at h
  | _, _, .cons r t, 0, x, y, h, g => by cases h; cases g; exact r
  | _, _, .cons r t, i + 1, x, y, h, g => paired_at t (i := i) h g
theorem paired_len {α β : Type} {R : α → β → Prop} : ∀ {xs : List α} {ys : List β}, Paired R xs ys → xs.length = ys.length
  | _, _, .nil => rfl
  | _, _, .cons r t => by rw [List.length_cons, List.length_cons, paired_len t]
theorem sum_fm : ∀ os : List (Option Nat), ((os.filterMap id).map fun n : Nat => (n : Int)).sum = ((os.map fun o => o.getD 0).sum : Nat)
  | [] => rfl
  | none :: r => by
    have := sum_fm r
    simpa using this
  | some n :: r => by
    have := sum_fm r
    simp only [List.filterMap_cons, id, List.map_cons, List.sum_cons, Option.getD_some] at this ⊢
    rw [this]
    omega
theorem fm_ints : ∀ os : List (Option Nat), (os.map fun o => o.map fun n : Nat => V.int n).filterMap id = (((os.filterMap id).map fun n : Nat => (n : Int)).map V.int)
  | [] => rfl
  | none :: r => by simpa using fm_ints r
  | some n :: r => by simpa using fm_ints r
theorem cut1 (z : V) (xs : List V) : cutV (z :: xs) (some 1) none = xs := by
  have e1 : HT.sIx (z :: xs).length 0 (some 1) = 1 := by
    unfold HT.sIx
    simp only [List.length_cons]
    first | omega | (split <;> omega) | simp
  have e2 : HT.sIx (z :: xs).length (z :: xs).length none = (z :: xs).length := rfl
  unfold cutV
  rw [e1, e2, List.drop_one, List.tail_cons, List.length_cons, Nat.add_sub_cancel, List.take_length]
section
variable {P : Program} {w : World} {K : PySem.W.Frag} {mg : Str → Option Value} {base : Heap} {f : Addr} {fd : FuncData}
theorem no_count {k : Nat} : FnOk P w K mg base CX0 k f fd ["term"] (spCount 0) := by
  have no : ∀ vs H Q E, ¬ spCount 0 vs H Q E := fun vs H Q E h => by
    obtain ⟨v, k, _, h, _⟩ := h
    cases h with
    | ex _ hd => exact absurd hd (Nat.not_le.mpr (Ex.deep_pos _))
    | ts _ hd => exact absurd hd (Nat.not_le.mpr (Ts.dp_pos _))
  exact ⟨fun vs H Q E h => absurd h (no vs H Q E), fun A outer s H args us vs Q E _ _ _ _ h => absurd h (no vs H Q E)⟩
theorem ok_count {n : Nat} (O : Own mg) (F : Fun K "count_terms" "count_terms" sCount f fd) (G : FnOk P w K mg base CX0 (n + 1) f fd ["term"] (spCount n)) (bG : Binds K fd ["term"] []) (mG : mg "count_terms" = some (.ref f)) :
    FnOk P w K mg base CX0 (n + 2) f fd ["term"] (spCount (n + 1)) := by
  refine F.ok scCount (fun vs H Q E h => ?_) (fun cdv A outer s H vs Q E hr h => ?_)
  · obtain ⟨v, k, rfl, _⟩ := h
    rfl
  obtain ⟨v, k, rfl, h, q⟩ := h
  obtain ⟨a, z, xs, os, rfl, ha, hp, hk, h2⟩ := h.open
  refine ⟨_, pss_one (ps_ret (pe_op op_add pe_int (pe_callB (cr_sum rfl) rfl O.sum (by decide +kernel) (pa_cons (pe_lc (own := [("part", 1)]) (g := gName 1) rfl scCount.nd
    (pi_tup (pe_slice sl_tup (pv 0) (po_some pe_int) po_none)) (blkOk_by (N := ["term", "part"]) (sc := defScope sCount) (by decide +kernel))
    (fun _ _ _ _ _ => pg_name (i := 1) scCount.nd rfl (Or.inl rfl)) (fun _ _ _ _ _ => pts_one (pt_val (pe_callB (show CallR _ (.builtin "isinstance") (rIsi K) from call_isi) rfl O.isi (by decide +kernel) (pa_cons (pv 1) (pa_cons (pe_bltn (v := .ty "tuple") rfl O.tuple (by decide +kernel) rfl) pa_nil)))))
    (fun _ _ _ _ _ => pe_call G hr rfl mG F.kp bG .nil pass0 (pa_cons (pv 1) pa_nil))) pa_nil)))), ?_⟩
  have hz : (z :: xs).length ≤ sizeLine := by
    have e : sizeLine = 16777216 := sizeLine_eq
    rw [List.length_cons]
    omega
  refine ⟨_, rfl, 1, rfl, a, _, rfl, SqT.of ha, (by show ¬ (1 = 0 ∧ _); omega), fun p hp2 => ⟨p, rfl, ⟨_, SqT.of upd_same⟩, fun C hC => ?_⟩⟩
  rw [cut1] at hC ⊢
  have s1 := same_new hp2 (.tup xs)
  have hl := paired_len hp
  refine turns_tup (K := K) (a := p) (xs := xs) (os.map fun o => o.map fun n : Nat => V.int n) hC (fun Hc sm => SqT.of (sm _ _ upd_same)) (by rw [List.length_map]; exact hl.symm) (by rw [List.length_cons] at hz; omega) ?_ ?_
  · intro i x o Hc Y N hx ho sm hY hN
    refine ⟨rfl, ?_⟩
    obtain ⟨o', e1, e2⟩ : ∃ o', os[i]? = some o' ∧ o = o'.map fun n : Nat => V.int n := by
      rw [List.getElem?_map] at ho
      cases e : os[i]? with
      | none => rw [e] at ho; cases ho
      | some o' => rw [e] at ho; exact ⟨o', rfl, (Option.some.inj ho).symm⟩
    have pt : Part Hc n x o' := (paired_at hp hx e1).keep (Same.tups (s1.trans sm))
    cases o' with
    | none =>
      have e3 : ∃ t, TyX K Hc x t ∧ PySem.W.kitOne K t (.type "tuple") = some false := by
        cases pt with
        | int i => exact ⟨_, .base (.int i), kb "int" "tuple" false⟩
        | str y => exact ⟨_, .base (.str y), kb "str" "tuple" false⟩
      obtain ⟨t, h3, h4⟩ := e3
      exact ⟨_, rfl, x, _, t, _, false, rfl, .ty "tuple", h3, h4, _, rfl, hN e2 Hc same_refl⟩
    | some m =>
      obtain ⟨b, ys, rfl, hb⟩ := pt.ref
      exact ⟨_, rfl, .ref b, _, _, _, true, rfl, .ty "tuple", .base (.tup hb), kb "tuple" "tuple" true, _, rfl, _, rfl, _, m, rfl, pt, fun H4 s4 => hY _ e2 H4 s4⟩
  · intro Hc hc sm
    rw [fm_ints] at hc
    refine ⟨C, _, rfl, SqL.of hc, _, _, rfl, rfl, ?_⟩
    rw [sum_fm]
    have e : (1 : Int) + ((os.map fun o => o.getD 0).sum : Nat) = (k : Int) := by rw [hk]; omega
    show Q (.int (1 + ((os.map fun o => o.getD 0).sum : Nat))) Hc
    rw [e]
    exact q Hc (s1.trans sm)
theorem all_count (O : Own mg) (F : Fun K "count_terms" "count_terms" sCount f fd) (bG : Binds K fd ["term"] []) (mG : mg "count_terms" = some (.ref f)) : ∀ n : Nat, FnOk P w K mg base CX0 (n + 1) f fd ["term"] (spCount n)
  | 0 => no_count
  | n + 1 => ok_count O F (all_count O F bG mG n) bG mG
end
end Any
namespace Any
open L2 PySem PySem.Spec PyProof.Rows LamX NdefX
/-- a list or a tuple of names -/
def Nms (H : Hp) (b : Addr) (xs : List Str) : Prop := (H b = some (.lst (xs.map V.str)) ∨ H b = some (.tup (xs.map V.str)))
theorem Nms.keep {H H' : Hp} {b : Addr} {xs : List Str} (s : Same H H') (h : Nms H b xs) : Nms H' b xs := h.elim (fun h => .inl (s _ _ h)) (fun h => .inr (s _ _ h))
theorem Nms.seq {K : PySem.W.Frag} {H : Hp} {b : Addr} {xs : List Str} (h : Nms H b xs) : SqL K H b (xs.map V.str) ∨ SqT K H b (xs.map V.str) := h.elim (fun h => .inl (SqL.of h)) (fun h => .inr (SqT.of h))
theorem in_strs {x : Str} {xs : List Str} : inV (.str x) (xs.map V.str) = decide (x ∈ xs) := by
  unfold inV
  induction xs with
  | nil => rfl
  | cons y r ih =>
    rw [List.map_cons, List.any_cons, ih]
    by_cases e : y = x
    · subst e
      rw [decide_eq_true (List.mem_cons_self ..)]
      have e0 : eqV (.str y) (.str y) = true := by
        show decide (y = y) = true
        exact decide_eq_true rfl
      rw [e0]
      rfl
    · have e1 : eqV (.str y) (.str x) = false := by
        show decide (y = x) = false
        exact decide_eq_false e
      rw [e1, Bool.false_or]
      refine decide_eq_decide.mpr ⟨fun h => List.mem_cons_of_mem _ h, fun h => ?_⟩
      rcases List.mem_cons.mp h with h | h
      · exact absurd h.symm e
      · exact h
abbrev psF : List Str := ["thing", "boxes", "words", "deep"]
abbrev nmF : List Str := ["thing", "boxes", "words", "deep", "kind", "part"]
def spEF (n : Nat) : Sp := fun vs H Q _ => ∃ (v : V) (b wd : Addr) (e : Ex) (xs ws : List Str) (k : Nat), vs = [v, .ref b, .ref wd, .int k] ∧ ExAt H v e ∧ e.fit xs ws ∧ e.deep ≤ k ∧ k ≤ n ∧ Nms H b xs ∧ H wd = some (.tup (ws.map V.str)) ∧ ∀ H', Same H H' → Q (.bl true) H'
abbrev deedWords : List Str := ["plus", "less", "times", "over", "rest"]
theorem deed_in (d : Dd) : d.word ∈ deedWords := by cases d <;> decide
section
variable {P : Program} {w : World} {K : PySem.W.Frag} {mg : Str → Option Value} {base : Heap} {f rw' wi : Addr} {fd rd wid : FuncData}
theorem no_ef {k : Nat} : FnOk P w K mg base CX0 k f fd psF (spEF 0) := by
  have no : ∀ vs H Q E, ¬ spEF 0 vs H Q E := fun vs H Q E h => by
    obtain ⟨v, b, wd, e, xs, ws, k, _, _, _, h1, h2, _⟩ := h
    exact absurd (Nat.le_trans h1 h2) (Nat.not_le.mpr (Ex.deep_pos _))
  exact ⟨fun vs H Q E h => absurd h (no vs H Q E), fun A outer s H args us vs Q E _ _ _ _ h => absurd h (no vs H Q E)⟩
theorem ok_ef {n : Nat} (O : Own mg) (F : Fun K "expression_fits" "expression_fits" sExFits f fd) (G : FnOk P w K mg base CX0 (n + 3) f fd psF (spEF n)) (bG : Binds K fd psF []) (mG : mg "expression_fits" = some (.ref f))
    (R : FnOk P w K mg base CX0 1 rw' rd ["thing"] spRow) (bR : Binds K rd ["thing"] []) (kR : PySem.W.keepIn K (.ref rw') = true) (mR : mg "is_row" = some (.ref rw'))
    (WI : FnOk P w K mg base CX0 2 wi wid ["thing", "least", "most"] spWithin) (bW : Binds K wid ["thing", "least", "most"] []) (kW : PySem.W.keepIn K (.ref wi) = true) (mW : mg "is_within" = some (.ref wi))
    {DA : Addr} (mD : mg "DEEDS" = some (.ref DA)) (kD : KKeys K w DA deedWords) :
    FnOk P w K mg base CX0 (n + 4) f fd psF (spEF (n + 1)) := by
  refine F.ok scExFits (fun vs H Q E h => ?_) (fun cdv A outer s H vs Q E hr h => ?_)
  · obtain ⟨v, b, wd, e, xs, ws, k, rfl, _⟩ := h
    rfl
  obtain ⟨v, b, wd, e, xs, ws, k, rfl, hv, hf, hd, hk, hb, hw, q⟩ := h
  have hr1 := hr.mono (show 1 ≤ n + 3 by omega)
  have hr2 := hr.mono (show 2 ≤ n + 3 by omega)
  have k0 : ¬ (k : Int) = 0 := by have := e.deep_pos; omega
  refine ⟨_, pss_cons (ps_if (PW.pt (pw_or (pt_not (pt_val (pe_call R hr1 rfl mR kR bR .nil pass0 (pa_cons (pv 0) pa_nil)))) (pw_or1 (pt_cmpR op_eq (pv 3) pe_int (nomark _))))) (pss_one (ps_ret pe_bl)) pss_nil)
    (pss_cons (ps_set (i := 4) scExFits.nd rfl (Or.inl rfl) (pe_ix ix_tup (pv 0) pe_int (fun _ _ => rfl)))
    (pss_cons (ps_if (pt_cmpR op_eq (pv 4) pe_str (nomark _)) (pss_one (ps_ret (pe_and (pe_cmpR op_eq (pe_callB call_len_seq rfl O.len PySem.boot_len (pa_cons (pv 0) pa_nil)) pe_int (nomark _))
        (pe_one (pe_call WI hr2 rfl mW kW bW .nil pass0 (pa_cons (pe_ix ix_tup (pv 0) pe_int (fun _ _ => rfl)) (pa_cons pe_int (pa_cons pe_int pa_nil)))))))) pss_nil)
    (pss_cons (ps_if (pt_cmpR op_eq (pv 4) pe_str (nomark _)) (pss_one (ps_ret (pe_and (pe_cmpR op_eq (pe_callB call_len_seq rfl O.len PySem.boot_len (pa_cons (pv 0) pa_nil)) pe_int (nomark _))
        (pe_one (pe_cmpR op_in_seq (pe_ix ix_tup (pv 0) pe_int (fun _ _ => rfl)) (pv 1) (by rfl)))))) pss_nil)
    (pss_cons (ps_if (pt_cmpR op_in_seq (pv 4) (pe_callTy (call_listK rfl) rfl O.list (by decide +kernel) (pa_cons (pe_glob (v := .ref DA) rfl mD rfl) pa_nil)) (by rfl))
        (pss_one (ps_ret (pe_and (pe_cmpR op_eq (pe_callB call_len_seq rfl O.len PySem.boot_len (pa_cons (pv 0) pa_nil)) pe_int (nomark _))
          (pe_one (pe_callB (cr_all rfl) rfl O.all (by decide +kernel) (pa_cons (pe_lc (own := [("part", 5)]) (g := gName 5) (tt := tYes) rfl scExFits.nd
            (pi_tup (pe_slice sl_tup (pv 0) (po_some pe_int) po_none)) (blkOk_by (N := nmF) (sc := defScope sExFits) (by decide +kernel))
            (fun _ _ _ _ _ => pg_name (i := 5) scExFits.nd rfl (Or.inl rfl)) (fun _ _ _ _ _ => pts_nil)
            (fun _ _ _ _ _ => pe_call G hr rfl mG F.kp bG .nil pass0 (pa_cons (pv 5) (pa_cons (pv 1) (pa_cons (pv 2) (pa_cons (pe_op op_sub (pv 3) pe_int) pa_nil)))))) pa_nil)))))) pss_nil)
    (pss_one (ps_ret (pe_and (pe_cmpR op_eq (pe_callB call_len_seq rfl O.len PySem.boot_len (pa_cons (pv 0) pa_nil)) pe_int (nomark _)) (pe_one (pe_cmpR op_in_seq (pv 4) (pv 2) (by rfl)))))))))), ?_⟩
  have kk : decide (V.int (k : Int) = V.int 0) = false := decide_eq_false fun z => k0 (V.int.inj z)
  cases hv with
  | num h =>
    refine ⟨_, rfl, _, _, _, rfl, h, _, rfl, itF rfl ⟨_, rfl, rfl, _, rfl, itF kk ?_⟩⟩
    refine ⟨_, rfl, _, _, _, _, rfl, rfl, SqT.of h, atI_nat (j := 0) rfl, ?_⟩
    refine ⟨_, rfl, rfl, _, rfl, itT eq_str ?_⟩
    refine ⟨_, rfl, _, _, rfl, .inr (SqT.of h), rfl, _, rfl, itT rfl ?_⟩
    refine ⟨_, rfl, _, _, _, _, rfl, rfl, SqT.of h, atI_nat (j := 1) rfl, _, _, _, rfl, ?_⟩
    rename_i m
    have hf : 0 ≤ m ∧ m ≤ (999 : Int) := hf
    rw [decide_eq_true hf.1, decide_eq_true hf.2]
    exact q _ same_refl
  | box h =>
    refine ⟨_, rfl, _, _, _, rfl, h, _, rfl, itF rfl ⟨_, rfl, rfl, _, rfl, itF kk ?_⟩⟩
    refine ⟨_, rfl, _, _, _, _, rfl, rfl, SqT.of h, atI_nat (j := 0) rfl, ?_⟩
    refine ⟨_, rfl, rfl, _, rfl, itF (ne_str (by decide)) ?_⟩
    refine ⟨_, rfl, rfl, _, rfl, itT eq_str ?_⟩
    refine ⟨_, rfl, _, _, rfl, .inr (SqT.of h), rfl, _, rfl, itT rfl ?_⟩
    refine ⟨_, rfl, _, _, _, _, rfl, rfl, SqT.of h, atI_nat (j := 1) rfl, _, rfl, b, _, rfl, hb.seq, rfl, strs_flat _, ?_⟩
    have hf : _ ∈ xs := hf
    show Q (.bl (inV _ _)) H
    rw [in_strs, decide_eq_true hf]
    exact q _ same_refl
  | asked h =>
    refine ⟨_, rfl, _, _, _, rfl, h, _, rfl, itF rfl ⟨_, rfl, rfl, _, rfl, itF kk ?_⟩⟩
    refine ⟨_, rfl, _, _, _, _, rfl, rfl, SqT.of h, atI_nat (j := 0) rfl, ?_⟩
    refine ⟨_, rfl, rfl, _, rfl, itF (ne_str (by decide)) ?_⟩
    refine ⟨_, rfl, rfl, _, rfl, itF (ne_str (by decide)) ?_⟩
    refine ⟨_, rfl, DA, _, rfl, kD, fun p hp => ⟨p, _, rfl, .inl (SqL.of upd_same), rfl, rfl, _, rfl, itF rfl ?_⟩⟩
    have s1 := same_new hp (.lst (deedWords.map V.str))
    refine ⟨_, rfl, _, _, rfl, .inr (SqT.of (s1 _ _ h)), rfl, _, rfl, itT rfl ?_⟩
    refine ⟨_, rfl, _, rfl, wd, _, rfl, .inr (SqT.of (s1 _ _ hw)), rfl, strs_flat _, ?_⟩
    have hf : _ ∈ ws := hf
    show Q (.bl (inV _ _)) _
    rw [in_strs, decide_eq_true hf]
    exact q _ s1
  | told h =>
    refine ⟨_, rfl, _, _, _, rfl, h, _, rfl, itF rfl ⟨_, rfl, rfl, _, rfl, itF kk ?_⟩⟩
    refine ⟨_, rfl, _, _, _, _, rfl, rfl, SqT.of h, atI_nat (j := 0) rfl, ?_⟩
    refine ⟨_, rfl, rfl, _, rfl, itF (ne_str (by decide)) ?_⟩
    refine ⟨_, rfl, rfl, _, rfl, itF (ne_str (by decide)) ?_⟩
    refine ⟨_, rfl, DA, _, rfl, kD, fun p hp => ⟨p, _, rfl, .inl (SqL.of upd_same), rfl, rfl, _, rfl, itF rfl ?_⟩⟩
    have s1 := same_new hp (.lst (deedWords.map V.str))
    refine ⟨_, rfl, _, _, rfl, .inr (SqT.of (s1 _ _ h)), rfl, _, rfl, itT rfl ?_⟩
    refine ⟨_, rfl, _, rfl, wd, _, rfl, .inr (SqT.of (s1 _ _ hw)), rfl, strs_flat _, ?_⟩
    have hf : _ ∈ ws := hf
    show Q (.bl (inV _ _)) _
    rw [in_strs, decide_eq_true hf]
    exact q _ s1
  | op h h1 h2 =>
    rename_i a d x y l r
    have w1 : d.word ≠ "number" ∧ d.word ≠ "box" := by cases d <;> decide
    have hd : max l.deep r.deep + 1 ≤ k := hd
    refine ⟨_, rfl, _, _, _, rfl, h, _, rfl, itF rfl ⟨_, rfl, rfl, _, rfl, itF kk ?_⟩⟩
    refine ⟨_, rfl, _, _, _, _, rfl, rfl, SqT.of h, atI_nat (j := 0) rfl, ?_⟩
    refine ⟨_, rfl, rfl, _, rfl, itF (ne_str w1.1) ?_⟩
    refine ⟨_, rfl, rfl, _, rfl, itF (ne_str w1.2) ?_⟩
    refine ⟨_, rfl, DA, _, rfl, kD, fun p hp => ⟨p, _, rfl, .inl (SqL.of upd_same), rfl, rfl, _, rfl, itT ?_ ?_⟩⟩
    · show inV _ _ = true
      rw [in_strs]
      exact decide_eq_true (deed_in d)
    have s1 := same_new hp (.lst (deedWords.map V.str))
    refine ⟨_, rfl, _, _, rfl, .inr (SqT.of (s1 _ _ h)), rfl, _, rfl, itT rfl ?_⟩
    refine ⟨_, rfl, 1, rfl, a, _, rfl, SqT.of (s1 _ _ h), (by show ¬ (1 = 0 ∧ _); omega), fun p2 hp2 => ⟨p2, rfl, ⟨_, SqT.of upd_same⟩, fun C hC => ?_⟩⟩
    have s2 := s1.trans (same_new hp2 (.tup [x, y]))
    refine turns_tup (K := K) (a := p2) (xs := [x, y]) [some (.bl true), some (.bl true)] hC (fun Hc sm => SqT.of (sm _ _ upd_same)) rfl (by show 2 ≤ sizeLine; decide) ?_ ?_
    · intro i z o Hc Y N hx ho sm hY hN
      have s3 := s2.trans sm
      have ek : (k : Int) - 1 = ((k - 1 : Nat) : Int) := by omega
      match i, hx, ho with
      | 0, hx, ho =>
        cases hx
        cases ho
        exact ⟨rfl, _, rfl, _, rfl, _, rfl, _, rfl, _, _, rfl, rfl, x, b, wd, l, xs, ws, k - 1, (by rw [← ek]; rfl), h1.keep (Same.tups s3), hf.1, by omega, by omega, hb.keep s3, s3 _ _ hw, fun H4 s4 => hY _ rfl H4 s4⟩
      | 1, hx, ho =>
        cases hx
        cases ho
        exact ⟨rfl, _, rfl, _, rfl, _, rfl, _, rfl, _, _, rfl, rfl, y, b, wd, r, xs, ws, k - 1, (by rw [← ek]; rfl), h2.keep (Same.tups s3), hf.2, by omega, by omega, hb.keep s3, s3 _ _ hw, fun H4 s4 => hY _ rfl H4 s4⟩
    · intro Hc hc sm
      exact ⟨C, [true, true], rfl, SqL.of hc, q Hc (s2.trans sm)⟩
theorem all_ef (O : Own mg) (F : Fun K "expression_fits" "expression_fits" sExFits f fd) (bG : Binds K fd psF []) (mG : mg "expression_fits" = some (.ref f))
    (R : FnOk P w K mg base CX0 1 rw' rd ["thing"] spRow) (bR : Binds K rd ["thing"] []) (kR : PySem.W.keepIn K (.ref rw') = true) (mR : mg "is_row" = some (.ref rw'))
    (WI : FnOk P w K mg base CX0 2 wi wid ["thing", "least", "most"] spWithin) (bW : Binds K wid ["thing", "least", "most"] []) (kW : PySem.W.keepIn K (.ref wi) = true) (mW : mg "is_within" = some (.ref wi))
    {DA : Addr} (mD : mg "DEEDS" = some (.ref DA)) (kD : KKeys K w DA deedWords) : ∀ n : Nat, FnOk P w K mg base CX0 (n + 3) f fd psF (spEF n)
  | 0 => no_ef
  | n + 1 => ok_ef O F (all_ef O F bG mG R bR kR mR WI bW kW mW mD kD n) bG mG R bR kR mR WI bW kW mW mD kD
end
end Any
namespace Any
open L2 PySem PySem.Spec PyProof.Rows LamX NdefX
def spTF (n : Nat) : Sp := fun vs H Q _ => ∃ (v : V) (b wd : Addr) (e : Ts) (xs ws : List Str) (k : Nat), vs = [v, .ref b, .ref wd, .int k] ∧ TsAt H v e ∧ e.fit xs ws ∧ e.dp ≤ k ∧ k ≤ n ∧ k ≤ 6 ∧ Nms H b xs ∧ H wd = some (.tup (ws.map V.str)) ∧ ∀ H', Same H H' → Q (.bl true) H'
section
variable {P : Program} {w : World} {K : PySem.W.Frag} {mg : Str → Option Value} {base : Heap} {f ef rw' : Addr} {fd ed rd : FuncData}
theorem no_tf {k : Nat} : FnOk P w K mg base CX0 k f fd psF (spTF 0) := by
  have no : ∀ vs H Q E, ¬ spTF 0 vs H Q E := fun vs H Q E h => by
    obtain ⟨v, b, wd, e, xs, ws, k, _, _, _, h1, h2, _⟩ := h
    exact absurd (Nat.le_trans h1 h2) (Nat.not_le.mpr (Ts.dp_pos _))
  exact ⟨fun vs H Q E h => absurd h (no vs H Q E), fun A outer s H args us vs Q E _ _ _ _ h => absurd h (no vs H Q E)⟩
theorem ok_tf {n : Nat} (O : Own mg) (F : Fun K "test_fits" "test_fits" sTsFits f fd) (G : FnOk P w K mg base CX0 (n + 9) f fd psF (spTF n)) (bG : Binds K fd psF []) (mG : mg "test_fits" = some (.ref f))
    (R : FnOk P w K mg base CX0 1 rw' rd ["thing"] spRow) (bR : Binds K rd ["thing"] []) (kR : PySem.W.keepIn K (.ref rw') = true) (mR : mg "is_row" = some (.ref rw'))
    (GE : FnOk P w K mg base CX0 9 ef ed psF (spEF 6)) (bE : Binds K ed psF []) (kE : PySem.W.keepIn K (.ref ef) = true) (mE : mg "expression_fits" = some (.ref ef)) :
    FnOk P w K mg base CX0 (n + 10) f fd psF (spTF (n + 1)) := by
  refine F.ok scTsFits (fun vs H Q E h => ?_) (fun cdv A outer s H vs Q E hr h => ?_)
  · obtain ⟨v, b, wd, e, xs, ws, k, rfl, _⟩ := h
    rfl
  obtain ⟨v, b, wd, e, xs, ws, k, rfl, hv, hf, hd, hk, hk6, hb, hw, q⟩ := h
  have hr1 := hr.mono (show 1 ≤ n + 9 by omega)
  have hr9 := hr.mono (show 9 ≤ n + 9 by omega)
  have k0 : ¬ (k : Int) = 0 := by have := e.dp_pos; omega
  have two : 2 ≤ sizeLine := by decide
  have ek : (k : Int) - 1 = ((k - 1 : Nat) : Int) := by have := e.dp_pos; omega
  refine ⟨_, pss_cons (ps_if (PW.pt (pw_or (pt_not (pt_val (pe_call R hr1 rfl mR kR bR .nil pass0 (pa_cons (pv 0) pa_nil)))) (pw_or1 (pt_cmpR op_eq (pv 3) pe_int (nomark _))))) (pss_one (ps_ret pe_bl)) pss_nil)
    (pss_cons (ps_set (i := 4) scTsFits.nd rfl (Or.inl rfl) (pe_ix ix_tup (pv 0) pe_int (fun _ _ => rfl)))
    (pss_cons (ps_if (pt_cmpR op_in_seq (pv 4) (pe_tup (pa_cons pe_str (pa_cons pe_str pa_nil))) (by rfl))
        (pss_one (ps_ret (pe_and (pe_cmpR op_eq (pe_callB call_len_seq rfl O.len PySem.boot_len (pa_cons (pv 0) pa_nil)) pe_int (nomark _))
          (pe_one (pe_callB (cr_all rfl) rfl O.all (by decide +kernel) (pa_cons (pe_lc (own := [("part", 5)]) (g := gName 5) (tt := tYes) rfl scTsFits.nd
            (pi_tup (pe_slice sl_tup (pv 0) (po_some pe_int) po_none)) (blkOk_by (N := nmF) (sc := defScope sTsFits) (by decide +kernel))
            (fun _ _ _ _ _ => pg_name (i := 5) scTsFits.nd rfl (Or.inl rfl)) (fun _ _ _ _ _ => pts_nil)
            (fun _ _ _ _ _ => pe_call GE hr9 rfl mE kE bE .nil pass0 (pa_cons (pv 5) (pa_cons (pv 1) (pa_cons (pv 2) (pa_cons (pe_op op_sub (pv 3) pe_int) pa_nil)))))) pa_nil)))))) pss_nil)
    (pss_cons (ps_if (pt_cmpR op_eq (pv 4) pe_str (nomark _)) (pss_one (ps_ret (pe_and (pe_cmpR op_eq (pe_callB call_len_seq rfl O.len PySem.boot_len (pa_cons (pv 0) pa_nil)) pe_int (nomark _))
        (pe_one (pe_call G hr rfl mG F.kp bG .nil pass0 (pa_cons (pe_ix ix_tup (pv 0) pe_int (fun _ _ => rfl)) (pa_cons (pv 1) (pa_cons (pv 2) (pa_cons (pe_op op_sub (pv 3) pe_int) pa_nil))))))))) pss_nil)
    (pss_cons (ps_if (pt_cmpR op_in_seq (pv 4) (pe_tup (pa_cons pe_str (pa_cons pe_str pa_nil))) (by rfl))
        (pss_one (ps_ret (pe_and (pe_cmpR op_eq (pe_callB call_len_seq rfl O.len PySem.boot_len (pa_cons (pv 0) pa_nil)) pe_int (nomark _))
          (pe_one (pe_callB (cr_all rfl) rfl O.all (by decide +kernel) (pa_cons (pe_lc (own := [("part", 5)]) (g := gName 5) (tt := tYes) rfl scTsFits.nd
            (pi_tup (pe_slice sl_tup (pv 0) (po_some pe_int) po_none)) (blkOk_by (N := nmF) (sc := defScope sTsFits) (by decide +kernel))
            (fun _ _ _ _ _ => pg_name (i := 5) scTsFits.nd rfl (Or.inl rfl)) (fun _ _ _ _ _ => pts_nil)
            (fun _ _ _ _ _ => pe_call G hr rfl mG F.kp bG .nil pass0 (pa_cons (pv 5) (pa_cons (pv 1) (pa_cons (pv 2) (pa_cons (pe_op op_sub (pv 3) pe_int) pa_nil)))))) pa_nil)))))) pss_nil)
    (pss_one (ps_ret pe_bl)))))), ?_⟩
  have kk : decide (V.int (k : Int) = V.int 0) = false := decide_eq_false fun z => k0 (V.int.inj z)
  cases hv with
  | is h h1 h2 =>
    rename_i a x y l r
    have hd : max l.deep r.deep + 1 ≤ k := hd
    refine ⟨_, rfl, _, _, _, rfl, h, _, rfl, itF rfl ⟨_, rfl, rfl, _, rfl, itF kk ?_⟩⟩
    refine ⟨_, rfl, _, _, _, _, rfl, rfl, SqT.of h, atI_nat (j := 0) rfl, ?_⟩
    refine ⟨_, rfl, two, fun p hp => ⟨p, _, rfl, .inr (SqT.of upd_same), rfl, rfl, _, rfl, itT rfl ?_⟩⟩
    have s1 := same_new hp (.tup [.str "is", .str "below"])
    refine ⟨_, rfl, _, _, rfl, .inr (SqT.of (s1 _ _ h)), rfl, _, rfl, itT rfl ?_⟩
    refine ⟨_, rfl, 1, rfl, a, _, rfl, SqT.of (s1 _ _ h), (by show ¬ (1 = 0 ∧ _); omega), fun p2 hp2 => ⟨p2, rfl, ⟨_, SqT.of upd_same⟩, fun C hC => ?_⟩⟩
    have s2 := s1.trans (same_new hp2 (.tup [x, y]))
    refine turns_tup (K := K) (a := p2) (xs := [x, y]) [some (.bl true), some (.bl true)] hC (fun Hc sm => SqT.of (sm _ _ upd_same)) rfl two ?_ ?_
    · intro i z o Hc Y N hx ho sm hY hN
      have s3 := s2.trans sm
      match i, hx, ho with
      | 0, hx, ho =>
        cases hx
        cases ho
        exact ⟨rfl, _, rfl, _, rfl, _, rfl, _, rfl, _, _, rfl, rfl, x, b, wd, l, xs, ws, k - 1, (by rw [← ek]; rfl), h1.keep (Same.tups s3), hf.1, by omega, by omega, hb.keep s3, s3 _ _ hw, fun H4 s4 => hY _ rfl H4 s4⟩
      | 1, hx, ho =>
        cases hx
        cases ho
        exact ⟨rfl, _, rfl, _, rfl, _, rfl, _, rfl, _, _, rfl, rfl, y, b, wd, r, xs, ws, k - 1, (by rw [← ek]; rfl), h2.keep (Same.tups s3), hf.2, by omega, by omega, hb.keep s3, s3 _ _ hw, fun H4 s4 => hY _ rfl H4 s4⟩
    · intro Hc hc sm
      exact ⟨C, [true, true], rfl, SqL.of hc, q Hc (s2.trans sm)⟩
  | bel h h1 h2 =>
    rename_i a x y l r
    have hd : max l.deep r.deep + 1 ≤ k := hd
    refine ⟨_, rfl, _, _, _, rfl, h, _, rfl, itF rfl ⟨_, rfl, rfl, _, rfl, itF kk ?_⟩⟩
    refine ⟨_, rfl, _, _, _, _, rfl, rfl, SqT.of h, atI_nat (j := 0) rfl, ?_⟩
    refine ⟨_, rfl, two, fun p hp => ⟨p, _, rfl, .inr (SqT.of upd_same), rfl, rfl, _, rfl, itT rfl ?_⟩⟩
    have s1 := same_new hp (.tup [.str "is", .str "below"])
    refine ⟨_, rfl, _, _, rfl, .inr (SqT.of (s1 _ _ h)), rfl, _, rfl, itT rfl ?_⟩
    refine ⟨_, rfl, 1, rfl, a, _, rfl, SqT.of (s1 _ _ h), (by show ¬ (1 = 0 ∧ _); omega), fun p2 hp2 => ⟨p2, rfl, ⟨_, SqT.of upd_same⟩, fun C hC => ?_⟩⟩
    have s2 := s1.trans (same_new hp2 (.tup [x, y]))
    refine turns_tup (K := K) (a := p2) (xs := [x, y]) [some (.bl true), some (.bl true)] hC (fun Hc sm => SqT.of (sm _ _ upd_same)) rfl two ?_ ?_
    · intro i z o Hc Y N hx ho sm hY hN
      have s3 := s2.trans sm
      match i, hx, ho with
      | 0, hx, ho =>
        cases hx
        cases ho
        exact ⟨rfl, _, rfl, _, rfl, _, rfl, _, rfl, _, _, rfl, rfl, x, b, wd, l, xs, ws, k - 1, (by rw [← ek]; rfl), h1.keep (Same.tups s3), hf.1, by omega, by omega, hb.keep s3, s3 _ _ hw, fun H4 s4 => hY _ rfl H4 s4⟩
      | 1, hx, ho =>
        cases hx
        cases ho
        exact ⟨rfl, _, rfl, _, rfl, _, rfl, _, rfl, _, _, rfl, rfl, y, b, wd, r, xs, ws, k - 1, (by rw [← ek]; rfl), h2.keep (Same.tups s3), hf.2, by omega, by omega, hb.keep s3, s3 _ _ hw, fun H4 s4 => hY _ rfl H4 s4⟩
    · intro Hc hc sm
      exact ⟨C, [true, true], rfl, SqL.of hc, q Hc (s2.trans sm)⟩
  | nt h h1 =>
    rename_i a x t
    have hd : t.dp + 1 ≤ k := hd
    refine ⟨_, rfl, _, _, _, rfl, h, _, rfl, itF rfl ⟨_, rfl, rfl, _, rfl, itF kk ?_⟩⟩
    refine ⟨_, rfl, _, _, _, _, rfl, rfl, SqT.of h, atI_nat (j := 0) rfl, ?_⟩
    refine ⟨_, rfl, two, fun p hp => ⟨p, _, rfl, .inr (SqT.of upd_same), rfl, rfl, _, rfl, itF rfl ?_⟩⟩
    have s1 := same_new hp (.tup [.str "is", .str "below"])
    refine ⟨_, rfl, rfl, _, rfl, itT eq_str ?_⟩
    refine ⟨_, rfl, _, _, rfl, .inr (SqT.of (s1 _ _ h)), rfl, _, rfl, itT rfl ?_⟩
    exact ⟨_, rfl, _, _, _, _, rfl, rfl, SqT.of (s1 _ _ h), atI_nat (j := 1) rfl, _, rfl, _, rfl, _, rfl, _, _, rfl, rfl, x, b, wd, t, xs, ws, k - 1, (by rw [← ek]; rfl), h1.keep (Same.tups s1), hf, by omega, by omega, by omega, hb.keep s1, s1 _ _ hw, fun H4 s4 => q H4 (s1.trans s4)⟩
  | both h h1 h2 =>
    rename_i a x y l r
    have hd : max l.dp r.dp + 1 ≤ k := hd
    refine ⟨_, rfl, _, _, _, rfl, h, _, rfl, itF rfl ⟨_, rfl, rfl, _, rfl, itF kk ?_⟩⟩
    refine ⟨_, rfl, _, _, _, _, rfl, rfl, SqT.of h, atI_nat (j := 0) rfl, ?_⟩
    refine ⟨_, rfl, two, fun p hp => ⟨p, _, rfl, .inr (SqT.of upd_same), rfl, rfl, _, rfl, itF rfl ?_⟩⟩
    have s1 := same_new hp (.tup [.str "is", .str "below"])
    refine ⟨_, rfl, rfl, _, rfl, itF (ne_str (by decide)) ?_⟩
    refine ⟨_, rfl, two, fun p1 hp1 => ⟨p1, _, rfl, .inr (SqT.of upd_same), rfl, rfl, _, rfl, itT rfl ?_⟩⟩
    have s1 := s1.trans (same_new hp1 (.tup [.str "both", .str "either"]))
    refine ⟨_, rfl, _, _, rfl, .inr (SqT.of (s1 _ _ h)), rfl, _, rfl, itT rfl ?_⟩
    refine ⟨_, rfl, 1, rfl, a, _, rfl, SqT.of (s1 _ _ h), (by show ¬ (1 = 0 ∧ _); omega), fun p2 hp2 => ⟨p2, rfl, ⟨_, SqT.of upd_same⟩, fun C hC => ?_⟩⟩
    have s2 := s1.trans (same_new hp2 (.tup [x, y]))
    refine turns_tup (K := K) (a := p2) (xs := [x, y]) [some (.bl true), some (.bl true)] hC (fun Hc sm => SqT.of (sm _ _ upd_same)) rfl two ?_ ?_
    · intro i z o Hc Y N hx ho sm hY hN
      have s3 := s2.trans sm
      match i, hx, ho with
      | 0, hx, ho =>
        cases hx
        cases ho
        exact ⟨rfl, _, rfl, _, rfl, _, rfl, _, rfl, _, _, rfl, rfl, x, b, wd, l, xs, ws, k - 1, (by rw [← ek]; rfl), h1.keep (Same.tups s3), hf.1, by omega, by omega, by omega, hb.keep s3, s3 _ _ hw, fun H4 s4 => hY _ rfl H4 s4⟩
      | 1, hx, ho =>
        cases hx
        cases ho
        exact ⟨rfl, _, rfl, _, rfl, _, rfl, _, rfl, _, _, rfl, rfl, y, b, wd, r, xs, ws, k - 1, (by rw [← ek]; rfl), h2.keep (Same.tups s3), hf.2, by omega, by omega, by omega, hb.keep s3, s3 _ _ hw, fun H4 s4 => hY _ rfl H4 s4⟩
    · intro Hc hc sm
      exact ⟨C, [true, true], rfl, SqL.of hc, q Hc (s2.trans sm)⟩
  | either h h1 h2 =>
    rename_i a x y l r
    have hd : max l.dp r.dp + 1 ≤ k := hd
    refine ⟨_, rfl, _, _, _, rfl, h, _, rfl, itF rfl ⟨_, rfl, rfl, _, rfl, itF kk ?_⟩⟩
    refine ⟨_, rfl, _, _, _, _, rfl, rfl, SqT.of h, atI_nat (j := 0) rfl, ?_⟩
    refine ⟨_, rfl, two, fun p hp => ⟨p, _, rfl, .inr (SqT.of upd_same), rfl, rfl, _, rfl, itF rfl ?_⟩⟩
    have s1 := same_new hp (.tup [.str "is", .str "below"])
    refine ⟨_, rfl, rfl, _, rfl, itF (ne_str (by decide)) ?_⟩
    refine ⟨_, rfl, two, fun p1 hp1 => ⟨p1, _, rfl, .inr (SqT.of upd_same), rfl, rfl, _, rfl, itT rfl ?_⟩⟩
    have s1 := s1.trans (same_new hp1 (.tup [.str "both", .str "either"]))
    refine ⟨_, rfl, _, _, rfl, .inr (SqT.of (s1 _ _ h)), rfl, _, rfl, itT rfl ?_⟩
    refine ⟨_, rfl, 1, rfl, a, _, rfl, SqT.of (s1 _ _ h), (by show ¬ (1 = 0 ∧ _); omega), fun p2 hp2 => ⟨p2, rfl, ⟨_, SqT.of upd_same⟩, fun C hC => ?_⟩⟩
    have s2 := s1.trans (same_new hp2 (.tup [x, y]))
    refine turns_tup (K := K) (a := p2) (xs := [x, y]) [some (.bl true), some (.bl true)] hC (fun Hc sm => SqT.of (sm _ _ upd_same)) rfl two ?_ ?_
    · intro i z o Hc Y N hx ho sm hY hN
      have s3 := s2.trans sm
      match i, hx, ho with
      | 0, hx, ho =>
        cases hx
        cases ho
        exact ⟨rfl, _, rfl, _, rfl, _, rfl, _, rfl, _, _, rfl, rfl, x, b, wd, l, xs, ws, k - 1, (by rw [← ek]; rfl), h1.keep (Same.tups s3), hf.1, by omega, by omega, by omega, hb.keep s3, s3 _ _ hw, fun H4 s4 => hY _ rfl H4 s4⟩
      | 1, hx, ho =>
        cases hx
        cases ho
        exact ⟨rfl, _, rfl, _, rfl, _, rfl, _, rfl, _, _, rfl, rfl, y, b, wd, r, xs, ws, k - 1, (by rw [← ek]; rfl), h2.keep (Same.tups s3), hf.2, by omega, by omega, by omega, hb.keep s3, s3 _ _ hw, fun H4 s4 => hY _ rfl H4 s4⟩
    · intro Hc hc sm
      exact ⟨C, [true, true], rfl, SqL.of hc, q Hc (s2.trans sm)⟩
theorem all_tf (O : Own mg) (F : Fun K "test_fits" "test_fits" sTsFits f fd) (bG : Binds K fd psF []) (mG : mg "test_fits" = some (.ref f))
    (R : FnOk P w K mg base CX0 1 rw' rd ["thing"] spRow) (bR : Binds K rd ["thing"] []) (kR : PySem.W.keepIn K (.ref rw') = true) (mR : mg "is_row" = some (.ref rw'))
    (GE : FnOk P w K mg base CX0 9 ef ed psF (spEF 6)) (bE : Binds K ed psF []) (kE : PySem.W.keepIn K (.ref ef) = true) (mE : mg "expression_fits" = some (.ref ef)) : ∀ n : Nat, FnOk P w K mg base CX0 (n + 9) f fd psF (spTF n)
  | 0 => no_tf
  | n + 1 => ok_tf O F (all_tf O F bG mG R bR kR mR GE bE kE mE n) bG mG R bR kR mR GE bE kE mE
/-! ### is_expression, is_test -/
abbrev ps3 : List Str := ["thing", "boxes", "words"]
/-- an expression as point 4 has it, of these boxes and words -/
def Ex.right (xs ws : List Str) (e : Ex) : Prop := e.fit xs ws ∧ e.deep ≤ 5 ∧ e.cnt ≤ 16
def Ts.right (xs ws : List Str) (e : Ts) : Prop := e.fit xs ws ∧ e.dp ≤ 5 ∧ e.cnt ≤ 16
def spIsE : Sp := fun vs H Q _ => ∃ (v : V) (b wd : Addr) (e : Ex) (xs ws : List Str), vs = [v, .ref b, .ref wd] ∧ ExAt H v e ∧ e.right xs ws ∧ Nms H b xs ∧ H wd = some (.tup (ws.map V.str)) ∧ ∀ H', Same H H' → Q (.bl true) H'
def spIsT : Sp := fun vs H Q _ => ∃ (v : V) (b wd : Addr) (e : Ts) (xs ws : List Str), vs = [v, .ref b, .ref wd] ∧ TsAt H v e ∧ e.right xs ws ∧ Nms H b xs ∧ H wd = some (.tup (ws.map V.str)) ∧ ∀ H', Same H H' → Q (.bl true) H'
theorem ok_isE {ct : Addr} {cd : FuncData} (F : Fun K "is_expression" "is_expression" sIsExpr f fd) (GE : FnOk P w K mg base CX0 9 ef ed psF (spEF 6)) (bE : Binds K ed psF []) (kE : PySem.W.keepIn K (.ref ef) = true) (mE : mg "expression_fits" = some (.ref ef))
    (GC : FnOk P w K mg base CX0 7 ct cd ["term"] (spCount 6)) (bC : Binds K cd ["term"] []) (kC : PySem.W.keepIn K (.ref ct) = true) (mC : mg "count_terms" = some (.ref ct)) {t5 t16 : Tok} (m5 : mg "MOST_DEEP_TERM" = some (.int 5 t5)) (m16 : mg "MOST_TERMS" = some (.int 16 t16)) :
    FnOk P w K mg base CX0 10 f fd ps3 spIsE := by
  refine F.ok scIsExpr (fun vs H Q E h => ?_) (fun cdv A outer s H vs Q E hr h => ?_)
  · obtain ⟨v, b, wd, e, xs, ws, rfl, _⟩ := h
    rfl
  obtain ⟨v, b, wd, e, xs, ws, rfl, hv, ⟨hf, hd, hc⟩, hb, hw, q⟩ := h
  refine ⟨_, pss_one (ps_ret (pe_and (pe_call GE hr rfl mE kE bE .nil pass0 (pa_cons (pv 0) (pa_cons (pv 1) (pa_cons (pv 2) (pa_cons (pe_glob (v := .int 5) rfl m5 ⟨_, rfl⟩) pa_nil)))))
    (pe_one (pe_cmpR op_le (pe_call GC (hr.mono (by decide)) rfl mC kC bC .nil pass0 (pa_cons (pv 0) pa_nil)) (pe_glob (v := .int 16) rfl m16 ⟨_, rfl⟩) (nomark _))))), ?_⟩
  refine ⟨_, rfl, _, rfl, _, rfl, v, b, wd, e, xs, ws, 5, rfl, hv, hf, hd, by decide, hb, hw, fun H1 s1 => ⟨_, rfl, ?_⟩⟩
  refine ⟨_, rfl, v, _, rfl, .ex (hv.keep (Same.tups s1)) (by omega), fun H2 s2 => ⟨_, _, rfl, rfl, ?_⟩⟩
  show Q (.bl (decide ((e.cnt : Int) ≤ 16))) H2
  rw [decide_eq_true (by omega)]
  exact q H2 (s1.trans s2)
theorem ok_isT {tf ct : Addr} {td cd : FuncData} (F : Fun K "is_test" "is_test" sIsTest f fd) (GE : FnOk P w K mg base CX0 15 tf td psF (spTF 6)) (bE : Binds K td psF []) (kE : PySem.W.keepIn K (.ref tf) = true) (mE : mg "test_fits" = some (.ref tf))
    (GC : FnOk P w K mg base CX0 7 ct cd ["term"] (spCount 6)) (bC : Binds K cd ["term"] []) (kC : PySem.W.keepIn K (.ref ct) = true) (mC : mg "count_terms" = some (.ref ct)) {t5 t16 : Tok} (m5 : mg "MOST_DEEP_TERM" = some (.int 5 t5)) (m16 : mg "MOST_TERMS" = some (.int 16 t16)) :
    FnOk P w K mg base CX0 16 f fd ps3 spIsT := by
  refine F.ok scIsTest (fun vs H Q E h => ?_) (fun cdv A outer s H vs Q E hr h => ?_)
  · obtain ⟨v, b, wd, e, xs, ws, rfl, _⟩ := h
    rfl
  obtain ⟨v, b, wd, e, xs, ws, rfl, hv, ⟨hf, hd, hc⟩, hb, hw, q⟩ := h
  refine ⟨_, pss_one (ps_ret (pe_and (pe_call GE hr rfl mE kE bE .nil pass0 (pa_cons (pv 0) (pa_cons (pv 1) (pa_cons (pv 2) (pa_cons (pe_glob (v := .int 5) rfl m5 ⟨_, rfl⟩) pa_nil)))))
    (pe_one (pe_cmpR op_le (pe_call GC (hr.mono (by decide)) rfl mC kC bC .nil pass0 (pa_cons (pv 0) pa_nil)) (pe_glob (v := .int 16) rfl m16 ⟨_, rfl⟩) (nomark _))))), ?_⟩
  refine ⟨_, rfl, _, rfl, _, rfl, v, b, wd, e, xs, ws, 5, rfl, hv, hf, hd, by decide, by decide, hb, hw, fun H1 s1 => ⟨_, rfl, ?_⟩⟩
  refine ⟨_, rfl, v, _, rfl, .ts (hv.keep (Same.tups s1)) (by omega), fun H2 s2 => ⟨_, _, rfl, rfl, ?_⟩⟩
  show Q (.bl (decide ((e.cnt : Int) ≤ 16))) H2
  rw [decide_eq_true (by omega)]
  exact q H2 (s1.trans s2)
end
end Any
namespace Any
open L2 PySem PySem.Spec PyProof.Rows LamX NdefX
/-! ### steps and bodies -/
mutual
inductive Sg
  | set (x : Str) (e : Ex) | say (x : Str) (e : Ex) | hear (x : Str) | call (x r : Str) (e : Ex)
  | ifs (t : Ts) (a b : Bd) | fors (e : Ex) (m : Int) (a : Bd)
inductive Bd
  | nil | cons (s : Sg) (b : Bd)
end
def Bd.len : Bd → Nat
  | .nil => 0
  | .cons _ b => b.len + 1
mutual
/-- how many stand within one another -/
def Sg.dp : Sg → Nat
  | .ifs _ a b => max a.dp b.dp + 1
  | .fors _ _ a => a.dp + 1
  | .set _ _ => 1
  | .say _ _ => 1
  | .hear _ => 1
  | .call _ _ _ => 1
def Bd.dp : Bd → Nat
  | .nil => 0
  | .cons s b => max s.dp b.dp
end
mutual
/-- how many in all -/
def Sg.tot : Sg → Nat
  | .ifs _ a b => 1 + (a.tot + b.tot)
  | .fors _ _ a => 1 + a.tot
  | .set _ _ => 1
  | .say _ _ => 1
  | .hear _ => 1
  | .call _ _ _ => 1
def Bd.tot : Bd → Nat
  | .nil => 0
  | .cons s b => s.tot + b.tot
end
mutual
/-- as point 6 has them, of these boxes, words and rooms beneath -/
def Sg.ok (xs ws rs : List Str) : Sg → Prop
  | .set x e => x ∈ xs ∧ e.right xs ws
  | .say x e => x ∈ xs ∧ e.right xs ws
  | .hear x => x ∈ xs
  | .call x r e => x ∈ xs ∧ r ∈ rs ∧ e.right xs ws
  | .ifs t a b => t.right xs ws ∧ (a.ok xs ws rs ∧ a.len ≤ 12) ∧ (b.ok xs ws rs ∧ b.len ≤ 12)
  | .fors e m a => e.right xs ws ∧ (1 ≤ m ∧ m ≤ 9) ∧ (a.ok xs ws rs ∧ a.len ≤ 12)
def Bd.ok (xs ws rs : List Str) : Bd → Prop
  | .nil => True
  | .cons s b => s.ok xs ws rs ∧ b.ok xs ws rs
end
mutual
/-- a step in the heap -/
def SgAt (H : Hp) (v : V) : Sg → Prop
  | .set x e => ∃ a u, v = .ref a ∧ H a = some (.tup [.str "set", .str x, u]) ∧ ExAt H u e
  | .say x e => ∃ a u, v = .ref a ∧ H a = some (.tup [.str "say", .str x, u]) ∧ ExAt H u e
  | .hear x => ∃ a, v = .ref a ∧ H a = some (.tup [.str "hear", .str x])
  | .call x r e => ∃ a u, v = .ref a ∧ H a = some (.tup [.str "call", .str x, .str r, u]) ∧ ExAt H u e
  | .ifs t p q => ∃ a u b c vs us, v = .ref a ∧ H a = some (.tup [.str "if", u, .ref b, .ref c]) ∧ TsAt H u t ∧ H b = some (.tup vs) ∧ BdL H vs p ∧ H c = some (.tup us) ∧ BdL H us q
  | .fors e m p => ∃ a u b vs, v = .ref a ∧ H a = some (.tup [.str "for", u, .int m, .ref b]) ∧ ExAt H u e ∧ H b = some (.tup vs) ∧ BdL H vs p
/-- steps in the heap -/
def BdL (H : Hp) (vs : List V) : Bd → Prop
  | .nil => vs = []
  | .cons s b => ∃ v us, vs = v :: us ∧ SgAt H v s ∧ BdL H us b
end
/-- a body: a tuple of steps -/
def BdAt (H : Hp) (a : Addr) (b : Bd) : Prop := ∃ vs, H a = some (.tup vs) ∧ BdL H vs b
mutual
theorem SgAt.keep {H H' : Hp} (k : Tups H H') : ∀ (s : Sg) {v : V}, SgAt H v s → SgAt H' v s
  | .set x e, v, h => by
    unfold SgAt at h ⊢
    obtain ⟨a, u, h1, h2, h3⟩ := h
    exact ⟨a, u, h1, k _ _ h2, h3.keep k⟩
  | .say x e, v, h => by
    unfold SgAt at h ⊢
    obtain ⟨a, u, h1, h2, h3⟩ := h
    exact ⟨a, u, h1, k _ _ h2, h3.keep k⟩
  | .hear x, v, h => by
    unfold SgAt at h ⊢
    obtain ⟨a, h1, h2⟩ := h
    exact ⟨a, h1, k _ _ h2⟩
  | .call x r e, v, h => by
    unfold SgAt at h ⊢
    obtain ⟨a, u, h1, h2, h3⟩ := h
    exact ⟨a, u, h1, k _ _ h2, h3.keep k⟩
  | .ifs t p q, v, h => by
    unfold SgAt at h ⊢
    obtain ⟨a, u, b, c, vs, us, h1, h2, h3, h4, h5, h6, h7⟩ := h
    exact ⟨a, u, b, c, vs, us, h1, k _ _ h2, h3.keep k, k _ _ h4, BdL.keep k p h5, k _ _ h6, BdL.keep k q h7⟩
  | .fors e m p, v, h => by
    unfold SgAt at h ⊢
    obtain ⟨a, u, b, vs, h1, h2, h3, h4, h5⟩ := h
    exact ⟨a, u, b, vs, h1, k _ _ h2, h3.keep k, k _ _ h4, BdL.keep k p h5⟩
theorem BdL.keep {H H' : Hp} (k : Tups H H') : ∀ (b : Bd) {vs : List V}, BdL H vs b → BdL H' vs b
  | .nil, vs, h => by
    unfold BdL at h ⊢
    exact h
  | .cons s b, vs, h => by
    unfold BdL at h ⊢
    obtain ⟨v, us, h1, h2, h3⟩ := h
    exact ⟨v, us, h1, SgAt.keep k s h2, BdL.keep k b h3⟩
end
theorem BdL.len {H : Hp} : ∀ {b : Bd} {vs : List V}, BdL H vs b → vs.length = b.len
  | .nil, vs, h => by
    unfold BdL at h
    subst h
    rfl
  | .cons s b, vs, h => by
    unfold BdL at h
    obtain ⟨v, us, rfl, _, h3⟩ := h
    rw [List.length_cons, BdL.len h3]
    rfl
theorem Sg.dp_pos : ∀ s : Sg, 0 < s.dp
  | .set _ _ => by unfold Sg.dp; omega
  | .say _ _ => by unfold Sg.dp; omega
  | .hear _ => by unfold Sg.dp; omega
  | .call _ _ _ => by unfold Sg.dp; omega
  | .ifs _ _ _ => by unfold Sg.dp; omega
  | .fors _ _ _ => by unfold Sg.dp; omega
/-- the steps of a body, one by one -/
theorem BdL.at {H : Hp} {xs ws rs : List Str} {k : Nat} : ∀ {b : Bd} {vs : List V}, BdL H vs b → b.ok xs ws rs → b.dp ≤ k → ∀ {i : Nat} {v : V}, vs[i]? = some v → ∃ s, SgAt H v s ∧ s.ok xs ws rs ∧ s.dp ≤ k
  | .nil, vs, h, _, _, i, v, e => by
    unfold BdL at h
    subst h
    simp at e
  | .cons s b, vs, h, ho, hd, i, v, e => by
    unfold BdL at h
    unfold Bd.ok at ho
    unfold Bd.dp at hd
    obtain ⟨u, us, rfl, h2, h3⟩ := h
    cases i with
    | zero =>
      cases e
      exact ⟨s, h2, ho.1, by omega⟩
    | succ i => exact BdL.at h3 ho.2 (by omega) (i := i) e
theorem fm_true : ∀ us : List V, (us.map fun _ => some (V.bl true)).filterMap id = (us.map fun _ => true).map V.bl
  | [] => rfl
  | x :: r => by
    rw [List.map_cons, List.map_cons, List.map_cons, ← fm_true r]
    rfl
abbrev sBody : Stmt := top 29
abbrev sBFits : Stmt := top 30
abbrev sSFits : Stmt := top 31
abbrev sAll : Stmt := top 32
abbrev sWithinB : Stmt := top 33
abbrev ps4 : List Str := ["thing", "boxes", "words", "beneath"]
abbrev psB : List Str := ["thing", "boxes", "words", "beneath", "deep"]
abbrev psS : List Str := ["step", "boxes", "words", "beneath", "deep"]
abbrev nmB : List Str := ["thing", "boxes", "words", "beneath", "deep", "step"]
abbrev nmS : List Str := ["step", "boxes", "words", "beneath", "deep", "kind", "body"]
theorem scBody : FnScope ps4 ps4 (defScope sBody) := ⟨rfl, rfl, rfl, by decide +kernel, rfl, by decide +kernel, by decide +kernel⟩
theorem scBFits : FnScope nmB psB (defScope sBFits) := ⟨rfl, rfl, rfl, by decide +kernel, rfl, by decide +kernel, by decide +kernel⟩
theorem scSFits : FnScope nmS psS (defScope sSFits) := ⟨rfl, rfl, rfl, by decide +kernel, rfl, by decide +kernel, by decide +kernel⟩
def spBF (n : Nat) : Sp := fun vs H Q _ => ∃ (a b wd bn : Addr) (bd : Bd) (xs ws rs : List Str) (k : Nat), vs = [.ref a, .ref b, .ref wd, .ref bn, .int k] ∧ BdAt H a bd ∧ bd.ok xs ws rs ∧ bd.len ≤ 12 ∧ bd.dp ≤ k ∧ k ≤ n ∧
  Nms H b xs ∧ H wd = some (.tup (ws.map V.str)) ∧ Nms H bn rs ∧ ∀ H', Same H H' → Q (.bl true) H'
def spSF (n : Nat) : Sp := fun vs H Q _ => ∃ (v : V) (b wd bn : Addr) (sg : Sg) (xs ws rs : List Str) (k : Nat), vs = [v, .ref b, .ref wd, .ref bn, .int k] ∧ SgAt H v sg ∧ sg.ok xs ws rs ∧ sg.dp ≤ k ∧ k ≤ n ∧
  Nms H b xs ∧ H wd = some (.tup (ws.map V.str)) ∧ Nms H bn rs ∧ ∀ H', Same H H' → Q (.bl true) H'
section
variable {P : Program} {w : World} {K : PySem.W.Frag} {mg : Str → Option Value} {base : Heap} {f sf : Addr} {fd sd : FuncData}
theorem no_sf {k : Nat} : FnOk P w K mg base CX0 k f fd psS (spSF 0) := by
  have no : ∀ vs H Q E, ¬ spSF 0 vs H Q E := fun vs H Q E h => by
    obtain ⟨v, b, wd, bn, sg, xs, ws, rs, k, _, _, _, h1, h2, _⟩ := h
    exact absurd (Nat.le_trans h1 h2) (Nat.not_le.mpr (Sg.dp_pos _))
  exact ⟨fun vs H Q E h => absurd h (no vs H Q E), fun A outer s H args us vs Q E _ _ _ _ h => absurd h (no vs H Q E)⟩
theorem ok_bf {n j : Nat} (O : Own mg) (F : Fun K "body_fits" "body_fits" sBFits f fd) (G : FnOk P w K mg base CX0 j sf sd psS (spSF n)) (bG : Binds K sd psS []) (kG : PySem.W.keepIn K (.ref sf) = true) (mG : mg "step_fits" = some (.ref sf))
    {t12 : Tok} (m12 : mg "MOST_IN_BODY" = some (.int 12 t12)) : FnOk P w K mg base CX0 (j + 1) f fd psB (spBF n) := by
  refine F.ok scBFits (fun vs H Q E h => ?_) (fun cdv A outer s H vs Q E hr h => ?_)
  · obtain ⟨a, b, wd, bn, bd, xs, ws, rs, k, rfl, _⟩ := h
    rfl
  obtain ⟨a, b, wd, bn, bd, xs, ws, rs, k, rfl, ⟨us, ha, hB⟩, hok, hlen, hdp, hk, hb, hw, hbn, q⟩ := h
  have hl := hB.len
  refine ⟨_, pss_cons (ps_if (PW.pt (pw_or (pt_not (pt_val (pe_callB call_isi rfl O.isi (by decide +kernel) (pa_cons (pv 0) (pa_cons (pe_bltn (v := .ty "tuple") rfl O.tuple (by decide +kernel) rfl) pa_nil)))))
      (pw_or1 (pt_cmpR op_gt (pe_callB call_len_seq rfl O.len PySem.boot_len (pa_cons (pv 0) pa_nil)) (pe_glob (v := .int 12) rfl m12 ⟨_, rfl⟩) (nomark _))))) (pss_one (ps_ret pe_bl)) pss_nil)
    (pss_cons (ps_if (pt_cmpR op_eq (pv 4) pe_int (nomark _)) (pss_one (ps_ret (pe_cmpR op_eq (pe_callB call_len_seq rfl O.len PySem.boot_len (pa_cons (pv 0) pa_nil)) pe_int (nomark _)))) pss_nil)
    (pss_one (ps_ret (pe_callB (cr_all rfl) rfl O.all (by decide +kernel) (pa_cons (pe_lc (own := [("step", 5)]) (g := gName 5) (tt := tYes) rfl scBFits.nd
            (pi_tup (pv 0)) (blkOk_by (N := nmB) (sc := defScope sBFits) (by decide +kernel))
            (fun _ _ _ _ _ => pg_name (i := 5) scBFits.nd rfl (Or.inl rfl)) (fun _ _ _ _ _ => pts_nil)
            (fun _ _ _ _ _ => pe_call G hr rfl mG kG bG .nil pass0 (pa_cons (pv 5) (pa_cons (pv 1) (pa_cons (pv 2) (pa_cons (pv 3) (pa_cons (pv 4) pa_nil))))))) pa_nil))))), ?_⟩
  refine ⟨_, rfl, _, _, _, _, true, rfl, .ty "tuple", .base (.tup ha), kb "tuple" "tuple" true, _, rfl, itF rfl ?_⟩
  refine ⟨_, rfl, _, _, rfl, .inr (SqT.of ha), _, _, rfl, rfl, _, rfl, itF ?_ ?_⟩
  · show decide ((12 : Int) < (us.length : Nat)) = false
    exact decide_eq_false (by omega)
  refine ⟨_, rfl, rfl, _, rfl, ite2 (fun c => ?_) (fun c => ?_)⟩
  · have k0 : (k : Int) = 0 := V.int.inj (of_decide_eq_true c)
    have : bd.len = 0 := by
      cases bd with
      | nil => rfl
      | cons s b =>
        unfold Bd.dp at hdp
        have := s.dp_pos
        omega
    refine ⟨_, rfl, _, _, rfl, .inr (SqT.of ha), rfl, ?_⟩
    show Q (.bl (decide (V.int (us.length : Nat) = V.int 0))) H
    rw [show us.length = 0 by omega]
    exact q _ same_refl
  · refine ⟨_, rfl, a, rfl, ⟨_, SqT.of ha⟩, fun C hC => ?_⟩
    refine turns_tup (K := K) (a := a) (xs := us) (us.map fun _ => some (.bl true)) hC (fun Hc sm => SqT.of (sm _ _ ha)) (by rw [List.length_map]) (by have e : sizeLine = 16777216 := sizeLine_eq; omega) ?_ ?_
    · intro i z o Hc Y N hx ho sm hY hN
      have eo : o = some (.bl true) := by
        rw [List.getElem?_map, hx] at ho
        exact (Option.some.inj ho).symm
      obtain ⟨sg, h1, h2, h3⟩ := hB.at hok hdp hx
      exact ⟨rfl, _, rfl, _, rfl, _, rfl, _, rfl, _, rfl, z, b, wd, bn, sg, xs, ws, rs, k, rfl, h1.keep (Same.tups sm), h2, h3, hk, hb.keep sm, sm _ _ hw, hbn.keep sm, fun H4 s4 => hY _ eo H4 s4⟩
    · intro Hc hc sm
      rw [fm_true us] at hc
      refine ⟨C, _, rfl, SqL.of hc, ?_⟩
      rw [show (us.map fun _ => true).all id = true by rw [List.all_map]; exact List.all_eq_true.mpr fun _ _ => rfl]
      exact q Hc sm
end
end Any
namespace Any
open L2 PySem PySem.Spec PyProof.Rows LamX NdefX
section
variable {P : Program} {w : World} {K : PySem.W.Frag} {mg : Str → Option Value} {base : Heap} {f bf rw' wi ie it : Addr} {fd bfd rd wid ied itd : FuncData}
theorem in_true {Q : VK} {H : Hp} {x : Str} {xs : List Str} (h : x ∈ xs) (q : Q (.bl true) H) : Q (.bl (if false = true then !inV (.str x) (xs.map V.str) else inV (.str x) (xs.map V.str))) H := by
  show Q (.bl (inV _ _)) H
  rw [in_strs, decide_eq_true h]
  exact q
theorem in_eq {x : Str} {xs : List Str} (h : x ∈ xs) : (if false = true then !inV (.str x) (xs.map V.str) else inV (.str x) (xs.map V.str)) = true := by
  show inV _ _ = true
  rw [in_strs, decide_eq_true h]
theorem ok_sf {n : Nat} (O : Own mg) (F : Fun K "step_fits" "step_fits" sSFits f fd) (G : FnOk P w K mg base CX0 (2 * n + 18) bf bfd psB (spBF n)) (bG : Binds K bfd psB []) (kG : PySem.W.keepIn K (.ref bf) = true) (mG : mg "body_fits" = some (.ref bf))
    (R : FnOk P w K mg base CX0 1 rw' rd ["thing"] spRow) (bR : Binds K rd ["thing"] []) (kR : PySem.W.keepIn K (.ref rw') = true) (mR : mg "is_row" = some (.ref rw'))
    (WI : FnOk P w K mg base CX0 2 wi wid ["thing", "least", "most"] spWithin) (bW : Binds K wid ["thing", "least", "most"] []) (kW : PySem.W.keepIn K (.ref wi) = true) (mW : mg "is_within" = some (.ref wi))
    (IE : FnOk P w K mg base CX0 10 ie ied ps3 spIsE) (bIE : Binds K ied ps3 []) (kIE : PySem.W.keepIn K (.ref ie) = true) (mIE : mg "is_expression" = some (.ref ie))
    (IT : FnOk P w K mg base CX0 16 it itd ps3 spIsT) (bIT : Binds K itd ps3 []) (kIT : PySem.W.keepIn K (.ref it) = true) (mIT : mg "is_test" = some (.ref it)) :
    FnOk P w K mg base CX0 (2 * n + 19) f fd psS (spSF (n + 1)) := by
  refine F.ok scSFits (fun vs H Q E h => ?_) (fun cdv A outer s H vs Q E hr h => ?_)
  · obtain ⟨v, b, wd, bn, sg, xs, ws, rs, k, rfl, _⟩ := h
    rfl
  obtain ⟨v, b, wd, bn, sg, xs, ws, rs, k, rfl, hv, hok, hdp, hk, hb, hw, hbn, q⟩ := h
  have hrR := hr.mono (show 1 ≤ 2 * n + 18 by omega)
  have hrW := hr.mono (show 2 ≤ 2 * n + 18 by omega)
  have hrE := hr.mono (show 10 ≤ 2 * n + 18 by omega)
  have hrT := hr.mono (show 16 ≤ 2 * n + 18 by omega)
  have two : 2 ≤ sizeLine := by decide
  have ek : (k : Int) - 1 = ((k - 1 : Nat) : Int) := by have := sg.dp_pos; omega
  refine ⟨_, pss_cons (ps_if (pt_not (pt_val (pe_call R hrR rfl mR kR bR .nil pass0 (pa_cons (pv 0) pa_nil)))) (pss_one (ps_ret pe_bl)) pss_nil)
    (pss_cons (ps_set (i := 5) scSFits.nd rfl (Or.inl rfl) (pe_ix ix_tup (pv 0) pe_int (fun _ _ => rfl)))
    (pss_cons (ps_if (pt_cmpR op_eq (pv 5) pe_str (nomark _)) (pss_one (ps_ret (pe_and (pe_cmpR op_eq (pe_callB call_len_seq rfl O.len PySem.boot_len (pa_cons (pv 0) pa_nil)) pe_int (nomark _)) (pe_and (pe_call IT hrT rfl mIT kIT bIT .nil pass0 (pa_cons (pe_ix ix_tup (pv 0) pe_int (fun _ _ => rfl)) (pa_cons (pv 1) (pa_cons (pv 2) pa_nil)))) (pe_one (pe_callB (cr_all rfl) rfl O.all (by decide +kernel) (pa_cons (pe_lc (own := [("body", 6)]) (g := gName 6) (tt := tYes) rfl scSFits.nd
          (pi_tup (pe_slice sl_tup (pv 0) (po_some pe_int) po_none)) (blkOk_by (N := nmS) (sc := defScope sSFits) (by decide +kernel))
          (fun _ _ _ _ _ => pg_name (i := 6) scSFits.nd rfl (Or.inl rfl)) (fun _ _ _ _ _ => pts_nil) (fun _ _ _ _ _ => (pe_call G hr rfl mG kG bG .nil pass0 (pa_cons (pv 6) (pa_cons (pv 1) (pa_cons (pv 2) (pa_cons (pv 3) (pa_cons (pe_op op_sub (pv 4) pe_int) pa_nil)))))))) pa_nil))))))) pss_nil)
    (pss_cons (ps_if (pt_cmpR op_eq (pv 5) pe_str (nomark _)) (pss_one (ps_ret (pe_and (pe_cmpR op_eq (pe_callB call_len_seq rfl O.len PySem.boot_len (pa_cons (pv 0) pa_nil)) pe_int (nomark _)) (pe_and (pe_call IE hrE rfl mIE kIE bIE .nil pass0 (pa_cons (pe_ix ix_tup (pv 0) pe_int (fun _ _ => rfl)) (pa_cons (pv 1) (pa_cons (pv 2) pa_nil)))) (pe_and (pe_call WI hrW rfl mW kW bW .nil pass0 (pa_cons (pe_ix ix_tup (pv 0) pe_int (fun _ _ => rfl)) (pa_cons pe_int (pa_cons pe_int pa_nil)))) (pe_one (pe_call G hr rfl mG kG bG .nil pass0 (pa_cons (pe_ix ix_tup (pv 0) pe_int (fun _ _ => rfl)) (pa_cons (pv 1) (pa_cons (pv 2) (pa_cons (pv 3) (pa_cons (pe_op op_sub (pv 4) pe_int) pa_nil)))))))))))) pss_nil)
    (pss_cons (ps_if (pt_cmpR op_eq (pv 5) pe_str (nomark _)) (pss_one (ps_ret (pe_and (pe_cmpR op_eq (pe_callB call_len_seq rfl O.len PySem.boot_len (pa_cons (pv 0) pa_nil)) pe_int (nomark _)) (pe_and (pe_cmpR op_in_seq (pe_ix ix_tup (pv 0) pe_int (fun _ _ => rfl)) (pv 1) (by rfl)) (pe_and (pe_cmpR op_in_seq (pe_ix ix_tup (pv 0) pe_int (fun _ _ => rfl)) (pv 3) (by rfl)) (pe_one (pe_call IE hrE rfl mIE kIE bIE .nil pass0 (pa_cons (pe_ix ix_tup (pv 0) pe_int (fun _ _ => rfl)) (pa_cons (pv 1) (pa_cons (pv 2) pa_nil)))))))))) pss_nil)
    (pss_cons (ps_if (pt_cmpR op_eq (pv 5) pe_str (nomark _)) (pss_one (ps_ret (pe_and (pe_cmpR op_eq (pe_callB call_len_seq rfl O.len PySem.boot_len (pa_cons (pv 0) pa_nil)) pe_int (nomark _)) (pe_one (pe_cmpR op_in_seq (pe_ix ix_tup (pv 0) pe_int (fun _ _ => rfl)) (pv 1) (by rfl)))))) pss_nil)
    (pss_cons (ps_if (pt_cmpR op_in_seq (pv 5) (pe_tup (pa_cons pe_str (pa_cons pe_str pa_nil))) (by rfl)) (pss_one (ps_ret (pe_and (pe_cmpR op_eq (pe_callB call_len_seq rfl O.len PySem.boot_len (pa_cons (pv 0) pa_nil)) pe_int (nomark _)) (pe_and (pe_cmpR op_in_seq (pe_ix ix_tup (pv 0) pe_int (fun _ _ => rfl)) (pv 1) (by rfl)) (pe_one (pe_call IE hrE rfl mIE kIE bIE .nil pass0 (pa_cons (pe_ix ix_tup (pv 0) pe_int (fun _ _ => rfl)) (pa_cons (pv 1) (pa_cons (pv 2) pa_nil))))))))) pss_nil)
    (pss_one (ps_ret pe_bl)))))))), ?_⟩
  cases sg with
  | set x e =>
    unfold SgAt at hv
    unfold Sg.ok at hok
    obtain ⟨a, u, rfl, h, h1⟩ := hv
    refine ⟨_, rfl, _, _, _, rfl, h, _, rfl, itF rfl ?_⟩
    refine ⟨_, rfl, _, _, _, _, rfl, rfl, SqT.of h, atI_nat (j := 0) rfl, ?_⟩
    refine ⟨_, rfl, rfl, _, rfl, itF (ne_str (by decide)) ?_⟩
    refine ⟨_, rfl, rfl, _, rfl, itF (ne_str (by decide)) ?_⟩
    refine ⟨_, rfl, rfl, _, rfl, itF (ne_str (by decide)) ?_⟩
    refine ⟨_, rfl, rfl, _, rfl, itF (ne_str (by decide)) ?_⟩
    refine ⟨_, rfl, two, fun p hp => ⟨p, _, rfl, .inr (SqT.of upd_same), rfl, rfl, _, rfl, itT rfl ?_⟩⟩
    have s1 := same_new hp (.tup [.str "set", .str "say"])
    refine ⟨_, rfl, _, _, rfl, .inr (SqT.of (s1 _ _ h)), rfl, _, rfl, itT rfl ?_⟩
    refine ⟨_, rfl, _, _, _, _, rfl, rfl, SqT.of (s1 _ _ h), atI_nat (j := 1) rfl, _, rfl, b, _, rfl, (hb.keep s1).seq, rfl, strs_flat _, true, congrArg V.bl (in_eq hok.1), itT rfl ?_⟩
    exact ⟨_, rfl, _, _, _, _, rfl, rfl, SqT.of (s1 _ _ h), atI_nat (j := 2) rfl, _, rfl, _, rfl, u, b, wd, e, xs, ws, rfl, h1.keep (Same.tups s1), hok.2, hb.keep s1, s1 _ _ hw, fun H2 s2 => q H2 (s1.trans s2)⟩
  | say x e =>
    unfold SgAt at hv
    unfold Sg.ok at hok
    obtain ⟨a, u, rfl, h, h1⟩ := hv
    refine ⟨_, rfl, _, _, _, rfl, h, _, rfl, itF rfl ?_⟩
    refine ⟨_, rfl, _, _, _, _, rfl, rfl, SqT.of h, atI_nat (j := 0) rfl, ?_⟩
    refine ⟨_, rfl, rfl, _, rfl, itF (ne_str (by decide)) ?_⟩
    refine ⟨_, rfl, rfl, _, rfl, itF (ne_str (by decide)) ?_⟩
    refine ⟨_, rfl, rfl, _, rfl, itF (ne_str (by decide)) ?_⟩
    refine ⟨_, rfl, rfl, _, rfl, itF (ne_str (by decide)) ?_⟩
    refine ⟨_, rfl, two, fun p hp => ⟨p, _, rfl, .inr (SqT.of upd_same), rfl, rfl, _, rfl, itT rfl ?_⟩⟩
    have s1 := same_new hp (.tup [.str "set", .str "say"])
    refine ⟨_, rfl, _, _, rfl, .inr (SqT.of (s1 _ _ h)), rfl, _, rfl, itT rfl ?_⟩
    refine ⟨_, rfl, _, _, _, _, rfl, rfl, SqT.of (s1 _ _ h), atI_nat (j := 1) rfl, _, rfl, b, _, rfl, (hb.keep s1).seq, rfl, strs_flat _, true, congrArg V.bl (in_eq hok.1), itT rfl ?_⟩
    exact ⟨_, rfl, _, _, _, _, rfl, rfl, SqT.of (s1 _ _ h), atI_nat (j := 2) rfl, _, rfl, _, rfl, u, b, wd, e, xs, ws, rfl, h1.keep (Same.tups s1), hok.2, hb.keep s1, s1 _ _ hw, fun H2 s2 => q H2 (s1.trans s2)⟩
  | hear x =>
    unfold SgAt at hv
    unfold Sg.ok at hok
    obtain ⟨a, rfl, h⟩ := hv
    refine ⟨_, rfl, _, _, _, rfl, h, _, rfl, itF rfl ?_⟩
    refine ⟨_, rfl, _, _, _, _, rfl, rfl, SqT.of h, atI_nat (j := 0) rfl, ?_⟩
    refine ⟨_, rfl, rfl, _, rfl, itF (ne_str (by decide)) ?_⟩
    refine ⟨_, rfl, rfl, _, rfl, itF (ne_str (by decide)) ?_⟩
    refine ⟨_, rfl, rfl, _, rfl, itF (ne_str (by decide)) ?_⟩
    refine ⟨_, rfl, rfl, _, rfl, itT eq_str ?_⟩
    refine ⟨_, rfl, _, _, rfl, .inr (SqT.of (h)), rfl, _, rfl, itT rfl ?_⟩
    exact ⟨_, rfl, _, _, _, _, rfl, rfl, SqT.of h, atI_nat (j := 1) rfl, _, rfl, b, _, rfl, hb.seq, rfl, strs_flat _, in_true hok (q _ same_refl)⟩
  | call x r e =>
    unfold SgAt at hv
    unfold Sg.ok at hok
    obtain ⟨a, u, rfl, h, h1⟩ := hv
    refine ⟨_, rfl, _, _, _, rfl, h, _, rfl, itF rfl ?_⟩
    refine ⟨_, rfl, _, _, _, _, rfl, rfl, SqT.of h, atI_nat (j := 0) rfl, ?_⟩
    refine ⟨_, rfl, rfl, _, rfl, itF (ne_str (by decide)) ?_⟩
    refine ⟨_, rfl, rfl, _, rfl, itF (ne_str (by decide)) ?_⟩
    refine ⟨_, rfl, rfl, _, rfl, itT eq_str ?_⟩
    refine ⟨_, rfl, _, _, rfl, .inr (SqT.of (h)), rfl, _, rfl, itT rfl ?_⟩
    refine ⟨_, rfl, _, _, _, _, rfl, rfl, SqT.of h, atI_nat (j := 1) rfl, _, rfl, b, _, rfl, hb.seq, rfl, strs_flat _, true, congrArg V.bl (in_eq hok.1), itT rfl ?_⟩
    refine ⟨_, rfl, _, _, _, _, rfl, rfl, SqT.of h, atI_nat (j := 2) rfl, _, rfl, bn, _, rfl, hbn.seq, rfl, strs_flat _, true, congrArg V.bl (in_eq hok.2.1), itT rfl ?_⟩
    exact ⟨_, rfl, _, _, _, _, rfl, rfl, SqT.of h, atI_nat (j := 3) rfl, _, rfl, _, rfl, u, b, wd, e, xs, ws, rfl, h1, hok.2.2, hb, hw, fun H2 s2 => q H2 s2⟩
  | fors e m p =>
    unfold SgAt at hv
    unfold Sg.ok at hok
    obtain ⟨a, u, c, vs, rfl, h, h1, hc, h2⟩ := hv
    unfold Sg.dp at hdp
    refine ⟨_, rfl, _, _, _, rfl, h, _, rfl, itF rfl ?_⟩
    refine ⟨_, rfl, _, _, _, _, rfl, rfl, SqT.of h, atI_nat (j := 0) rfl, ?_⟩
    refine ⟨_, rfl, rfl, _, rfl, itF (ne_str (by decide)) ?_⟩
    refine ⟨_, rfl, rfl, _, rfl, itT eq_str ?_⟩
    refine ⟨_, rfl, _, _, rfl, .inr (SqT.of (h)), rfl, _, rfl, itT rfl ?_⟩
    refine ⟨_, rfl, _, _, _, _, rfl, rfl, SqT.of h, atI_nat (j := 1) rfl, _, rfl, _, rfl, u, b, wd, e, xs, ws, rfl, h1, hok.1, hb, hw, fun H2 s2 => ⟨_, rfl, itT rfl ?_⟩⟩
    refine ⟨_, rfl, _, _, _, _, rfl, rfl, SqT.of (s2 _ _ h), atI_nat (j := 2) rfl, m, 1, 9, rfl, ?_⟩
    rw [decide_eq_true hok.2.1.1, decide_eq_true hok.2.1.2]
    refine ⟨_, rfl, itT rfl ?_⟩
    exact ⟨_, rfl, _, _, _, _, rfl, rfl, SqT.of (s2 _ _ h), atI_nat (j := 3) rfl, _, rfl, _, rfl, _, rfl, _, rfl, _, _, rfl, rfl, c, b, wd, bn, p, xs, ws, rs, k - 1, (by rw [← ek]; rfl), ⟨vs, s2 _ _ hc, h2.keep (Same.tups s2)⟩, hok.2.2.1, hok.2.2.2, by omega, by omega, hb.keep s2, s2 _ _ hw, hbn.keep s2, fun H3 s3 => q H3 (s2.trans s3)⟩
  | ifs t p1 p2 =>
    unfold SgAt at hv
    unfold Sg.ok at hok
    obtain ⟨a, u, c, d, vs, us, rfl, h, h1, hc, h2, hd, h3⟩ := hv
    unfold Sg.dp at hdp
    refine ⟨_, rfl, _, _, _, rfl, h, _, rfl, itF rfl ?_⟩
    refine ⟨_, rfl, _, _, _, _, rfl, rfl, SqT.of h, atI_nat (j := 0) rfl, ?_⟩
    refine ⟨_, rfl, rfl, _, rfl, itT eq_str ?_⟩
    refine ⟨_, rfl, _, _, rfl, .inr (SqT.of (h)), rfl, _, rfl, itT rfl ?_⟩
    refine ⟨_, rfl, _, _, _, _, rfl, rfl, SqT.of h, atI_nat (j := 1) rfl, _, rfl, _, rfl, u, b, wd, t, xs, ws, rfl, h1, hok.1, hb, hw, fun H2 s2 => ⟨_, rfl, itT rfl ?_⟩⟩
    refine ⟨_, rfl, 2, rfl, a, _, rfl, SqT.of (s2 _ _ h), (by show ¬ (2 = 0 ∧ _); omega), fun z2 hz2 => ⟨z2, rfl, ⟨_, SqT.of upd_same⟩, fun C hC => ?_⟩⟩
    have s3 := s2.trans (same_new hz2 (.tup [.ref c, .ref d]))
    refine turns_tup (K := K) (a := z2) (xs := [.ref c, .ref d]) [some (.bl true), some (.bl true)] hC (fun Hc sm => SqT.of (sm _ _ upd_same)) rfl two ?_ ?_
    · intro i z o Hc Y N hx ho sm hY hN
      have s4 := s3.trans sm
      match i, hx, ho with
      | 0, hx, ho =>
        cases hx
        cases ho
        exact ⟨rfl, _, rfl, _, rfl, _, rfl, _, rfl, _, rfl, _, _, rfl, rfl, c, b, wd, bn, p1, xs, ws, rs, k - 1, (by rw [← ek]; rfl), ⟨vs, s4 _ _ hc, h2.keep (Same.tups s4)⟩, hok.2.1.1, hok.2.1.2, by omega, by omega, hb.keep s4, s4 _ _ hw, hbn.keep s4, fun H4 s5 => hY _ rfl H4 s5⟩
      | 1, hx, ho =>
        cases hx
        cases ho
        exact ⟨rfl, _, rfl, _, rfl, _, rfl, _, rfl, _, rfl, _, _, rfl, rfl, d, b, wd, bn, p2, xs, ws, rs, k - 1, (by rw [← ek]; rfl), ⟨us, s4 _ _ hd, h3.keep (Same.tups s4)⟩, hok.2.2.1, hok.2.2.2, by omega, by omega, hb.keep s4, s4 _ _ hw, hbn.keep s4, fun H4 s5 => hY _ rfl H4 s5⟩
    · intro Hc hc2 sm
      exact ⟨C, [true, true], rfl, SqL.of hc2, q Hc (s3.trans sm)⟩
theorem all_bf (O : Own mg) (F : Fun K "step_fits" "step_fits" sSFits f fd) (FB : Fun K "body_fits" "body_fits" sBFits bf bfd) (bS : Binds K fd psS []) (kS : PySem.W.keepIn K (.ref f) = true) (mS : mg "step_fits" = some (.ref f)) {t12 : Tok} (m12 : mg "MOST_IN_BODY" = some (.int 12 t12)) (bG : Binds K bfd psB []) (kG : PySem.W.keepIn K (.ref bf) = true) (mG : mg "body_fits" = some (.ref bf))
    (R : FnOk P w K mg base CX0 1 rw' rd ["thing"] spRow) (bR : Binds K rd ["thing"] []) (kR : PySem.W.keepIn K (.ref rw') = true) (mR : mg "is_row" = some (.ref rw'))
    (WI : FnOk P w K mg base CX0 2 wi wid ["thing", "least", "most"] spWithin) (bW : Binds K wid ["thing", "least", "most"] []) (kW : PySem.W.keepIn K (.ref wi) = true) (mW : mg "is_within" = some (.ref wi))
    (IE : FnOk P w K mg base CX0 10 ie ied ps3 spIsE) (bIE : Binds K ied ps3 []) (kIE : PySem.W.keepIn K (.ref ie) = true) (mIE : mg "is_expression" = some (.ref ie))
    (IT : FnOk P w K mg base CX0 16 it itd ps3 spIsT) (bIT : Binds K itd ps3 []) (kIT : PySem.W.keepIn K (.ref it) = true) (mIT : mg "is_test" = some (.ref it)) : ∀ n : Nat, FnOk P w K mg base CX0 (2 * n + 18) bf bfd psB (spBF n)
  | 0 => ok_bf O FB (no_sf (k := 17)) bS kS mS m12
  | n + 1 => ok_bf O FB (ok_sf O F (all_bf O F FB bS kS mS m12 bG kG mG R bR kR mR WI bW kW mW IE bIE kIE mIE IT bIT kIT mIT n) bG kG mG R bR kR mR WI bW kW mW IE bIE kIE mIE IT bIT kIT mIT) bS kS mS m12
end
end Any
namespace Any
open L2 PySem PySem.Spec PyProof.Rows LamX NdefX
def Bd.toL : Bd → List Sg
  | .nil => []
  | .cons s b => s :: b.toL
def Sg.subs : Sg → List Bd
  | .ifs _ a b => [a, b]
  | .fors _ _ a => [a]
  | _ => []
theorem BdL.paired {H : Hp} : ∀ {b : Bd} {vs : List V}, BdL H vs b → Paired (SgAt H) vs b.toL
  | .nil, vs, h => by
    unfold BdL at h
    subst h
    exact .nil
  | .cons s b, vs, h => by
    unfold BdL at h
    obtain ⟨v, us, rfl, h2, h3⟩ := h
    exact .cons h2 h3.paired
theorem Bd.tot_eq : ∀ b : Bd, b.tot = (b.toL.map Sg.tot).sum
  | .nil => by unfold Bd.tot; rfl
  | .cons s b => by
    unfold Bd.tot
    rw [b.tot_eq]
    show _ = ((s :: b.toL).map Sg.tot).sum
    rw [List.map_cons, List.sum_cons]
theorem Sg.tot_eq : ∀ s : Sg, s.tot = 1 + (s.subs.map Bd.tot).sum
  | .set _ _ => by unfold Sg.tot; rfl
  | .say _ _ => by unfold Sg.tot; rfl
  | .hear _ => by unfold Sg.tot; rfl
  | .call _ _ _ => by unfold Sg.tot; rfl
  | .ifs _ a b => by
    unfold Sg.tot
    show _ = 1 + (a.tot + (b.tot + 0))
    omega
  | .fors _ _ a => by
    unfold Sg.tot
    show _ = 1 + (a.tot + 0)
    omega
theorem Bd.dp_mem : ∀ {b : Bd} {s : Sg}, s ∈ b.toL → s.dp ≤ b.dp
  | .nil, s, h => by cases h
  | .cons t b, s, h => by
    unfold Bd.dp
    rcases List.mem_cons.mp h with h | h
    · subst h; omega
    · have := Bd.dp_mem h; omega
theorem Sg.dp_mem : ∀ {s : Sg} {b : Bd}, b ∈ s.subs → b.dp + 1 ≤ s.dp
  | .set _ _, b, h => by cases h
  | .say _ _, b, h => by cases h
  | .hear _, b, h => by cases h
  | .call _ _ _, b, h => by cases h
  | .ifs _ p q, b, h => by
    unfold Sg.dp
    rcases List.mem_cons.mp h with h | h
    · subst h; omega
    · rcases List.mem_cons.mp h with h | h
      · subst h; omega
      · cases h
  | .fors _ _ p, b, h => by
    unfold Sg.dp
    rcases List.mem_cons.mp h with h | h
    · subst h; omega
    · cases h
theorem sum_take {α : Type} (f : α → Nat) {l : List α} {i : Nat} {x : α} (h : l[i]? = some x) : ((l.take (i + 1)).map f).sum = ((l.take i).map f).sum + f x := by
  rw [List.take_add_one, h, List.map_append, List.sum_append]
  show _ = _
  simp
theorem sum_take_le {α : Type} (f : α → Nat) : ∀ (l : List α) (i : Nat), ((l.take i).map f).sum ≤ (l.map f).sum
  | [], i => by simp
  | x :: l, 0 => by simp
  | x :: l, i + 1 => by
    have := sum_take_le f l i
    simp only [List.take_succ_cons, List.map_cons, List.sum_cons]
    omega
theorem paired_get {α β : Type} {R : α → β → Prop} : ∀ {xs : List α} {ys : List β}, Paired R xs ys → ∀ {i : Nat} {x : α}, xs[i]? = some x → ∃ y, ys[i]? = some y ∧ R x y
  | _, _, .nil, i, x, h => by simp at h
  | _, _, .cons r t, 0, x, h => by cases h; exact ⟨_, rfl, r⟩
  | _, _, .cons r t, i + 1, x, h => paired_get t (i := i) h
theorem scAll : FnScope ["body", "steps", "step", "inner"] ["body"] (defScope sAll) := ⟨rfl, rfl, rfl, by decide +kernel, rfl, by decide +kernel, by decide +kernel⟩
theorem scWB : FnScope ["step"] ["step"] (defScope sWithinB) := ⟨rfl, rfl, rfl, by decide +kernel, rfl, by decide +kernel, by decide +kernel⟩
def spWB : Sp := fun vs H Q _ => ∃ v sg, vs = [v] ∧ SgAt H v sg ∧ ∀ p as, H p = none → Paired (BdAt H) as sg.subs → Q (.ref p) (upd H p (.lst (as.map V.ref)))
def spAll (n : Nat) : Sp := fun vs H Q _ => ∃ a bd, vs = [.ref a] ∧ BdAt H a bd ∧ bd.dp < n ∧ bd.tot ≤ 100000 ∧ ∀ p us H', H p = none → Same H H' → H' p = some (.lst us) → us.length = bd.tot → Q (.ref p) H'
section
variable {P : Program} {w : World} {K : PySem.W.Frag} {mg : Str → Option Value} {base : Heap} {f wb : Addr} {fd wbd : FuncData}
theorem ok_wb (F : Fun K "bodies_within" "bodies_within" sWithinB f fd) : FnOk P w K mg base CX0 1 f fd ["step"] spWB := by
  refine F.ok scWB (fun vs H Q E h => ?_) (fun cdv A outer s H vs Q E hr h => ?_)
  · obtain ⟨v, sg, rfl, _⟩ := h
    rfl
  obtain ⟨v, sg, rfl, hv, q⟩ := h
  refine ⟨_, pss_cons (ps_if (pt_cmpR op_eq (pe_ix ix_tup (pv 0) pe_int (fun _ _ => rfl)) pe_str (nomark _)) (pss_one (ps_ret (pe_lst (pa_cons (pe_ix ix_tup (pv 0) pe_int (fun _ _ => rfl)) (pa_cons (pe_ix ix_tup (pv 0) pe_int (fun _ _ => rfl)) pa_nil))))) pss_nil)
    (pss_cons (ps_if (pt_cmpR op_eq (pe_ix ix_tup (pv 0) pe_int (fun _ _ => rfl)) pe_str (nomark _)) (pss_one (ps_ret (pe_lst (pa_cons (pe_ix ix_tup (pv 0) pe_int (fun _ _ => rfl)) pa_nil)))) pss_nil)
    (pss_one (ps_ret (pe_lst pa_nil)))), ?_⟩
  cases sg with
  | set x e =>
    unfold SgAt at hv
    obtain ⟨a, u, rfl, h, h1⟩ := hv
    refine ⟨_, rfl, _, _, _, _, rfl, rfl, SqT.of h, atI_nat (j := 0) rfl, rfl, _, rfl, itF (ne_str (by decide)) ?_⟩
    refine ⟨_, rfl, _, _, _, _, rfl, rfl, SqT.of h, atI_nat (j := 0) rfl, rfl, _, rfl, itF (ne_str (by decide)) ?_⟩
    exact ⟨by decide, fun p hp => q p [] hp .nil⟩
  | say x e =>
    unfold SgAt at hv
    obtain ⟨a, u, rfl, h, h1⟩ := hv
    refine ⟨_, rfl, _, _, _, _, rfl, rfl, SqT.of h, atI_nat (j := 0) rfl, rfl, _, rfl, itF (ne_str (by decide)) ?_⟩
    refine ⟨_, rfl, _, _, _, _, rfl, rfl, SqT.of h, atI_nat (j := 0) rfl, rfl, _, rfl, itF (ne_str (by decide)) ?_⟩
    exact ⟨by decide, fun p hp => q p [] hp .nil⟩
  | hear x =>
    unfold SgAt at hv
    obtain ⟨a, rfl, h⟩ := hv
    refine ⟨_, rfl, _, _, _, _, rfl, rfl, SqT.of h, atI_nat (j := 0) rfl, rfl, _, rfl, itF (ne_str (by decide)) ?_⟩
    refine ⟨_, rfl, _, _, _, _, rfl, rfl, SqT.of h, atI_nat (j := 0) rfl, rfl, _, rfl, itF (ne_str (by decide)) ?_⟩
    exact ⟨by decide, fun p hp => q p [] hp .nil⟩
  | call x r e =>
    unfold SgAt at hv
    obtain ⟨a, u, rfl, h, h1⟩ := hv
    refine ⟨_, rfl, _, _, _, _, rfl, rfl, SqT.of h, atI_nat (j := 0) rfl, rfl, _, rfl, itF (ne_str (by decide)) ?_⟩
    refine ⟨_, rfl, _, _, _, _, rfl, rfl, SqT.of h, atI_nat (j := 0) rfl, rfl, _, rfl, itF (ne_str (by decide)) ?_⟩
    exact ⟨by decide, fun p hp => q p [] hp .nil⟩
  | fors e m b =>
    unfold SgAt at hv
    obtain ⟨a, u, c, vs, rfl, h, h1, hc, h2⟩ := hv
    refine ⟨_, rfl, _, _, _, _, rfl, rfl, SqT.of h, atI_nat (j := 0) rfl, rfl, _, rfl, itF (ne_str (by decide)) ?_⟩
    refine ⟨_, rfl, _, _, _, _, rfl, rfl, SqT.of h, atI_nat (j := 0) rfl, rfl, _, rfl, itT eq_str ?_⟩
    exact ⟨_, rfl, _, _, _, _, rfl, rfl, SqT.of h, atI_nat (j := 3) rfl, (by show 1 ≤ sizeLine; decide), fun p hp => q p [c] hp (.cons ⟨vs, hc, h2⟩ .nil)⟩
  | ifs t b1 b2 =>
    unfold SgAt at hv
    obtain ⟨a, u, c, d, vs, us, rfl, h, h1, hc, h2, hd, h3⟩ := hv
    refine ⟨_, rfl, _, _, _, _, rfl, rfl, SqT.of h, atI_nat (j := 0) rfl, rfl, _, rfl, itT eq_str ?_⟩
    refine ⟨_, rfl, _, _, _, _, rfl, rfl, SqT.of h, atI_nat (j := 2) rfl, ?_⟩
    exact ⟨_, rfl, _, _, _, _, rfl, rfl, SqT.of h, atI_nat (j := 3) rfl, (by show 2 ≤ sizeLine; decide), fun p hp => q p [c, d] hp (.cons ⟨vs, hc, h2⟩ (.cons ⟨us, hd, h3⟩ .nil))⟩
theorem ok_all {n j : Nat} (F : Fun K "all_steps" "all_steps" sAll f fd) (G : FnOk P w K mg base CX0 (j + 1) f fd ["body"] (spAll n)) (bG : Binds K fd ["body"] []) (mG : mg "all_steps" = some (.ref f))
    (GW : FnOk P w K mg base CX0 1 wb wbd ["step"] spWB) (bW : Binds K wbd ["step"] []) (kW : PySem.W.keepIn K (.ref wb) = true) (mW : mg "bodies_within" = some (.ref wb)) :
    FnOk P w K mg base CX0 (j + 2) f fd ["body"] (spAll (n + 1)) := by
  refine F.ok scAll (fun vs H Q E h => ?_) (fun cdv A outer s H vs Q E hr h => ?_)
  · obtain ⟨a, bd, rfl, _⟩ := h
    rfl
  obtain ⟨a, bd, rfl, ⟨us, ha, hB⟩, hdp, htot, q⟩ := h
  refine ⟨_, pss_cons (ps_set (i := 1) scAll.nd rfl (Or.inl rfl) (pe_lst pa_nil))
    (pss_cons (ps_for PassesOwn.never rfl (pi_tup (pv 0)) (pg_name (i := 2) scAll.nd rfl (Or.inl rfl))
      (pss_cons (ps_expr (pe_bm PySem.F.plainAttrs_list PySem.F.slot_list_append PySem.F.type_list_append mt_append (pv 1) (pa_cons (pv 2) pa_nil)))
      (pss_one (ps_for PassesOwn.never rfl (pi_list (pe_call GW (hr.mono (by omega)) rfl mW kW bW .nil pass0 (pa_cons (pv 2) pa_nil))) (pg_name (i := 3) scAll.nd rfl (Or.inl rfl))
        (pss_one (ps_expr (pe_bm PySem.F.plainAttrs_list PySem.F.slot_list_extend PySem.F.type_list_extend mt_extend (pv 1) (pa_cons (pe_call G hr rfl mG F.kp bG .nil pass0 (pa_cons (pv 3) pa_nil)) pa_nil))))))))
    (pss_one (ps_ret (pv 1)))), ?_⟩
  refine ⟨by decide, fun L hL => ?_⟩
  have pr := hB.paired
  have hs : sizeLine = 16777216 := sizeLine_eq
  have tl := bd.tot_eq
  refine ⟨_, rfl, a, rfl, ⟨_, SqT.of (same_new hL _ _ _ ha)⟩, ?_⟩
  refine for_tup (K := K) (a := a) (xs := us) (fun i σ Hc => ∃ x y acc, σ = [some (.ref a), some (.ref L), x, y] ∧ Hc L = some (.lst acc) ∧ acc.length = ((bd.toL.take i).map Sg.tot).sum ∧ Same H Hc) ?_ ?_ ?_ ?_
  · exact ⟨_, _, [], rfl, upd_same, rfl, same_new hL _⟩
  · rintro i σ Hc _ ⟨x, y, acc, rfl, h1, h2, sm⟩
    exact SqT.of (sm _ _ ha)
  · rintro i v σ Hc hx ⟨x, y, acc, rfl, h1, h2, sm⟩
    obtain ⟨sg, hg, hv⟩ := paired_get pr hx
    have e1 := sum_take Sg.tot hg
    have e2 := sum_take_le Sg.tot bd.toL (i + 1)
    have e3 := sg.tot_eq
    have mem : sg ∈ bd.toL := List.mem_of_getElem? hg
    refine ⟨_, rfl, .inl ⟨rfl, _, SqL.of h1⟩, _, rfl, L, acc, v, rfl, rfl, h1, by omega, ?_⟩
    have sm1 : Same H (upd Hc L (.lst (acc ++ [v]))) := fun b o hb => by
      rw [upd_ne (ne_of_none hb hL)]
      exact sm _ _ hb
    have hv1 := hv.keep (Same.tups sm1)
    refine ⟨_, rfl, v, sg, rfl, hv1, fun p as hp pa => ⟨p, rfl, ⟨_, SqL.of upd_same⟩, ?_⟩⟩
    have pL : p ≠ L := fun z => by rw [z, upd_same] at hp; cases hp
    refine for_list (K := K) (a := p) (xs := as.map V.ref) (fun t σ Hd => ∃ y acc2, σ = [some (.ref a), some (.ref L), some v, y] ∧ Hd L = some (.lst acc2) ∧ acc2.length = acc.length + 1 + ((sg.subs.take t).map Bd.tot).sum ∧ Kept L Hc Hd ∧ Hd p = some (.lst (as.map V.ref))) ?_ ?_ ?_ ?_
    · refine ⟨_, acc ++ [v], rfl, ?_, ?_, ?_, upd_same⟩
      · rw [upd_ne (Ne.symm pL)]
        exact upd_same
      · rw [List.length_append]
        rfl
      · intro c o cL hc
        have hpn : Hc p = none := by rw [← hp, upd_ne pL]
        rw [upd_ne (ne_of_none hc hpn), upd_ne cL]
        exact hc
    · rintro t σ Hd _ ⟨y2, acc2, rfl, g1, g2, g3, g4⟩
      exact SqL.of g4
    · rintro t z σ Hd hz ⟨y2, acc2, rfl, g1, g2, g3, g4⟩
      rw [List.getElem?_map] at hz
      obtain ⟨b, hb, rfl⟩ : ∃ b, as[t]? = some b ∧ z = .ref b := by
        cases e : as[t]? with
        | none => rw [e] at hz; cases hz
        | some b => rw [e] at hz; exact ⟨b, rfl, (Option.some.inj hz).symm⟩
      obtain ⟨sb, hsb, hat⟩ := paired_get pa hb
      have f1 := sum_take Bd.tot hsb
      have f2 := sum_take_le Bd.tot sg.subs (t + 1)
      have d1 := Sg.dp_mem (List.mem_of_getElem? hsb)
      have d2 := Bd.dp_mem mem
      refine ⟨_, rfl, .inl ⟨rfl, _, SqL.of g1⟩, _, rfl, b, sb, rfl, ?_, by omega, by omega, fun p3 us3 H3 hp3 s3 h3 l3 => ?_⟩
      · obtain ⟨ws, w1, w2⟩ := hat
        have t1 : Tups (upd Hc L (.lst (acc ++ [v]))) Hd := fun c o hc => by
          by_cases cL : c = L
          · rw [cL, upd_same] at hc
            cases hc
          · rw [upd_ne cL] at hc
            exact g3 _ _ cL hc
        exact ⟨ws, t1 _ _ w1, w2.keep t1⟩
      refine ⟨L, p3, acc2, us3, rfl, rfl, s3 _ _ g1, h3, by omega, ?_⟩
      refine ⟨_, acc2 ++ us3, rfl, upd_same, by rw [List.length_append]; omega, fun c o cL hc => ?_, ?_⟩
      · rw [upd_ne cL]
        exact s3 _ _ (g3 _ _ cL hc)
      · rw [upd_ne pL]
        exact s3 _ _ g4
    · rintro σ Hd ⟨y2, acc2, rfl, g1, g2, g3, g4⟩
      have e4 := paired_len pa
      rw [List.length_map, e4, List.take_length] at g2
      exact ⟨_, _, acc2, rfl, g1, by omega, fun c o hc => g3 _ _ (ne_of_none hc hL) (sm _ _ hc)⟩
  · rintro σ Hc ⟨x, y, acc, rfl, h1, h2, sm⟩
    have e4 := paired_len pr
    rw [e4, List.take_length] at h2
    exact ⟨_, rfl, q L acc Hc hL sm h1 (by omega)⟩
theorem no_all {k : Nat} : FnOk P w K mg base CX0 k f fd ["body"] (spAll 0) := by
  have no : ∀ vs H Q E, ¬ spAll 0 vs H Q E := fun vs H Q E h => by
    obtain ⟨a, bd, _, _, h, _⟩ := h
    exact Nat.not_lt_zero _ h
  exact ⟨fun vs H Q E h => absurd h (no vs H Q E), fun A outer s H args us vs Q E _ _ _ _ h => absurd h (no vs H Q E)⟩
theorem all_all (F : Fun K "all_steps" "all_steps" sAll f fd) (bG : Binds K fd ["body"] []) (mG : mg "all_steps" = some (.ref f))
    (GW : FnOk P w K mg base CX0 1 wb wbd ["step"] spWB) (bW : Binds K wbd ["step"] []) (kW : PySem.W.keepIn K (.ref wb) = true) (mW : mg "bodies_within" = some (.ref wb)) : ∀ n : Nat, FnOk P w K mg base CX0 (n + 1) f fd ["body"] (spAll n)
  | 0 => no_all
  | n + 1 => ok_all F (all_all F bG mG GW bW kW mW n) bG mG GW bW kW mW
/-! ### is_body -/
/-- a body as point 6 has it -/
def Bd.right (xs ws rs : List Str) (b : Bd) : Prop := b.ok xs ws rs ∧ b.len ≤ 12 ∧ b.dp ≤ 4 ∧ b.tot ≤ 30
def spIsB : Sp := fun vs H Q _ => ∃ (a b wd bn : Addr) (bd : Bd) (xs ws rs : List Str), vs = [.ref a, .ref b, .ref wd, .ref bn] ∧ BdAt H a bd ∧ bd.right xs ws rs ∧ Nms H b xs ∧ H wd = some (.tup (ws.map V.str)) ∧ Nms H bn rs ∧ ∀ H', Same H H' → Q (.bl true) H'
theorem ok_isB {bf as : Addr} {bfd asd : FuncData} (O : Own mg) (F : Fun K "is_body" "is_body" sBody f fd) (GB : FnOk P w K mg base CX0 26 bf bfd psB (spBF 4)) (bB : Binds K bfd psB []) (kB : PySem.W.keepIn K (.ref bf) = true) (mB : mg "body_fits" = some (.ref bf))
    (GA : FnOk P w K mg base CX0 6 as asd ["body"] (spAll 5)) (bA : Binds K asd ["body"] []) (kA : PySem.W.keepIn K (.ref as) = true) (mA : mg "all_steps" = some (.ref as)) {t4 t30 : Tok} (m4 : mg "MOST_DEEP_STEP" = some (.int 4 t4)) (m30 : mg "MOST_STEPS" = some (.int 30 t30)) :
    FnOk P w K mg base CX0 27 f fd ps4 spIsB := by
  refine F.ok scBody (fun vs H Q E h => ?_) (fun cdv A outer s H vs Q E hr h => ?_)
  · obtain ⟨a, b, wd, bn, bd, xs, ws, rs, rfl, _⟩ := h
    rfl
  obtain ⟨a, b, wd, bn, bd, xs, ws, rs, rfl, hB, ⟨hok, hlen, hdp, htot⟩, hb, hw, hbn, q⟩ := h
  refine ⟨_, pss_one (ps_ret (pe_and (pe_call GB hr rfl mB kB bB .nil pass0 (pa_cons (pv 0) (pa_cons (pv 1) (pa_cons (pv 2) (pa_cons (pv 3) (pa_cons (pe_glob (v := .int 4) rfl m4 ⟨_, rfl⟩) pa_nil))))))
    (pe_one (pe_cmpR op_le (pe_callB call_len_seq rfl O.len PySem.boot_len (pa_cons (pe_call GA (hr.mono (by decide)) rfl mA kA bA .nil pass0 (pa_cons (pv 0) pa_nil)) pa_nil)) (pe_glob (v := .int 30) rfl m30 ⟨_, rfl⟩) (nomark _))))), ?_⟩
  refine ⟨_, rfl, _, rfl, _, rfl, _, rfl, a, b, wd, bn, bd, xs, ws, rs, 4, rfl, hB, hok, hlen, hdp, by decide, hb, hw, hbn, fun H1 s1 => ⟨_, rfl, ?_⟩⟩
  refine ⟨_, rfl, a, bd, rfl, ?_, by omega, by omega, fun p us H2 hp s2 h2 l2 => ?_⟩
  · obtain ⟨vs, h1, h2⟩ := hB
    exact ⟨vs, s1 _ _ h1, h2.keep (Same.tups s1)⟩
  refine ⟨p, us, rfl, .inl (SqL.of h2), _, _, rfl, rfl, ?_⟩
  show Q (.bl (decide ((us.length : Int) ≤ 30))) H2
  rw [decide_eq_true (by omega)]
  exact q H2 (s1.trans s2)
end
end Any
namespace Any
open L2 PySem PySem.Spec PyProof.Rows LamX NdefX
theorem scName : FnScope ["thing", "sign"] ["thing"] (defScope sName) := ⟨rfl, rfl, rfl, by decide +kernel, rfl, by decide +kernel, by decide +kernel⟩
abbrev keptWords : List Str := ["asked", "told", "not", "and", "or"]
abbrev letters : Str := "abcdefghijklmnopqrstuvwxyz"
/-- a name as point 2 has it -/
structure Nm (x : Str) : Prop where
  lo : 1 ≤ x.length
  hi : x.length ≤ 8
  kept : x ∉ keptWords
  low : ∀ c ∈ x.cps.toList, 97 ≤ c ∧ c ≤ 122
instance (x : Str) : Decidable (Nm x) := decidable_of_iff (1 ≤ x.length ∧ x.length ≤ 8 ∧ x ∉ keptWords ∧ ∀ c ∈ x.cps.toList, 97 ≤ c ∧ c ≤ 122) ⟨fun h => ⟨h.1, h.2.1, h.2.2.1, h.2.2.2⟩, fun h => ⟨h.lo, h.hi, h.kept, h.low⟩⟩
theorem letter_in {c : Nat} (h : 97 ≤ c ∧ c ≤ 122) : (!(Builtin.Str.occurrences letters ⟨#[c]⟩ 0 letters.length 1).isEmpty) = true := by
  obtain ⟨h1, h2⟩ := h
  obtain ⟨d, rfl⟩ : ∃ d, c = 97 + d := ⟨c - 97, by omega⟩
  have hd : d < 26 := by omega
  have all : ∀ d : Fin 26, (!(Builtin.Str.occurrences letters ⟨#[97 + d.val]⟩ 0 letters.length 1).isEmpty) = true := by decide +kernel
  exact all ⟨d, hd⟩
section
variable {g : TG} {tt : TT} {te : TE} {vs : List Nat} {σ : L2.St} {H1 : Hp} {D : Addr} {Qd : Hp → Prop}
theorem turns_str {x : Str} (gs : List (Option V)) (hD : H1 D = none) (hn : gs.length = x.cps.size) (hz : x.cps.size ≤ sizeLine) (hs : TurnF (x.cps.toList.map fun c => V.str ⟨#[c]⟩) gs g tt te vs σ H1)
    (hd : ∀ H, H D = some (.lst (gs.filterMap id)) → Same H1 H → Qd H) : Turns (Its x) g tt te vs σ H1 D Qd := by
  refine ⟨fun i m H => m = x.cps.size - i ∧ i ≤ x.cps.size ∧ H D = some (.lst ((gs.take i).filterMap id)) ∧ Same H1 H, ⟨_, rfl, Nat.zero_le _, upd_same, same_new hD _⟩, ?_⟩
  rintro i m H ⟨rfl, hi, hC, sm⟩
  by_cases lt : i < x.cps.size
  · obtain ⟨o, ho⟩ : ∃ o, gs[i]? = some o := ⟨gs[i]'(by omega), by simp [hn, lt]⟩
    refine .inr ⟨lt, fun H' => H' D = some (.lst ((gs.take (i + 1)).filterMap id)) ∧ Same H1 H', fun H' q => ⟨_, by omega, rfl, lt, q.1, q.2⟩, fun v H' y => ?_⟩
    obtain ⟨rfl, c, e, rfl⟩ := y
    have hx : (x.cps.toList.map fun c => V.str ⟨#[c]⟩)[i]? = some (V.str ⟨#[c]⟩) := by
      rw [List.getElem?_map, Array.getElem?_toList, e]
      rfl
    refine hs i _ o H' _ _ hx ho sm (fun y ey H4 s4 => ⟨_, s4 _ _ hC, ?_, ?_, fun b u hb => ?_⟩) (fun en H4 s4 => ⟨?_, sm.trans s4⟩)
    · have := fm_len (gs.take i)
      rw [List.length_take] at this
      omega
    · rw [upd_same, take_fm ho, ey]
      rfl
    · rw [upd_ne (ne_of_none hb hD)]
      exact s4 _ _ (sm _ _ hb)
    · rw [take_fm ho, en]
      show H4 D = some (.lst (_ ++ []))
      rw [List.append_nil]
      exact s4 _ _ hC
  · have e : i = x.cps.size := by omega
    subst e
    rw [← hn, List.take_length] at hC
    exact .inl ⟨Nat.le_refl _, hd H hC sm⟩
end
def spName : Sp := fun vs H Q _ => ∃ x, vs = [.str x] ∧ Nm x ∧ ∀ H', Same H H' → Q (.bl true) H'
section
variable {P : Program} {w : World} {K : PySem.W.Frag} {mg : Str → Option Value} {base : Heap} {f kw : Addr} {fd : FuncData}
theorem ok_name (O : Own mg) (F : Fun K "is_name" "is_name" sName f fd) (mk : mg "KEPT_WORDS" = some (.ref kw)) (hk : ∀ H, SqT K H kw (keptWords.map V.str)) {tl : Tok} (ml : mg "LETTERS" = some (.str letters tl)) :
    FnOk P w K mg base CX0 1 f fd ["thing"] spName := by
  refine F.ok scName (fun vs H Q E h => ?_) (fun cdv A outer s H vs Q E hr h => ?_)
  · obtain ⟨x, rfl, _⟩ := h
    rfl
  obtain ⟨x, rfl, hx, q⟩ := h
  have hs : sizeLine = 16777216 := sizeLine_eq
  have hlen : x.length ≤ sizeLine := by have := hx.hi; omega
  refine ⟨_, pss_cons (ps_if (PW.pt (pw_or (pt_not (pt_val (pe_callB call_isi rfl O.isi (by decide +kernel) (pa_cons (pv 0) (pa_cons (pe_bltn (v := .ty "str") rfl O.str (by decide +kernel) rfl) pa_nil)))))
      (pw_or1 (pt_not (pt_chain op_le op_le pe_int (pe_callB call_len_str rfl O.len PySem.boot_len (pa_cons (pv 0) pa_nil)) pe_int))))) (pss_one (ps_ret pe_bl)) pss_nil)
    (pss_one (ps_ret (pe_and (pe_cmpR op_notIn_seq (pv 0) (pe_glob (v := .ref kw) rfl mk rfl) (by rfl))
      (pe_one (pe_callB (cr_all rfl) rfl O.all (by decide +kernel) (pa_cons (pe_lc (own := [("sign", 1)]) (g := gName 1) (tt := tYes) rfl scName.nd
            (pi_str (pv 0)) (blkOk_by (N := ["thing", "sign"]) (sc := defScope sName) (by decide +kernel))
            (fun _ _ _ _ _ => pg_name (i := 1) scName.nd rfl (Or.inl rfl)) (fun _ _ _ _ _ => pts_nil)
            (fun _ _ _ _ _ => pe_cmpR op_in_str (pv 1) (pe_glob (v := .str letters) rfl ml ⟨_, rfl⟩) (by rfl))) pa_nil)))))), ?_⟩
  refine ⟨_, rfl, _, _, _, _, true, rfl, .ty "str", .base (.str x), kb "str" "str" true, _, rfl, itF rfl ?_⟩
  refine ⟨_, rfl, x, rfl, hlen, _, _, rfl, rfl, _, rfl, itT ?_ ⟨_, _, rfl, rfl, _, rfl, itF ?_ ?_⟩⟩
  · exact decide_eq_true (by have := hx.lo; omega)
  · show (!decide ((x.length : Int) ≤ 8)) = false
    rw [decide_eq_true (by have := hx.hi; omega)]
    rfl
  refine ⟨_, rfl, kw, _, rfl, .inr (hk H), rfl, strs_flat _, true, ?_, itT rfl ?_⟩
  · refine congrArg V.bl ?_
    show (!inV _ _) = true
    rw [in_strs, decide_eq_false hx.kept]
    rfl
  refine ⟨_, rfl, x, rfl, fun C hC => ?_⟩
  have el : (x.cps.toList.map fun c => V.str ⟨#[c]⟩).length = x.cps.size := by rw [List.length_map, Array.length_toList]
  refine turns_str ((x.cps.toList.map fun c => V.str ⟨#[c]⟩).map fun _ => some (.bl true)) hC (by rw [List.length_map, el]) hlen ?_ ?_
  · intro i z o Hc Y N hz ho sm hY hN
    have eo : o = some (.bl true) := by
      rw [List.getElem?_map, hz] at ho
      exact (Option.some.inj ho).symm
    rw [List.getElem?_map] at hz
    obtain ⟨c, hc, rfl⟩ : ∃ c, x.cps.toList[i]? = some c ∧ z = V.str ⟨#[c]⟩ := by
      cases e : x.cps.toList[i]? with
      | none => rw [e] at hz; cases hz
      | some c => rw [e] at hz; exact ⟨c, rfl, (Option.some.inj hz).symm⟩
    refine ⟨rfl, _, rfl, _, _, rfl, rfl, ?_⟩
    rw [letter_in (hx.low c (List.mem_of_getElem? hc))]
    exact hY _ eo Hc same_refl
  · intro Hc hc sm
    rw [fm_true] at hc
    refine ⟨C, _, rfl, SqL.of hc, ?_⟩
    rw [List.all_map, show ((x.cps.toList.map fun c => V.str ⟨#[c]⟩).all (id ∘ fun _ => true)) = true from List.all_eq_true.mpr fun _ _ => rfl]
    exact q Hc sm
end
end Any
namespace Any
open L2 PySem PySem.Spec PyProof.Rows LamX NdefX
/-! ### rooms -/
structure Rm where
  name : Str
  above : Str
  boxes : List (Str × Int × Int)
  sayings : List Ts
  ask : Option Int
  told : Option (Int × Ex)
  promise : Option Ts
  body : Bd
def roomF (n a b s k t p y : V) : List (Str × V) := [("name", n), ("above", a), ("boxes", b), ("sayings", s), ("ask", k), ("told", t), ("promise", p), ("body", y)]
theorem lk_hit {k : Str} {v : V} {r : List (Str × V)} : ((k, v) :: r).lookup k = some v := by
  rw [List.lookup_cons, beq_self_eq_true]
theorem lk_skip {k k' : Str} {v : V} {r : List (Str × V)} (h : (k == k') = false) : ((k', v) :: r).lookup k = r.lookup k := by
  rw [List.lookup_cons, h]
theorem put_new {f : Str} {v : V} : ∀ {fs : List (Str × V)}, (∀ p ∈ fs, ¬ p.1 = f) → putF f v fs = fs ++ [(f, v)]
  | [], _ => rfl
  | (k, u) :: r, h => by
    unfold putF
    rw [if_neg (h (k, u) (List.mem_cons_self ..)), put_new fun p hp => h p (List.mem_cons_of_mem _ hp)]
    rfl
section
variable {n a b s k t p y : V}
theorem rf_name : (roomF n a b s k t p y).lookup ("name" : Str) = some n := lk_hit
theorem rf_above : (roomF n a b s k t p y).lookup ("above" : Str) = some a := by
  unfold roomF
  rw [lk_skip (by decide +kernel)]
  exact lk_hit
theorem rf_boxes : (roomF n a b s k t p y).lookup ("boxes" : Str) = some b := by
  unfold roomF
  rw [lk_skip (by decide +kernel), lk_skip (by decide +kernel)]
  exact lk_hit
theorem rf_sayings : (roomF n a b s k t p y).lookup ("sayings" : Str) = some s := by
  unfold roomF
  rw [lk_skip (by decide +kernel), lk_skip (by decide +kernel), lk_skip (by decide +kernel)]
  exact lk_hit
theorem rf_ask : (roomF n a b s k t p y).lookup ("ask" : Str) = some k := by
  unfold roomF
  rw [lk_skip (by decide +kernel), lk_skip (by decide +kernel), lk_skip (by decide +kernel), lk_skip (by decide +kernel)]
  exact lk_hit
theorem rf_told : (roomF n a b s k t p y).lookup ("told" : Str) = some t := by
  unfold roomF
  rw [lk_skip (by decide +kernel), lk_skip (by decide +kernel), lk_skip (by decide +kernel), lk_skip (by decide +kernel), lk_skip (by decide +kernel)]
  exact lk_hit
theorem rf_promise : (roomF n a b s k t p y).lookup ("promise" : Str) = some p := by
  unfold roomF
  rw [lk_skip (by decide +kernel), lk_skip (by decide +kernel), lk_skip (by decide +kernel), lk_skip (by decide +kernel), lk_skip (by decide +kernel), lk_skip (by decide +kernel)]
  exact lk_hit
theorem rf_body : (roomF n a b s k t p y).lookup ("body" : Str) = some y := by
  unfold roomF
  rw [lk_skip (by decide +kernel), lk_skip (by decide +kernel), lk_skip (by decide +kernel), lk_skip (by decide +kernel), lk_skip (by decide +kernel), lk_skip (by decide +kernel), lk_skip (by decide +kernel)]
  exact lk_hit
end
theorem nx {k f : Str} {v : V} (h : ¬ k = f) : ¬ (k, v).1 = f := h
section
variable {n a b s k t p y : V}
theorem put1 : putF "above" a ([("name", n)] : List (Str × V)) = ([("name", n), ("above", a)] : List (Str × V)) := put_new (List.forall_mem_cons.mpr ⟨nx (by decide +kernel), List.forall_mem_nil _⟩)
theorem put2 : putF "boxes" b ([("name", n), ("above", a)] : List (Str × V)) = ([("name", n), ("above", a), ("boxes", b)] : List (Str × V)) := put_new (List.forall_mem_cons.mpr ⟨nx (by decide +kernel), List.forall_mem_cons.mpr ⟨nx (by decide +kernel), List.forall_mem_nil _⟩⟩)
theorem put3 : putF "sayings" s ([("name", n), ("above", a), ("boxes", b)] : List (Str × V)) = ([("name", n), ("above", a), ("boxes", b), ("sayings", s)] : List (Str × V)) := put_new (List.forall_mem_cons.mpr ⟨nx (by decide +kernel), List.forall_mem_cons.mpr ⟨nx (by decide +kernel), List.forall_mem_cons.mpr ⟨nx (by decide +kernel), List.forall_mem_nil _⟩⟩⟩)
theorem put4 : putF "ask" k ([("name", n), ("above", a), ("boxes", b), ("sayings", s)] : List (Str × V)) = ([("name", n), ("above", a), ("boxes", b), ("sayings", s), ("ask", k)] : List (Str × V)) := put_new (List.forall_mem_cons.mpr ⟨nx (by decide +kernel), List.forall_mem_cons.mpr ⟨nx (by decide +kernel), List.forall_mem_cons.mpr ⟨nx (by decide +kernel), List.forall_mem_cons.mpr ⟨nx (by decide +kernel), List.forall_mem_nil _⟩⟩⟩⟩)
theorem put5 : putF "told" t ([("name", n), ("above", a), ("boxes", b), ("sayings", s), ("ask", k)] : List (Str × V)) = ([("name", n), ("above", a), ("boxes", b), ("sayings", s), ("ask", k), ("told", t)] : List (Str × V)) := put_new (List.forall_mem_cons.mpr ⟨nx (by decide +kernel), List.forall_mem_cons.mpr ⟨nx (by decide +kernel), List.forall_mem_cons.mpr ⟨nx (by decide +kernel), List.forall_mem_cons.mpr ⟨nx (by decide +kernel), List.forall_mem_cons.mpr ⟨nx (by decide +kernel), List.forall_mem_nil _⟩⟩⟩⟩⟩)
theorem put6 : putF "promise" p ([("name", n), ("above", a), ("boxes", b), ("sayings", s), ("ask", k), ("told", t)] : List (Str × V)) = ([("name", n), ("above", a), ("boxes", b), ("sayings", s), ("ask", k), ("told", t), ("promise", p)] : List (Str × V)) := put_new (List.forall_mem_cons.mpr ⟨nx (by decide +kernel), List.forall_mem_cons.mpr ⟨nx (by decide +kernel), List.forall_mem_cons.mpr ⟨nx (by decide +kernel), List.forall_mem_cons.mpr ⟨nx (by decide +kernel), List.forall_mem_cons.mpr ⟨nx (by decide +kernel), List.forall_mem_cons.mpr ⟨nx (by decide +kernel), List.forall_mem_nil _⟩⟩⟩⟩⟩⟩)
theorem put7 : putF "body" y ([("name", n), ("above", a), ("boxes", b), ("sayings", s), ("ask", k), ("told", t), ("promise", p)] : List (Str × V)) = ([("name", n), ("above", a), ("boxes", b), ("sayings", s), ("ask", k), ("told", t), ("promise", p), ("body", y)] : List (Str × V)) := put_new (List.forall_mem_cons.mpr ⟨nx (by decide +kernel), List.forall_mem_cons.mpr ⟨nx (by decide +kernel), List.forall_mem_cons.mpr ⟨nx (by decide +kernel), List.forall_mem_cons.mpr ⟨nx (by decide +kernel), List.forall_mem_cons.mpr ⟨nx (by decide +kernel), List.forall_mem_cons.mpr ⟨nx (by decide +kernel), List.forall_mem_cons.mpr ⟨nx (by decide +kernel), List.forall_mem_nil _⟩⟩⟩⟩⟩⟩⟩)
end
/-- the boxes of a room -/
def CratesAt (H : Hp) (b : Addr) (xs : List (Str × Int × Int)) : Prop := ∃ as : List Addr, H b = some (.tup (as.map V.ref)) ∧ Paired (fun (a : Addr) (x : Str × Int × Int) => H a = some (.tup [.str x.1, .int x.2.1, .int x.2.2])) as xs
def SaysAt (H : Hp) (b : Addr) (ts : List Ts) : Prop := ∃ vs, H b = some (.tup vs) ∧ Paired (TsAt H) vs ts
def AskAt (v : V) : Option Int → Prop
  | none => v = .non
  | some i => v = .int i
def ToldAt (H : Hp) (v : V) : Option (Int × Ex) → Prop
  | none => v = .non
  | some (i, e) => ∃ a u, v = .ref a ∧ H a = some (.tup [.int i, u]) ∧ ExAt H u e
def VowAt (H : Hp) (v : V) : Option Ts → Prop
  | none => v = .non
  | some t => TsAt H v t
/-- the eight parts -/
structure PartsAt (H : Hp) (r : Rm) (n a b s k t p y : V) : Prop where
  name : n = .str r.name
  above : a = .str r.above
  boxes : ∃ c, b = .ref c ∧ CratesAt H c r.boxes
  sayings : ∃ c, s = .ref c ∧ SaysAt H c r.sayings
  ask : AskAt k r.ask
  told : ToldAt H t r.told
  promise : VowAt H p r.promise
  body : ∃ c, y = .ref c ∧ BdAt H c r.body
/-- a room in the heap -/
def RmAt (C : Addr) (H : Hp) (x : Addr) (r : Rm) : Prop := ∃ dx n a b s k t p y, H x = some (.ins C dx (roomF n a b s k t p y)) ∧ PartsAt H r n a b s k t p y
theorem paired_imp {α β : Type} {R S : α → β → Prop} (h : ∀ x y, R x y → S x y) : ∀ {xs : List α} {ys : List β}, Paired R xs ys → Paired S xs ys
  | _, _, .nil => .nil
  | _, _, .cons r t => .cons (h _ _ r) (paired_imp h t)
theorem CratesAt.keep {H H' : Hp} (k : Tups H H') {b : Addr} {xs : List (Str × Int × Int)} (h : CratesAt H b xs) : CratesAt H' b xs := by
  obtain ⟨as, h1, h2⟩ := h
  exact ⟨as, k _ _ h1, paired_imp (fun _ _ q => k _ _ q) h2⟩
theorem SaysAt.keep {H H' : Hp} (k : Tups H H') {b : Addr} {xs : List Ts} (h : SaysAt H b xs) : SaysAt H' b xs := by
  obtain ⟨as, h1, h2⟩ := h
  exact ⟨as, k _ _ h1, paired_imp (fun _ _ q => q.keep k) h2⟩
theorem ToldAt.keep {H H' : Hp} (k : Tups H H') {v : V} : ∀ {o : Option (Int × Ex)}, ToldAt H v o → ToldAt H' v o
  | none, h => h
  | some (i, e), h => by
    obtain ⟨a, u, h1, h2, h3⟩ := h
    exact ⟨a, u, h1, k _ _ h2, h3.keep k⟩
theorem VowAt.keep {H H' : Hp} (k : Tups H H') {v : V} : ∀ {o : Option Ts}, VowAt H v o → VowAt H' v o
  | none, h => h
  | some t, h => TsAt.keep k h
theorem BdAt.keep {H H' : Hp} (k : Tups H H') {a : Addr} {b : Bd} (h : BdAt H a b) : BdAt H' a b := by
  obtain ⟨vs, h1, h2⟩ := h
  exact ⟨vs, k _ _ h1, h2.keep k⟩
theorem PartsAt.keep {H H' : Hp} (k : Tups H H') {r : Rm} {n a b s q t p y : V} (h : PartsAt H r n a b s q t p y) : PartsAt H' r n a b s q t p y where
  name := h.name
  above := h.above
  boxes := by obtain ⟨c, h1, h2⟩ := h.boxes; exact ⟨c, h1, h2.keep k⟩
  sayings := by obtain ⟨c, h1, h2⟩ := h.sayings; exact ⟨c, h1, h2.keep k⟩
  ask := h.ask
  told := h.told.keep k
  promise := h.promise.keep k
  body := by obtain ⟨c, h1, h2⟩ := h.body; exact ⟨c, h1, h2.keep k⟩
theorem RmAt.keep {C : Addr} {H H' : Hp} (k : Same H H') {x : Addr} {r : Rm} (h : RmAt C H x r) : RmAt C H' x r := by
  obtain ⟨dx, n, a, b, s, q, t, p, y, h1, h2⟩ := h
  exact ⟨dx, n, a, b, s, q, t, p, y, k _ _ h1, h2.keep (Same.tups k)⟩
/-! ### Room.__init__ -/
abbrev cRoom : Stmt := top 74
abbrev sRInit : Stmt := inClass (top 74) 0
abbrev psRI : List Str := ["self", "name", "above", "boxes", "sayings", "ask", "told", "promise", "body"]
theorem scRInit : FnScope psRI psRI (defScope sRInit) := ⟨rfl, rfl, rfl, by decide +kernel, rfl, by decide +kernel, by decide +kernel⟩
/-- what the class of rooms is like -/
structure RoomC (K : PySem.W.Frag) (C : Addr) : Prop where
  cl : Cls K C
  n1 : NoAttr K C "name"
  n2 : NoAttr K C "above"
  n3 : NoAttr K C "boxes"
  n4 : NoAttr K C "sayings"
  n5 : NoAttr K C "ask"
  n6 : NoAttr K C "told"
  n7 : NoAttr K C "promise"
  n8 : NoAttr K C "body"
def spRInit (C : Addr) : Sp := fun vs H Q _ => ∃ (x dx : Addr) (n a b s k t p y : V), vs = [.ref x, n, a, b, s, k, t, p, y] ∧ H x = some (.ins C dx []) ∧ Q .non (upd H x (.ins C dx (roomF n a b s k t p y)))
section
variable {P : Program} {w : World} {K : PySem.W.Frag} {mg : Str → Option Value} {base : Heap} {f C : Addr} {fd : FuncData}
theorem upd2 {H : Hp} {x : Addr} {o o' : HO} : upd (upd H x o) x o' = upd H x o' := by
  funext a
  by_cases e : a = x
  · rw [e, upd_same, upd_same]
  · rw [upd_ne e, upd_ne e, upd_ne e]
theorem ok_rinit {kws : List (Str × V)} (T : RoomC K C) (F : FunD K "__init__" "Room.__init__" (defArgs sRInit) (defBody sRInit) (defScope sRInit) [] kws f fd) : FnOk P w K mg base CX0 1 f fd psRI (spRInit C) := by
  refine F.ok scRInit (fun vs H Q E h => ?_) (fun cdv A outer s H vs Q E hr h => ?_)
  · obtain ⟨x, dx, n, a, b, s, k, t, p, y, rfl, _⟩ := h
    rfl
  obtain ⟨x, dx, n, a, b, s', k, t, p, y, rfl, hx, q⟩ := h
  refine ⟨_, PSs.nox (pss_cons (ps_fld (pv 0) (pv 1) rfl) (pss_cons (ps_fld (pv 0) (pv 2) rfl) (pss_cons (ps_fld (pv 0) (pv 3) rfl) (pss_cons (ps_fld (pv 0) (pv 4) rfl) (pss_cons (ps_fld (pv 0) (pv 5) rfl) (pss_cons (ps_fld (pv 0) (pv 6) rfl)
    (pss_cons (ps_fld (pv 0) (pv 7) rfl) (pss_one (ps_fld (pv 0) (pv 8) rfl))))))))), ?_⟩
  refine ⟨_, rfl, _, rfl, x, C, dx, _, rfl, hx, T.cl, T.n1, (by show 0 < 1000; decide), ?_⟩
  refine ⟨_, rfl, _, rfl, x, C, dx, [("name", n)], rfl, upd_same, T.cl, T.n2, (by show 1 < 1000; decide), ?_⟩
  rw [put1, upd2]
  refine ⟨_, rfl, _, rfl, x, C, dx, [("name", n), ("above", a)], rfl, upd_same, T.cl, T.n3, (by show 2 < 1000; decide), ?_⟩
  rw [put2, upd2]
  refine ⟨_, rfl, _, rfl, x, C, dx, [("name", n), ("above", a), ("boxes", b)], rfl, upd_same, T.cl, T.n4, (by show 3 < 1000; decide), ?_⟩
  rw [put3, upd2]
  refine ⟨_, rfl, _, rfl, x, C, dx, [("name", n), ("above", a), ("boxes", b), ("sayings", s')], rfl, upd_same, T.cl, T.n5, (by show 4 < 1000; decide), ?_⟩
  rw [put4, upd2]
  refine ⟨_, rfl, _, rfl, x, C, dx, [("name", n), ("above", a), ("boxes", b), ("sayings", s'), ("ask", k)], rfl, upd_same, T.cl, T.n6, (by show 5 < 1000; decide), ?_⟩
  rw [put5, upd2]
  refine ⟨_, rfl, _, rfl, x, C, dx, [("name", n), ("above", a), ("boxes", b), ("sayings", s'), ("ask", k), ("told", t)], rfl, upd_same, T.cl, T.n7, (by show 6 < 1000; decide), ?_⟩
  rw [put6, upd2]
  refine ⟨_, rfl, _, rfl, x, C, dx, [("name", n), ("above", a), ("boxes", b), ("sayings", s'), ("ask", k), ("told", t), ("promise", p)], rfl, upd_same, T.cl, T.n8, (by show 7 < 1000; decide), ?_⟩
  rw [put7, upd2]
  exact q
end
end Any
namespace Any
open L2 PySem PySem.Spec PyProof.Rows LamX NdefX
abbrev sRooms : Stmt := top 76
abbrev sFault : Stmt := top 77
abbrev sNameF : Stmt := top 78
abbrev sAboveF : Stmt := top 79
abbrev sFloor : Stmt := top 80
abbrev sBoxesF : Stmt := top 81
abbrev sBoxF : Stmt := top 82
abbrev sSaysF : Stmt := top 83
abbrev sFirstF : Stmt := top 84
abbrev sOtherF : Stmt := top 85
abbrev sToldF : Stmt := top 86
abbrev sBodyF : Stmt := top 87
abbrev sNames : Stmt := top 88
theorem scNames : FnScope ["room", "name", "bound", "first"] ["room"] (defScope sNames) := ⟨rfl, rfl, rfl, by decide +kernel, rfl, by decide +kernel, by decide +kernel⟩
theorem scBoxF : FnScope ["box", "name", "bound", "first"] ["box"] (defScope sBoxF) := ⟨rfl, rfl, rfl, by decide +kernel, rfl, by decide +kernel, by decide +kernel⟩
theorem scToldF : FnScope ["room", "bound", "expression"] ["room"] (defScope sToldF) := ⟨rfl, rfl, rfl, by decide +kernel, rfl, by decide +kernel, by decide +kernel⟩
theorem scFirstF : FnScope ["room"] ["room"] (defScope sFirstF) := ⟨rfl, rfl, rfl, by decide +kernel, rfl, by decide +kernel, by decide +kernel⟩
theorem scOtherF : FnScope ["room"] ["room"] (defScope sOtherF) := ⟨rfl, rfl, rfl, by decide +kernel, rfl, by decide +kernel, by decide +kernel⟩
def Rm.bn (r : Rm) : List Str := r.boxes.map (·.1)
def spBn (C : Addr) : Sp := fun vs H Q _ => ∃ x r, vs = [.ref x] ∧ RmAt C H x r ∧ r.boxes.length ≤ 4 ∧ ∀ p H', H p = none → Same H H' → H' p = some (.lst (r.bn.map V.str)) → Q (.ref p) H'
/-- a box as point 6 has it -/
def crateOk (x : Str × Int × Int) : Prop := Nm x.1 ∧ (1 ≤ x.2.1 ∧ x.2.1 ≤ 40) ∧ (0 ≤ x.2.2 ∧ x.2.2 ≤ x.2.1 - 1)
def spBoxF : Sp := fun vs H Q _ => ∃ a x, vs = [.ref a] ∧ H a = some (.tup [.str x.1, .int x.2.1, .int x.2.2]) ∧ crateOk x ∧ ∀ H', Same H H' → Q (.bl true) H'
theorem fm_some {α : Type} (g : α → V) : ∀ xs : List α, (xs.map fun x => some (g x)).filterMap id = xs.map g
  | [] => rfl
  | x :: r => by
    rw [List.map_cons, List.map_cons, ← fm_some g r]
    rfl
section
variable {P : Program} {w : World} {K : PySem.W.Frag} {mg : Str → Option Value} {base : Heap} {f C nm wi : Addr} {fd nmd wid : FuncData}
theorem ok_bn (T : RoomC K C) (F : Fun K "box_names" "box_names" sNames f fd) : FnOk P w K mg base CX0 1 f fd ["room"] (spBn C) := by
  refine F.ok scNames (fun vs H Q E h => ?_) (fun cdv A outer s H vs Q E hr h => ?_)
  · obtain ⟨x, r, rfl, _⟩ := h
    rfl
  obtain ⟨x, r, rfl, hx, hz, q⟩ := h
  obtain ⟨dx, n, a, b, s', k, t, p, y, h1, h2⟩ := hx
  obtain ⟨c, rfl, as, hc, hp⟩ := h2.boxes
  refine ⟨_, pss_one (ps_ret (pe_lc (own := [("name", 1), ("bound", 2), ("first", 3)]) (g := gTup K 3 (gCons (gName 1) (gCons (gName 2) (gCons (gName 3) gNil)))) (tt := tYes) rfl scNames.nd (pi_tup (pe_fld (pv 0) rfl)) (blkOk_by (N := ["room", "name", "bound", "first"]) (sc := defScope sNames) (by decide +kernel))
    (fun _ _ _ _ _ => pg_tup rfl (pgs_cons (pg_name (i := 1) scNames.nd rfl (Or.inl rfl)) (pgs_cons (pg_name (i := 2) scNames.nd rfl (Or.inl rfl)) (pgs_cons (pg_name (i := 3) scNames.nd rfl (Or.inl rfl)) pgs_nil))))
    (fun _ _ _ _ _ => pts_nil) (fun _ _ _ _ _ => pv 1))), ?_⟩
  refine ⟨_, rfl, x, C, dx, _, _, rfl, h1, T.cl, T.n3, rf_boxes, c, rfl, ⟨_, SqT.of hc⟩, fun D hD => ?_⟩
  have hl := paired_len hp
  have hs : sizeLine = 16777216 := sizeLine_eq
  refine turns_tup (K := K) (a := c) (xs := as.map V.ref) (r.boxes.map fun z => some (V.str z.1)) hD (fun Hc sm => SqT.of (sm _ _ hc)) (by rw [List.length_map, List.length_map]; exact hl.symm) (by rw [List.length_map]; omega) ?_ ?_
  · intro i v o Hc Y N hv ho sm hY hN
    rw [List.getElem?_map] at hv ho
    obtain ⟨e, he, rfl⟩ : ∃ e, as[i]? = some e ∧ v = .ref e := by
      cases z : as[i]? with
      | none => rw [z] at hv; cases hv
      | some e => rw [z] at hv; exact ⟨e, rfl, (Option.some.inj hv).symm⟩
    obtain ⟨z, hz2, hat⟩ := paired_get hp he
    rw [hz2] at ho
    exact ⟨e, _, rfl, SqT.of (sm _ _ hat), rfl, _, _, rfl, _, _, rfl, _, _, rfl, rfl, rfl, _, rfl, hY _ (Option.some.inj ho).symm Hc same_refl⟩
  · intro Hc hc2 sm
    rw [fm_some (fun z : Str × Int × Int => V.str z.1)] at hc2
    refine q D Hc hD sm ?_
    rw [hc2]
    unfold Rm.bn
    rw [List.map_map]
    rfl
theorem ok_boxf (O : Own mg) (F : Fun K "box_fits" "box_fits" sBoxF f fd) (GN : FnOk P w K mg base CX0 1 nm nmd ["thing"] spName) (bN : Binds K nmd ["thing"] []) (kN : PySem.W.keepIn K (.ref nm) = true) (mN : mg "is_name" = some (.ref nm))
    (WI : FnOk P w K mg base CX0 2 wi wid ["thing", "least", "most"] spWithin) (bW : Binds K wid ["thing", "least", "most"] []) (kW : PySem.W.keepIn K (.ref wi) = true) (mW : mg "is_within" = some (.ref wi)) {t40 : Tok} (m40 : mg "MOST_BOUND" = some (.int 40 t40)) :
    FnOk P w K mg base CX0 3 f fd ["box"] spBoxF := by
  refine F.ok scBoxF (fun vs H Q E h => ?_) (fun cdv A outer s H vs Q E hr h => ?_)
  · obtain ⟨a, x, rfl, _⟩ := h
    rfl
  obtain ⟨a, x, rfl, ha, ⟨k1, k2, k3⟩, q⟩ := h
  refine ⟨_, pss_cons (ps_if (PW.pt (pw_or (pt_not (pt_val (pe_callB call_isi rfl O.isi (by decide +kernel) (pa_cons (pv 0) (pa_cons (pe_bltn (v := .ty "tuple") rfl O.tuple (by decide +kernel) rfl) pa_nil)))))
      (pw_or1 (pt_cmpR op_ne (pe_callB call_len_seq rfl O.len PySem.boot_len (pa_cons (pv 0) pa_nil)) pe_int (nomark _))))) (pss_one (ps_ret pe_bl)) pss_nil)
    (pss_cons (ps_asg (pv 0) (pg_tup rfl (pgs_cons (pg_name (i := 1) scBoxF.nd rfl (Or.inl rfl)) (pgs_cons (pg_name (i := 2) scBoxF.nd rfl (Or.inl rfl)) (pgs_cons (pg_name (i := 3) scBoxF.nd rfl (Or.inl rfl)) pgs_nil)))))
    (pss_one (ps_ret (pe_and (pe_call GN (hr.mono (by decide)) rfl mN kN bN .nil pass0 (pa_cons (pv 1) pa_nil)) (pe_and (pe_call WI hr rfl mW kW bW .nil pass0 (pa_cons (pv 2) (pa_cons pe_int (pa_cons (pe_glob (v := .int 40) rfl m40 ⟨_, rfl⟩) pa_nil))))
      (pe_one (pe_call WI hr rfl mW kW bW .nil pass0 (pa_cons (pv 3) (pa_cons pe_int (pa_cons (pe_op op_sub (pv 2) pe_int) pa_nil)))))))))), ?_⟩
  refine ⟨_, rfl, _, _, _, _, true, rfl, .ty "tuple", .base (.tup ha), kb "tuple" "tuple" true, _, rfl, itF rfl ?_⟩
  refine ⟨_, rfl, _, _, rfl, .inr (SqT.of ha), rfl, _, rfl, itF rfl ?_⟩
  refine ⟨_, rfl, a, _, rfl, SqT.of ha, rfl, _, _, rfl, _, _, rfl, _, _, rfl, rfl, ?_⟩
  refine ⟨_, rfl, x.1, rfl, k1, fun H1 s1 => ⟨_, rfl, itT rfl ?_⟩⟩
  refine ⟨_, rfl, _, _, _, rfl, ?_⟩
  rw [decide_eq_true k2.1, decide_eq_true k2.2]
  refine ⟨_, rfl, itT rfl ?_⟩
  refine ⟨_, rfl, _, rfl, _, _, rfl, rfl, _, _, _, rfl, ?_⟩
  rw [decide_eq_true k3.1, decide_eq_true k3.2]
  exact q H1 s1
end
end Any
namespace Any
open L2 PySem PySem.Spec PyProof.Rows LamX NdefX
def spToldF (C : Addr) : Sp := fun vs H Q _ => ∃ x r i e, vs = [.ref x] ∧ RmAt C H x r ∧ r.boxes.length ≤ 4 ∧ r.told = some (i, e) ∧ (1 ≤ i ∧ i ≤ 40) ∧ e.right r.bn ["asked"] ∧ ∀ H', Same H H' → Q (.bl true) H'
/-- of the first room nothing of these -/
def Rm.firstOk (r : Rm) : Prop := r.ask = none ∧ r.told = none ∧ r.promise = none
/-- of others, as point 6 has them -/
def Rm.otherOk (r : Rm) : Prop := (∃ i, r.ask = some i ∧ 1 ≤ i ∧ i ≤ 40) ∧ (∃ i e, r.told = some (i, e) ∧ (1 ≤ i ∧ i ≤ 40) ∧ e.right r.bn ["asked"]) ∧ (∀ t, r.promise = some t → t.right [] ["asked", "told"])
def spFirstF (C : Addr) : Sp := fun vs H Q _ => ∃ x r, vs = [.ref x] ∧ RmAt C H x r ∧ r.firstOk ∧ ∀ H', Same H H' → Q (.str "") H'
def spOtherF (C : Addr) : Sp := fun vs H Q _ => ∃ x r, vs = [.ref x] ∧ RmAt C H x r ∧ r.boxes.length ≤ 4 ∧ r.otherOk ∧ ∀ H', Same H H' → Q (.str "") H'
section
variable {P : Program} {w : World} {K : PySem.W.Frag} {mg : Str → Option Value} {base : Heap} {f C wi ie it bn tf : Addr} {fd wid ied itd bnd tfd : FuncData}
theorem ok_toldf (O : Own mg) (T : RoomC K C) (F : Fun K "told_fits" "told_fits" sToldF f fd)
    (WI : FnOk P w K mg base CX0 2 wi wid ["thing", "least", "most"] spWithin) (bW : Binds K wid ["thing", "least", "most"] []) (kW : PySem.W.keepIn K (.ref wi) = true) (mW : mg "is_within" = some (.ref wi)) {t40 : Tok} (m40 : mg "MOST_BOUND" = some (.int 40 t40))
    (IE : FnOk P w K mg base CX0 10 ie ied ps3 spIsE) (bIE : Binds K ied ps3 []) (kIE : PySem.W.keepIn K (.ref ie) = true) (mIE : mg "is_expression" = some (.ref ie))
    (BN : FnOk P w K mg base CX0 1 bn bnd ["room"] (spBn C)) (bB : Binds K bnd ["room"] []) (kB : PySem.W.keepIn K (.ref bn) = true) (mB : mg "box_names" = some (.ref bn)) :
    FnOk P w K mg base CX0 11 f fd ["room"] (spToldF C) := by
  refine F.ok scToldF (fun vs H Q E h => ?_) (fun cdv A outer s H vs Q E hr h => ?_)
  · obtain ⟨x, r, i, e, rfl, _⟩ := h
    rfl
  obtain ⟨x, r, i, e, rfl, hx, hz, ht, hi, he, q⟩ := h
  obtain ⟨dx, n, a, b, s', k, t, p, y, h1, h2⟩ := id hx
  have h3 := h2.told
  rw [ht] at h3
  obtain ⟨c, u, rfl, hc, hu⟩ := h3
  refine ⟨_, pss_cons (ps_if (PW.pt (pw_or (pt_not (pt_val (pe_callB call_isi rfl O.isi (by decide +kernel) (pa_cons (pe_fld (pv 0) rfl) (pa_cons (pe_bltn (v := .ty "tuple") rfl O.tuple (by decide +kernel) rfl) pa_nil)))))
      (pw_or1 (pt_cmpR op_ne (pe_callB call_len_seq rfl O.len PySem.boot_len (pa_cons (pe_fld (pv 0) rfl) pa_nil)) pe_int (nomark _))))) (pss_one (ps_ret pe_bl)) pss_nil)
    (pss_cons (ps_asg (pe_fld (pv 0) rfl) (pg_tup rfl (pgs_cons (pg_name (i := 1) scToldF.nd rfl (Or.inl rfl)) (pgs_cons (pg_name (i := 2) scToldF.nd rfl (Or.inl rfl)) pgs_nil))))
    (pss_one (ps_ret (pe_and (pe_call WI (hr.mono (by decide)) rfl mW kW bW .nil pass0 (pa_cons (pv 1) (pa_cons pe_int (pa_cons (pe_glob (v := .int 40) rfl m40 ⟨_, rfl⟩) pa_nil))))
      (pe_one (pe_call IE hr rfl mIE kIE bIE .nil pass0 (pa_cons (pv 2) (pa_cons (pe_call BN (hr.mono (by decide)) rfl mB kB bB .nil pass0 (pa_cons (pv 0) pa_nil)) (pa_cons (pe_tup (pa_cons pe_str pa_nil)) pa_nil))))))))), ?_⟩
  refine ⟨_, rfl, x, C, dx, _, _, rfl, h1, T.cl, T.n6, rf_told, _, _, _, _, true, rfl, .ty "tuple", .base (.tup hc), kb "tuple" "tuple" true, _, rfl, itF rfl ?_⟩
  refine ⟨_, rfl, x, C, dx, _, _, rfl, h1, T.cl, T.n6, rf_told, _, _, rfl, .inr (SqT.of hc), rfl, _, rfl, itF rfl ?_⟩
  refine ⟨_, rfl, x, C, dx, _, _, rfl, h1, T.cl, T.n6, rf_told, c, _, rfl, SqT.of hc, rfl, _, _, rfl, _, _, rfl, rfl, ?_⟩
  refine ⟨_, rfl, _, _, _, rfl, ?_⟩
  rw [decide_eq_true hi.1, decide_eq_true hi.2]
  refine ⟨_, rfl, itT rfl ?_⟩
  refine ⟨_, rfl, _, rfl, x, r, rfl, hx, hz, fun l H1 hl s1 hL => ?_⟩
  refine ⟨by show 1 ≤ sizeLine; decide, fun wd hwd => ?_⟩
  have s2 := s1.trans (same_new hwd (.tup [.str "asked"]))
  refine ⟨u, l, wd, e, r.bn, ["asked"], rfl, hu.keep (Same.tups s2), he, .inl ((same_new hwd _) _ _ hL), upd_same, fun H2 s3 => q H2 (s2.trans s3)⟩
theorem ok_firstf (T : RoomC K C) (F : Fun K "first_fault" "first_fault" sFirstF f fd) : FnOk P w K mg base CX0 1 f fd ["room"] (spFirstF C) := by
  refine F.ok scFirstF (fun vs H Q E h => ?_) (fun cdv A outer s H vs Q E hr h => ?_)
  · obtain ⟨x, r, rfl, _⟩ := h
    rfl
  obtain ⟨x, r, rfl, hx, ⟨e1, e2, e3⟩, q⟩ := h
  obtain ⟨dx, n, a, b, s', k, t, p, y, h1, h2⟩ := id hx
  have g1 := h2.ask
  have g2 := h2.told
  have g3 := h2.promise
  rw [e1] at g1
  rw [e2] at g2
  rw [e3] at g3
  cases g1
  cases g2
  cases g3
  refine ⟨_, pss_cons (ps_if (pt_cmpR op_notN (pe_fld (pv 0) rfl) pe_non (nomark _)) (pss_one (ps_ret pe_str)) pss_nil)
    (pss_cons (ps_if (pt_cmpR op_notN (pe_fld (pv 0) rfl) pe_non (nomark _)) (pss_one (ps_ret pe_str)) pss_nil)
    (pss_cons (ps_if (pt_cmpR op_notN (pe_fld (pv 0) rfl) pe_non (nomark _)) (pss_one (ps_ret pe_str)) pss_nil)
    (pss_one (ps_ret pe_str)))), ?_⟩
  refine ⟨_, rfl, x, C, dx, _, _, rfl, h1, T.cl, T.n5, rf_ask, rfl, _, rfl, itF rfl ?_⟩
  refine ⟨_, rfl, x, C, dx, _, _, rfl, h1, T.cl, T.n6, rf_told, rfl, _, rfl, itF rfl ?_⟩
  refine ⟨_, rfl, x, C, dx, _, _, rfl, h1, T.cl, T.n7, rf_promise, rfl, _, rfl, itF rfl ?_⟩
  exact q _ same_refl
theorem vow_ref {H : Hp} {v : V} {t : Ts} (h : TsAt H v t) : decide (v = .non) = false := by
  cases h <;> exact decide_eq_false (fun z => by cases z)
theorem ok_otherf (T : RoomC K C) (F : Fun K "other_fault" "other_fault" sOtherF f fd)
    (WI : FnOk P w K mg base CX0 2 wi wid ["thing", "least", "most"] spWithin) (bW : Binds K wid ["thing", "least", "most"] []) (kW : PySem.W.keepIn K (.ref wi) = true) (mW : mg "is_within" = some (.ref wi)) {t40 : Tok} (m40 : mg "MOST_BOUND" = some (.int 40 t40))
    (IT : FnOk P w K mg base CX0 16 it itd ps3 spIsT) (bIT : Binds K itd ps3 []) (kIT : PySem.W.keepIn K (.ref it) = true) (mIT : mg "is_test" = some (.ref it))
    (TF : FnOk P w K mg base CX0 11 tf tfd ["room"] (spToldF C)) (bT : Binds K tfd ["room"] []) (kT : PySem.W.keepIn K (.ref tf) = true) (mT : mg "told_fits" = some (.ref tf)) :
    FnOk P w K mg base CX0 17 f fd ["room"] (spOtherF C) := by
  refine F.ok scOtherF (fun vs H Q E h => ?_) (fun cdv A outer s H vs Q E hr h => ?_)
  · obtain ⟨x, r, rfl, _⟩ := h
    rfl
  obtain ⟨x, r, rfl, hx, hz, ⟨⟨i, e1, i1, i2⟩, ⟨j, e, e2, hj, he⟩, e3⟩, q⟩ := h
  obtain ⟨dx, n, a, b, s', k, t, p, y, h1, h2⟩ := id hx
  have g1 := h2.ask
  have g3 := h2.promise
  rw [e1] at g1
  cases g1
  refine ⟨_, pss_cons (ps_if (pt_not (pt_val (pe_call WI (hr.mono (by decide)) rfl mW kW bW .nil pass0 (pa_cons (pe_fld (pv 0) rfl) (pa_cons pe_int (pa_cons (pe_glob (v := .int 40) rfl m40 ⟨_, rfl⟩) pa_nil)))))) (pss_one (ps_ret pe_str)) pss_nil)
    (pss_cons (ps_if (pt_not (pt_val (pe_call TF (hr.mono (by decide)) rfl mT kT bT .nil pass0 (pa_cons (pv 0) pa_nil)))) (pss_one (ps_ret pe_str)) pss_nil)
    (pss_cons (ps_if (PW.pt (pw_and (pt_cmpR op_notN (pe_fld (pv 0) rfl) pe_non (nomark _)) (pw_and1 (pt_not (pt_val (pe_call IT hr rfl mIT kIT bIT .nil pass0 (pa_cons (pe_fld (pv 0) rfl) (pa_cons (pe_tup pa_nil) (pa_cons (pe_tup (pa_cons pe_str (pa_cons pe_str pa_nil))) pa_nil)))))))))
      (pss_one (ps_ret pe_str)) pss_nil)
    (pss_one (ps_ret pe_str)))), ?_⟩
  refine ⟨_, rfl, x, C, dx, _, _, rfl, h1, T.cl, T.n5, rf_ask, _, _, _, rfl, ?_⟩
  rw [decide_eq_true i1, decide_eq_true i2]
  refine ⟨_, rfl, itF rfl ?_⟩
  refine ⟨_, rfl, x, r, j, e, rfl, hx, hz, e2, hj, he, fun H1 s1 => ⟨_, rfl, itF rfl ?_⟩⟩
  refine ⟨_, rfl, x, C, dx, _, _, rfl, s1 _ _ h1, T.cl, T.n7, rf_promise, rfl, _, rfl, ?_⟩
  cases e4 : r.promise with
  | none =>
    rw [e4] at g3
    cases g3
    exact itF rfl (itF rfl (q H1 s1))
  | some vw =>
    rw [e4] at g3
    have g3 : TsAt H p vw := g3
    refine itT (by rw [vow_ref g3]; rfl) ?_
    refine ⟨_, rfl, x, C, dx, _, _, rfl, s1 _ _ h1, T.cl, T.n7, rf_promise, by show 0 ≤ sizeLine; decide, fun l hl => ?_⟩
    refine ⟨by show 2 ≤ sizeLine; decide, fun wd hwd => ?_⟩
    have s2 := s1.trans (same_new hl (.tup []))
    have s3 := s2.trans (same_new hwd (.tup [.str "asked", .str "told"]))
    refine ⟨p, l, wd, vw, [], ["asked", "told"], rfl, g3.keep (Same.tups s3), e3 _ e4, .inr ((same_new hwd _) _ _ upd_same), upd_same, fun H2 s4 => ⟨_, rfl, itF rfl (q H2 (s3.trans s4))⟩⟩
end
end Any
namespace Any
open L2 PySem PySem.Spec PyProof.Rows LamX NdefX
/-- a tuple of rooms -/
def RsAt (C : Addr) (H : Hp) (R : Addr) (rs : List Rm) : Prop := ∃ as : List Addr, H R = some (.tup (as.map V.ref)) ∧ Paired (RmAt C H) as rs
theorem RsAt.keep {C : Addr} {H H' : Hp} (k : Same H H') {R : Addr} {rs : List Rm} (h : RsAt C H R rs) : RsAt C H' R rs := by
  obtain ⟨as, h1, h2⟩ := h
  exact ⟨as, k _ _ h1, paired_imp (fun _ _ q => q.keep k) h2⟩
theorem refs_at {as : List Addr} {i : Nat} {v : V} (h : (as.map V.ref)[i]? = some v) : ∃ e, as[i]? = some e ∧ v = .ref e := by
  rw [List.getElem?_map] at h
  cases z : as[i]? with
  | none => rw [z] at h; cases h
  | some e => rw [z] at h; exact ⟨e, rfl, (Option.some.inj h).symm⟩
theorem paired_put {α β : Type} {R : α → β → Prop} : ∀ {xs : List α} {ys : List β}, Paired R xs ys → ∀ {i : Nat} {y : β}, ys[i]? = some y → ∃ x, xs[i]? = some x ∧ R x y
  | _, _, .nil, i, y, h => by simp at h
  | _, _, .cons r t, 0, y, h => by cases h; exact ⟨_, rfl, r⟩
  | _, _, .cons r t, i + 1, y, h => paired_put t (i := i) h
/-- what isinstance asks of the class -/
structure RoomI (K : PySem.W.Frag) (C : Addr) : Prop where
  ha : PySem.W.findIn K (.ref C) "__class__" = some (some (.builtin "object.__class__"))
  hn : PySem.W.specialIn K (.builtin "object.__class__") "__get__" = some (some (.builtin "getset_descriptor.__get__"))
  htk : PySem.W.takesIn K (.builtin "object.__class__") = some true
  hm : PySem.W.mroIn K C (.type "object") = some true
  one : PySem.W.kitOne K (.ref C) (.ref C) = some true
theorem scRooms : FnScope ["things", "thing"] ["things"] (defScope sRooms) := ⟨rfl, rfl, rfl, by decide +kernel, rfl, by decide +kernel, by decide +kernel⟩
theorem scNameF : FnScope ["rooms", "at", "name", "room"] ["rooms", "at"] (defScope sNameF) := ⟨rfl, rfl, rfl, by decide +kernel, rfl, by decide +kernel, by decide +kernel⟩
abbrev nmBo : List Str := ["rooms", "at", "words", "room", "beneath", "other"]
theorem scBodyF : FnScope nmBo ["rooms", "at", "words"] (defScope sBodyF) := ⟨rfl, rfl, rfl, by decide +kernel, rfl, by decide +kernel, by decide +kernel⟩
/-- the names of the rooms right beneath -/
def ben (rs : List Rm) (n : Str) : List Str := (rs.filter fun o => decide (o.above = n)).map (·.name)
theorem fm_ben (n : Str) : ∀ rs : List Rm, (rs.map fun o => if o.above = n then some (V.str o.name) else none).filterMap id = (ben rs n).map V.str
  | [] => rfl
  | o :: r => by
    have ih := fm_ben n r
    unfold ben at ih ⊢
    rw [List.map_cons]
    by_cases e : o.above = n
    · rw [if_pos e, List.filter_cons_of_pos (by simpa using e), List.map_cons, List.map_cons, ← ih]
      rfl
    · rw [if_neg e, List.filter_cons_of_neg (by simpa using e), ← ih]
      rfl
def spRooms (C : Addr) : Sp := fun vs H Q _ => ∃ R rs, vs = [.ref R] ∧ RsAt C H R rs ∧ 1 ≤ rs.length ∧ rs.length ≤ 8 ∧ ∀ H', Same H H' → Q (.bl true) H'
def spNameF (C : Addr) : Sp := fun vs H Q _ => ∃ (R : Addr) (i : Nat) (rs : List Rm) (r : Rm), vs = [.ref R, .int i] ∧ RsAt C H R rs ∧ rs.length ≤ 8 ∧ rs[i]? = some r ∧ Nm r.name ∧ r.name ∉ (rs.take i).map (·.name) ∧ ∀ H', Same H H' → Q (.bl true) H'
def spBodyF (C : Addr) : Sp := fun vs H Q _ => ∃ (R wd : Addr) (i : Nat) (rs : List Rm) (r : Rm) (ws : List Str), vs = [.ref R, .int i, .ref wd] ∧ RsAt C H R rs ∧ rs.length ≤ 8 ∧ rs[i]? = some r ∧ r.boxes.length ≤ 4 ∧
  r.body.right r.bn ws (ben rs r.name) ∧ H wd = some (.tup (ws.map V.str)) ∧ ∀ H', Same H H' → Q (.str "") H'
theorem cut_to (xs : List V) (i : Nat) (h : i ≤ xs.length) : cutV xs none (some (i : Int)) = xs.take i := by
  unfold cutV
  rw [HT.sIx_none, HT.sIx_nat, List.drop_zero, Nat.sub_zero, Nat.min_eq_left h]
theorem paired_take {α β : Type} {R : α → β → Prop} : ∀ {xs : List α} {ys : List β}, Paired R xs ys → ∀ i : Nat, Paired R (xs.take i) (ys.take i)
  | _, _, .nil, i => by rw [List.take_nil, List.take_nil]; exact .nil
  | _, _, .cons r t, 0 => .nil
  | _, _, .cons r t, i + 1 => by rw [List.take_succ_cons, List.take_succ_cons]; exact .cons r (paired_take t i)
section
variable {P : Program} {w : World} {K : PySem.W.Frag} {mg : Str → Option Value} {base : Heap} {f C nm ib bn : Addr} {fd nmd ibd bnd : FuncData}
theorem ok_rooms (O : Own mg) (T : RoomC K C) (TI : RoomI K C) (mR : mg "Room" = some (.ref C)) (F : Fun K "are_rooms" "are_rooms" sRooms f fd) {t8 : Tok} (m8 : mg "MOST_ROOMS" = some (.int 8 t8)) : FnOk P w K mg base CX0 1 f fd ["things"] (spRooms C) := by
  refine F.ok scRooms (fun vs H Q E h => ?_) (fun cdv A outer s H vs Q E hr h => ?_)
  · obtain ⟨R, rs, rfl, _⟩ := h
    rfl
  obtain ⟨R, rs, rfl, ⟨as, hR, hp⟩, z1, z8, q⟩ := h
  have hl := paired_len hp
  have hs : sizeLine = 16777216 := sizeLine_eq
  refine ⟨_, pss_cons (ps_if (PW.pt (pw_or (pt_not (pt_val (pe_callB call_isi rfl O.isi (by decide +kernel) (pa_cons (pv 0) (pa_cons (pe_bltn (v := .ty "tuple") rfl O.tuple (by decide +kernel) rfl) pa_nil)))))
      (pw_or1 (pt_not (pt_chain op_le op_le pe_int (pe_callB call_len_seq rfl O.len PySem.boot_len (pa_cons (pv 0) pa_nil)) (pe_glob (v := .int 8) rfl m8 ⟨_, rfl⟩)))))) (pss_one (ps_ret pe_bl)) pss_nil)
    (pss_one (ps_ret (pe_callB (cr_all rfl) rfl O.all (by decide +kernel) (pa_cons (pe_lc (own := [("thing", 1)]) (g := gName 1) (tt := tYes) rfl scRooms.nd
            (pi_tup (pv 0)) (blkOk_by (N := ["things", "thing"]) (sc := defScope sRooms) (by decide +kernel))
            (fun _ _ _ _ _ => pg_name (i := 1) scRooms.nd rfl (Or.inl rfl)) (fun _ _ _ _ _ => pts_nil)
            (fun _ _ _ _ _ => pe_callB (show CallR _ (.builtin "isinstance") (rIsi K) from call_isi) rfl O.isi (by decide +kernel) (pa_cons (pv 1) (pa_cons (pe_glob (v := .ref C) rfl mR rfl) pa_nil)))) pa_nil)))), ?_⟩
  refine ⟨_, rfl, _, _, _, _, true, rfl, .ty "tuple", .base (.tup hR), kb "tuple" "tuple" true, _, rfl, itF rfl ?_⟩
  refine ⟨_, rfl, R, _, rfl, .inr (SqT.of hR), _, _, rfl, rfl, _, rfl, itT ?_ ⟨_, _, rfl, rfl, _, rfl, itF ?_ ?_⟩⟩
  · exact decide_eq_true (by rw [List.length_map]; omega)
  · show (!decide (((as.map V.ref).length : Int) ≤ 8)) = false
    rw [decide_eq_true (by rw [List.length_map]; omega)]
    rfl
  refine ⟨_, rfl, R, rfl, ⟨_, SqT.of hR⟩, fun D hD => ?_⟩
  refine turns_tup (K := K) (a := R) (xs := as.map V.ref) ((as.map V.ref).map fun _ => some (.bl true)) hD (fun Hc sm => SqT.of (sm _ _ hR)) (by rw [List.length_map]) (by rw [List.length_map]; omega) ?_ ?_
  · intro i z o Hc Y N hz ho sm hY hN
    have eo : o = some (.bl true) := by
      rw [List.getElem?_map, hz] at ho
      exact (Option.some.inj ho).symm
    obtain ⟨e, he, rfl⟩ := refs_at hz
    obtain ⟨r, _, dx, n, a, b, s', k, t, p, y, h1, h2⟩ := paired_get hp he
    exact ⟨rfl, _, rfl, _, _, _, _, true, rfl, .own C, .base (.ins (sm _ _ h1) T.cl TI.ha TI.hn TI.htk TI.hm), TI.one, hY _ eo Hc same_refl⟩
  · intro Hc hc sm
    rw [fm_true] at hc
    refine ⟨D, _, rfl, SqL.of hc, ?_⟩
    rw [List.all_map, show ((as.map V.ref).all (id ∘ fun _ => true)) = true from List.all_eq_true.mpr fun _ _ => rfl]
    exact q Hc sm
theorem ok_namef (T : RoomC K C) (F : Fun K "name_fits" "name_fits" sNameF f fd) (GN : FnOk P w K mg base CX0 1 nm nmd ["thing"] spName) (bN : Binds K nmd ["thing"] []) (kN : PySem.W.keepIn K (.ref nm) = true) (mN : mg "is_name" = some (.ref nm)) :
    FnOk P w K mg base CX0 2 f fd ["rooms", "at"] (spNameF C) := by
  refine F.ok scNameF (fun vs H Q E h => ?_) (fun cdv A outer s H vs Q E hr h => ?_)
  · obtain ⟨R, i, rs, r, rfl, _⟩ := h
    rfl
  obtain ⟨R, i, rs, r, rfl, ⟨as, hR, hp⟩, z8, hi, k1, k2, q⟩ := h
  have hl := paired_len hp
  have hs : sizeLine = 16777216 := sizeLine_eq
  have hlt : i < rs.length := (List.getElem?_eq_some_iff.mp hi).1
  obtain ⟨e, he, hx⟩ := paired_put hp hi
  obtain ⟨dx, n, a, b, s', k, t, p, y, h1, h2⟩ := id hx
  have hn := h2.name
  subst hn
  have hlr : (as.map V.ref).length = rs.length := by rw [List.length_map]; exact hl
  refine ⟨_, pss_cons (ps_set (i := 2) scNameF.nd rfl (Or.inl rfl) (pe_fld (pe_ix ix_tup (pv 0) (pv 1) (fun _ _ => rfl)) rfl))
    (pss_one (ps_ret (pe_and (pe_call GN hr rfl mN kN bN .nil pass0 (pa_cons (pv 2) pa_nil)) (pe_one (pe_cmpR op_notIn_seq (pv 2) (pe_lc (own := [("room", 3)]) (g := gName 3) (tt := tYes) (te := tFld K (tVar 3) "name") rfl scNameF.nd
            (pi_tup (pe_slice sl_tup (pv 0) po_none (po_some (pv 1)))) (blkOk_by (N := ["rooms", "at", "name", "room"]) (sc := defScope sNameF) (by decide +kernel))
            (fun _ _ _ _ _ => pg_name (i := 3) scNameF.nd rfl (Or.inl rfl)) (fun _ _ _ _ _ => pts_nil) (fun _ _ _ _ _ => pe_fld (pv 3) rfl)) (by rfl)))))), ?_⟩
  refine ⟨_, rfl, _, rfl, R, _, i, _, rfl, rfl, SqT.of hR, atI_nat (j := i) (by rw [List.getElem?_map, he]; rfl), e, C, dx, _, _, rfl, h1, T.cl, T.n1, rf_name, ?_⟩
  refine ⟨_, rfl, r.name, rfl, k1, fun H1 s1 => ⟨_, rfl, itT rfl ?_⟩⟩
  refine ⟨_, rfl, _, rfl, _, rfl, i, rfl, R, _, rfl, SqT.of (s1 _ _ hR), ?_, fun p2 hp2 => ⟨p2, rfl, ⟨_, SqT.of upd_same⟩, fun D hD => ?_⟩⟩
  · rw [HT.sIx_nat, hlr]
    intro z
    have := z.2
    omega
  rw [cut_to _ _ (by rw [hlr]; omega), ← List.map_take] at hD ⊢
  have s2 := s1.trans (same_new hp2 (.tup ((as.take i).map V.ref)))
  have hp' := paired_take hp i
  refine turns_tup (K := K) (a := p2) (xs := (as.take i).map V.ref) ((rs.take i).map fun o => some (V.str o.name)) hD (fun Hc sm => SqT.of (sm _ _ upd_same)) (by rw [List.length_map, List.length_map]; exact (paired_len hp').symm) (by rw [List.length_map, List.length_take]; omega) ?_ ?_
  · intro j z o Hc Y N hz ho sm hY hN
    obtain ⟨e', he', rfl⟩ := refs_at hz
    obtain ⟨r', hr', dx', n', a', b', s'', k', t', p', y', h1', h2'⟩ := paired_get hp' he'
    rw [List.getElem?_map, hr'] at ho
    have hn' := h2'.name
    subst hn'
    exact ⟨rfl, _, rfl, e', C, dx', _, _, rfl, sm _ _ (s2 _ _ h1'), T.cl, T.n1, rf_name, hY _ (Option.some.inj ho).symm Hc same_refl⟩
  · intro Hc hc sm
    rw [fm_some (fun o : Rm => V.str o.name)] at hc
    have e3 : (rs.take i).map (fun o : Rm => V.str o.name) = ((rs.take i).map (·.name)).map V.str := by rw [List.map_map]; rfl
    rw [e3] at hc
    refine ⟨D, _, rfl, .inl (SqL.of hc), rfl, strs_flat _, ?_⟩
    show Q (.bl (!inV _ _)) Hc
    rw [in_strs, decide_eq_false k2]
    exact q Hc (s2.trans sm)
end
end Any
namespace Any
open L2 PySem PySem.Spec PyProof.Rows LamX NdefX
section
variable {P : Program} {w : World} {K : PySem.W.Frag} {mg : Str → Option Value} {base : Heap} {f C nm ib bn : Addr} {fd nmd ibd bnd : FuncData}
theorem ok_bodyf (T : RoomC K C) (F : Fun K "body_fault" "body_fault" sBodyF f fd) (IB : FnOk P w K mg base CX0 27 ib ibd ps4 spIsB) (bI : Binds K ibd ps4 []) (kI : PySem.W.keepIn K (.ref ib) = true) (mI : mg "is_body" = some (.ref ib))
    (BN : FnOk P w K mg base CX0 1 bn bnd ["room"] (spBn C)) (bB : Binds K bnd ["room"] []) (kB : PySem.W.keepIn K (.ref bn) = true) (mB : mg "box_names" = some (.ref bn)) :
    FnOk P w K mg base CX0 28 f fd ["rooms", "at", "words"] (spBodyF C) := by
  refine F.ok scBodyF (fun vs H Q E h => ?_) (fun cdv A outer s H vs Q E hr h => ?_)
  · obtain ⟨R, wd, i, rs, r, ws, rfl, _⟩ := h
    rfl
  obtain ⟨R, wd, i, rs, r, ws, rfl, ⟨as, hR, hp⟩, z8, hi, hz, hb, hw, q⟩ := h
  have hl := paired_len hp
  have hs : sizeLine = 16777216 := sizeLine_eq
  obtain ⟨e, he, hx⟩ := paired_put hp hi
  obtain ⟨dx, n, a, b, s', k, t, p, y, h1, h2⟩ := id hx
  have hn := h2.name
  subst hn
  obtain ⟨c, rfl, hc⟩ := h2.body
  refine ⟨_, pss_cons (ps_set (i := 3) scBodyF.nd rfl (Or.inr rfl) (pe_ix ix_tup (pv 0) (pv 1) (fun _ _ => rfl)))
    (pss_cons (ps_setLc (i := 4) (own := [("other", 5)]) (g := gName 5) (tt := tTest (tOp rEq (tFld K (tVar 5) "above") (tFld K (tVar 3) "name"))) (te := tFld K (tVar 5) "name") (by rfl) scBodyF.nd rfl rfl (sw_true rfl rfl rfl (by decide +kernel)) (pi_tup (pv 0)) (blkOk_by (N := nmBo) (sc := defScope sBodyF) (by decide +kernel))
          (fun _ _ _ _ _ => pg_name (i := 5) scBodyF.nd rfl (Or.inl rfl)) (fun _ _ _ _ _ => pts_one (pt_cmpR op_eq (pe_fld (pv 5) rfl) (pe_fld (pv 3) rfl) (nomark _))) (fun _ _ _ _ _ => pe_fld (pv 5) rfl))
    (pss_cons (ps_if (pt_val (pe_call IB hr rfl mI kI bI .nil pass0 (pa_cons (pe_fld (pv 3) rfl) (pa_cons (pe_call BN (hr.mono (by decide)) rfl mB kB bB .nil pass0 (pa_cons (pv 3) pa_nil)) (pa_cons (pv 2) (pa_cons (pv 4) pa_nil)))))) (pss_one (ps_ret pe_str)) pss_nil)
    (pss_one (ps_ret pe_str)))), ?_⟩
  refine ⟨_, rfl, _, rfl, R, _, i, _, rfl, rfl, SqT.of hR, atI_nat (j := i) (by rw [List.getElem?_map, he]; rfl), ?_⟩
  refine ⟨_, rfl, R, rfl, ⟨_, SqT.of hR⟩, fun D hD => ?_⟩
  refine turns_tup (K := K) (a := R) (xs := as.map V.ref) (rs.map fun o => if o.above = r.name then some (V.str o.name) else none) hD (fun Hc sm => SqT.of (sm _ _ hR)) (by rw [List.length_map, List.length_map]; exact hl.symm) (by rw [List.length_map]; omega) ?_ ?_
  · intro j z o Hc Y N hz2 ho sm hY hN
    obtain ⟨e', he', rfl⟩ := refs_at hz2
    obtain ⟨r', hr', dx', n', a', b', s'', k', t', p', y', h1', h2'⟩ := paired_get hp he'
    rw [List.getElem?_map, hr'] at ho
    have ho : o = if r'.above = r.name then some (V.str r'.name) else none := (Option.some.inj ho).symm
    have hn' := h2'.name
    have ha' := h2'.above
    subst hn' ha'
    refine ⟨rfl, _, rfl, e', C, dx', _, _, rfl, sm _ _ h1', T.cl, T.n2, rf_above, _, rfl, e, C, dx, _, _, rfl, sm _ _ h1, T.cl, T.n1, rf_name, rfl, _, rfl, ite2 (fun c1 => ?_) (fun c1 => ?_)⟩
    · have e9 : r'.above = r.name := V.str.inj (of_decide_eq_true c1)
      rw [if_pos e9] at ho
      exact ⟨_, rfl, e', C, dx', _, _, rfl, sm _ _ h1', T.cl, T.n1, rf_name, hY _ ho Hc same_refl⟩
    · have e9 : ¬ r'.above = r.name := fun z => c1 (decide_eq_true (by rw [z]))
      rw [if_neg e9] at ho
      exact hN ho Hc same_refl
  · intro Hc hc2 sm
    rw [fm_ben] at hc2
    refine ⟨_, rfl, e, C, dx, _, _, rfl, sm _ _ h1, T.cl, T.n8, rf_body, ?_⟩
    refine ⟨_, rfl, e, r, rfl, hx.keep sm, hz, fun l H2 hl2 s2 hL => ⟨_, rfl, _, rfl, ?_⟩⟩
    have s3 := sm.trans s2
    refine ⟨c, l, wd, D, r.body, r.bn, ws, ben rs r.name, rfl, hc.keep (Same.tups s3), hb, .inl hL, s3 _ _ hw, .inl (s2 _ _ hc2), fun H3 s4 => ⟨_, rfl, itT rfl (q H3 (s3.trans s4))⟩⟩
end
end Any
namespace Any
open L2 PySem PySem.Spec PyProof.Rows LamX NdefX
/-! ### floors -/
def climb (st : Nat × Str) (r : Rm) : Nat × Str := if r.name = st.2 then (st.1 + 1, r.above) else st
def floorOf (rs : List Rm) (i : Nat) (a : Str) : Nat := ((rs.take i).reverse.foldl climb (1, a)).1
theorem climb_yes {st : Nat × Str} {r : Rm} (h : r.name = st.2) : climb st r = (st.1 + 1, r.above) := if_pos h
theorem climb_no {st : Nat × Str} {r : Rm} (h : ¬ r.name = st.2) : climb st r = st := if_neg h
/-- what a loop over a row from its end asks -/
def Loop (J : It) (g : TG) (tb : TS) (D : Ends) (σ : L2.St) (H : Hp) : Prop :=
  ∃ W : Nat → Nat → L2.St → Hp → Prop, (∃ m, W 0 m σ H) ∧
    ∀ i m σ H, W i m σ H →
      (J.stop i H ∧ D.nx σ H) ∨
      (J.go i H ∧ ∃ N : L2.St → Hp → Prop, (∀ σ' H', N σ' H' → ∃ m', m' < m ∧ W (i + 1) m' σ' H') ∧
        ∀ x H', J.yld i H x H' → g x σ H' fun σ2 H2 => tb { D with nx := N, ct := N, bk := D.nx } σ2 H2)
theorem loop_rt {K : PySem.W.Frag} {a : Addr} {xs : List V} {g : TG} {tb : TS} {D : Ends} {σ : L2.St} {H : Hp} (Pv : Nat → L2.St → Hp → Prop) (h0 : Pv 0 σ H) (hl : ∀ i σ H, Pv i σ H → SqT K H a xs)
    (hs : ∀ i x σ H, xs.reverse[i]? = some x → Pv i σ H → g x σ H fun σ2 H2 => tb { D with nx := Pv (i + 1), ct := Pv (i + 1), bk := D.nx } σ2 H2) (hd : ∀ σ H, Pv xs.length σ H → D.nx σ H) : Loop (RT.ItvT K a xs.length) g tb D σ H := by
  refine ⟨fun i m σ H => m = xs.length - i ∧ i ≤ xs.length ∧ Pv i σ H, ⟨_, rfl, Nat.zero_le _, h0⟩, ?_⟩
  rintro i m σ H ⟨rfl, hi, p⟩
  have sq := hl i σ H p
  by_cases lt : i < xs.length
  · have e : xs.reverse[i]? = xs[xs.length - 1 - i]? := List.getElem?_reverse lt
    have e2 : xs[xs.length - 1 - i]? = some (xs[xs.length - 1 - i]'(by omega)) := by rw [List.getElem?_eq_getElem]
    refine .inr ⟨⟨lt, xs, _, sq, e2⟩, Pv (i + 1), fun σ' H' q => ⟨_, by omega, rfl, lt, q⟩, fun x H' y => ?_⟩
    obtain ⟨rfl, y⟩ := y
    exact hs i x σ H' (e.trans (y xs sq)) p
  · have e : i = xs.length := by omega
    subst e
    exact .inl ⟨Nat.le_refl _, hd σ H p⟩
abbrev nmFl : List Str := ["rooms", "at", "floor", "above", "room"]
theorem scFloor : FnScope nmFl ["rooms", "at"] (defScope sFloor) := ⟨rfl, rfl, rfl, by decide +kernel, rfl, by decide +kernel, by decide +kernel⟩
def spFloor (C : Addr) : Sp := fun vs H Q _ => ∃ (R : Addr) (i : Nat) (rs : List Rm) (r : Rm), vs = [.ref R, .int i] ∧ RsAt C H R rs ∧ rs[i]? = some r ∧ ∀ H', Same H H' → Q (.int (floorOf rs i r.above)) H'
theorem fold_take {α β : Type} (f : β → α → β) (b : β) {l : List α} {i : Nat} {x : α} (h : l[i]? = some x) : (l.take (i + 1)).foldl f b = f ((l.take i).foldl f b) x := by
  rw [List.take_add_one, h, List.foldl_append]
  rfl
theorem paired_rev {α β : Type} {R : α → β → Prop} : ∀ {xs : List α} {ys : List β}, Paired R xs ys → ∀ {us : List α} {vs : List β}, Paired R us vs → Paired R (xs.reverse ++ us) (ys.reverse ++ vs)
  | _, _, .nil, us, vs, h => h
  | _, _, .cons r t, us, vs, h => by
    rw [List.reverse_cons, List.reverse_cons, List.append_assoc, List.append_assoc]
    exact paired_rev t (.cons r h)
section
variable {P : Program} {w : World} {K : PySem.W.Frag} {mg : Str → Option Value} {base : Heap} {f C fl : Addr} {fd fld : FuncData}
theorem ok_floor (T : RoomC K C) (mrev : mg "reversed" = none) (F : Fun K "floor_of" "floor_of" sFloor f fd) : FnOk P w K mg base CX0 1 f fd ["rooms", "at"] (spFloor C) := by
  refine F.ok scFloor (fun vs H Q E h => ?_) (fun cdv A outer s H vs Q E hr h => ?_)
  · obtain ⟨R, i, rs, r, rfl, _⟩ := h
    rfl
  obtain ⟨R, i, rs, r, rfl, ⟨as, hR, hp⟩, hi, q⟩ := h
  have hl := paired_len hp
  have hlt : i < rs.length := (List.getElem?_eq_some_iff.mp hi).1
  obtain ⟨e, he, hx⟩ := paired_put hp hi
  obtain ⟨dx, n, a, b, s', k, t, p, y, h1, h2⟩ := id hx
  have ha := h2.above
  subst ha
  have hlr : (as.map V.ref).length = rs.length := by rw [List.length_map]; exact hl
  refine ⟨_, pss_cons (ps_set (i := 2) scFloor.nd rfl (Or.inl rfl) pe_int)
    (pss_cons (ps_set (i := 3) scFloor.nd rfl (Or.inl rfl) (pe_fld (pe_ix ix_tup (pv 0) (pv 1) (fun _ _ => rfl)) rfl))
    (pss_cons (ps_for PassesOwn.never rfl (RT.pi_revA rfl mrev (pe_slice sl_tup (pv 0) po_none (po_some (pv 1)))) (pg_name (i := 4) scFloor.nd rfl (Or.inl rfl))
      (pss_one (ps_if (pt_cmpR op_eq (pe_fld (pv 4) rfl) (pv 3) (nomark _)) (pss_cons (ps_set (i := 3) scFloor.nd rfl (Or.inl rfl) (pe_fld (pv 4) rfl)) (pss_one (ps_aug (i := 2) scFloor.nd rfl (Or.inl rfl) pe_int ip_add))) pss_nil)))
    (pss_one (ps_ret (pv 2))))), ?_⟩
  refine ⟨_, rfl, _, rfl, R, _, i, _, rfl, rfl, SqT.of hR, atI_nat (j := i) (by rw [List.getElem?_map, he]; rfl), e, C, dx, _, _, rfl, h1, T.cl, T.n2, rf_above, ?_⟩
  refine ⟨_, rfl, _, rfl, i, rfl, R, _, rfl, SqT.of hR, ?_, fun p2 hp2 => ?_⟩
  · rw [HT.sIx_nat, hlr]
    intro z
    have := z.2
    omega
  rw [cut_to _ _ (by rw [hlr]; omega), ← List.map_take]
  have hp' := paired_take hp i
  have hpr : Paired (RmAt C H) (as.take i).reverse (rs.take i).reverse := by
    have := paired_rev hp' .nil
    rw [List.append_nil, List.append_nil] at this
    exact this
  have s1 := same_new hp2 (.tup ((as.take i).map V.ref))
  refine ⟨p2, (as.take i).map V.ref, rfl, .inr ⟨SqT.of upd_same, ?_⟩⟩
  refine loop_rt (K := K) (a := p2) (xs := (as.take i).map V.ref) (fun j σ Hc => ∃ x, Hc = upd H p2 (.tup ((as.take i).map V.ref)) ∧ σ = [some (.ref R), some (.int i), some (.int (((rs.take i).reverse.take j).foldl climb (1, r.above)).1), some (.str (((rs.take i).reverse.take j).foldl climb (1, r.above)).2), x]) ?_ ?_ ?_ ?_
  · exact ⟨_, rfl, rfl⟩
  · rintro j σ Hc ⟨x, rfl, rfl⟩
    exact SqT.of upd_same
  · rintro j v σ Hc hv ⟨x, rfl, rfl⟩
    rw [← List.map_reverse] at hv
    obtain ⟨e', he', rfl⟩ := refs_at hv
    obtain ⟨r', hr', dx', n', a', b', s'', k', t', p', y', h1', h2'⟩ := paired_get hpr he'
    have hn' := h2'.name
    have ha' := h2'.above
    subst hn' ha'
    have ft := fold_take climb (1, r.above) hr'
    refine ⟨_, rfl, e', C, dx', _, _, rfl, s1 _ _ h1', T.cl, T.n1, rf_name, _, rfl, rfl, _, rfl, ite2 (fun c1 => ?_) (fun c1 => ?_)⟩
    · have e9 := V.str.inj (of_decide_eq_true c1)
      refine ⟨_, rfl, e', C, dx', _, _, rfl, s1 _ _ h1', T.cl, T.n2, rf_above, ?_⟩
      refine ⟨_, rfl, _, _, rfl, rfl, some (.ref e'), rfl, ?_⟩
      rw [ft, climb_yes e9]
      rfl
    · have e9 : ¬ r'.name = _ := fun z => c1 (decide_eq_true (by rw [z]))
      refine ⟨some (.ref e'), rfl, ?_⟩
      rw [ft, climb_no e9]
      rfl
  · rintro σ Hc ⟨x, rfl, rfl⟩
    refine ⟨_, rfl, ?_⟩
    have e5 : ((rs.take i).reverse.take ((as.take i).map V.ref).length) = (rs.take i).reverse := by
      rw [List.length_map, paired_len hp', ← List.length_reverse, List.take_length]
    rw [e5]
    exact q _ s1
theorem scAboveF : FnScope ["rooms", "at", "above", "room"] ["rooms", "at"] (defScope sAboveF) := ⟨rfl, rfl, rfl, by decide +kernel, rfl, by decide +kernel, by decide +kernel⟩
/-- above as point 7 has it -/
def aboveOk (rs : List Rm) (i : Nat) (r : Rm) : Prop := (i = 0 → r.above = "") ∧ (i ≠ 0 → r.above ∈ (rs.take i).map (·.name) ∧ floorOf rs i r.above ≤ 4)
def spAboveF (C : Addr) : Sp := fun vs H Q _ => ∃ (R : Addr) (i : Nat) (rs : List Rm) (r : Rm), vs = [.ref R, .int i] ∧ RsAt C H R rs ∧ rs.length ≤ 8 ∧ rs[i]? = some r ∧ aboveOk rs i r ∧ ∀ H', Same H H' → Q (.bl true) H'
theorem ok_abovef (T : RoomC K C) (F : Fun K "above_fits" "above_fits" sAboveF f fd) (GF : FnOk P w K mg base CX0 1 fl fld ["rooms", "at"] (spFloor C)) (bF : Binds K fld ["rooms", "at"] []) (kF : PySem.W.keepIn K (.ref fl) = true) (mF : mg "floor_of" = some (.ref fl))
    {t4 : Tok} (m4 : mg "MOST_FLOORS" = some (.int 4 t4)) : FnOk P w K mg base CX0 2 f fd ["rooms", "at"] (spAboveF C) := by
  refine F.ok scAboveF (fun vs H Q E h => ?_) (fun cdv A outer s H vs Q E hr h => ?_)
  · obtain ⟨R, i, rs, r, rfl, _⟩ := h
    rfl
  obtain ⟨R, i, rs, r, rfl, hRs, z8, hi, ok, q⟩ := h
  obtain ⟨as, hR, hp⟩ := id hRs
  have hl := paired_len hp
  have hs : sizeLine = 16777216 := sizeLine_eq
  have hlt : i < rs.length := (List.getElem?_eq_some_iff.mp hi).1
  obtain ⟨e, he, hx⟩ := paired_put hp hi
  obtain ⟨dx, n, a, b, s', k, t, p, y, h1, h2⟩ := id hx
  have ha := h2.above
  subst ha
  have hlr : (as.map V.ref).length = rs.length := by rw [List.length_map]; exact hl
  refine ⟨_, pss_cons (ps_set (i := 2) scAboveF.nd rfl (Or.inl rfl) (pe_fld (pe_ix ix_tup (pv 0) (pv 1) (fun _ _ => rfl)) rfl))
    (pss_cons (ps_if (pt_cmpR op_eq (pv 1) pe_int (nomark _)) (pss_one (ps_ret (pe_cmpR op_eq (pv 2) pe_str (nomark _)))) pss_nil)
    (pss_one (ps_ret (pe_and (pe_cmpR op_in_seq (pv 2) (pe_lc (own := [("room", 3)]) (g := gName 3) (tt := tYes) (te := tFld K (tVar 3) "name") rfl scAboveF.nd
            (pi_tup (pe_slice sl_tup (pv 0) po_none (po_some (pv 1)))) (blkOk_by (N := ["rooms", "at", "above", "room"]) (sc := defScope sAboveF) (by decide +kernel))
            (fun _ _ _ _ _ => pg_name (i := 3) scAboveF.nd rfl (Or.inl rfl)) (fun _ _ _ _ _ => pts_nil) (fun _ _ _ _ _ => pe_fld (pv 3) rfl)) (by rfl))
      (pe_one (pe_cmpR op_le (pe_call GF hr rfl mF kF bF .nil pass0 (pa_cons (pv 0) (pa_cons (pv 1) pa_nil))) (pe_glob (v := .int 4) rfl m4 ⟨_, rfl⟩) (nomark _))))))), ?_⟩
  refine ⟨_, rfl, _, rfl, R, _, i, _, rfl, rfl, SqT.of hR, atI_nat (j := i) (by rw [List.getElem?_map, he]; rfl), e, C, dx, _, _, rfl, h1, T.cl, T.n2, rf_above, ?_⟩
  refine ⟨_, rfl, rfl, _, rfl, ite2 (fun c1 => ?_) (fun c1 => ?_)⟩
  · have i0 : (i : Int) = 0 := V.int.inj (of_decide_eq_true c1)
    refine ⟨_, rfl, rfl, ?_⟩
    rw [ok.1 (by omega)]
    exact q _ same_refl
  have i0 : i ≠ 0 := fun z => c1 (decide_eq_true (by rw [z]; rfl))
  obtain ⟨o1, o2⟩ := ok.2 i0
  refine ⟨_, rfl, _, rfl, _, rfl, i, rfl, R, _, rfl, SqT.of hR, ?_, fun p2 hp2 => ⟨p2, rfl, ⟨_, SqT.of upd_same⟩, fun D hD => ?_⟩⟩
  · rw [HT.sIx_nat, hlr]
    intro z
    have := z.2
    omega
  rw [cut_to _ _ (by rw [hlr]; omega), ← List.map_take] at hD ⊢
  have s2 := same_new hp2 (.tup ((as.take i).map V.ref))
  have hp' := paired_take hp i
  refine turns_tup (K := K) (a := p2) (xs := (as.take i).map V.ref) ((rs.take i).map fun o => some (V.str o.name)) hD (fun Hc sm => SqT.of (sm _ _ upd_same)) (by rw [List.length_map, List.length_map]; exact (paired_len hp').symm) (by rw [List.length_map, List.length_take]; omega) ?_ ?_
  · intro j z o Hc Y N hz ho sm hY hN
    obtain ⟨e', he', rfl⟩ := refs_at hz
    obtain ⟨r', hr', dx', n', a', b', s'', k', t', p', y', h1', h2'⟩ := paired_get hp' he'
    rw [List.getElem?_map, hr'] at ho
    have hn' := h2'.name
    subst hn'
    exact ⟨rfl, _, rfl, e', C, dx', _, _, rfl, sm _ _ (s2 _ _ h1'), T.cl, T.n1, rf_name, hY _ (Option.some.inj ho).symm Hc same_refl⟩
  · intro Hc hc sm
    rw [fm_some (fun o : Rm => V.str o.name)] at hc
    have e3 : (rs.take i).map (fun o : Rm => V.str o.name) = ((rs.take i).map (·.name)).map V.str := by rw [List.map_map]; rfl
    rw [e3] at hc
    have s3 := s2.trans sm
    refine ⟨D, _, rfl, .inl (SqL.of hc), rfl, strs_flat _, true, congrArg V.bl (in_eq o1), itT rfl ?_⟩
    refine ⟨_, rfl, _, rfl, R, i, rs, r, rfl, hRs.keep s3, hi, fun H4 s4 => ⟨_, _, rfl, rfl, ?_⟩⟩
    show Q (.bl (decide ((floorOf rs i r.above : Int) ≤ 4))) H4
    rw [decide_eq_true (by omega)]
    exact q H4 (s3.trans s4)
end
end Any
namespace Any
open L2 PySem PySem.Spec PyProof.Rows LamX NdefX
theorem Gr.seq {T : List NTab} {K : PySem.W.Frag} {H H' : Hp} (g : Gr T H H') {a : Addr} {xs : List V} (h : SqL K H a xs) : SqL K H' a xs := by
  rcases h with (h | ⟨o, h⟩) | h
  · exact .inl (.inl (g.lst h))
  · exact .inl (.inr ⟨o, g.ext _ _ h fun _ z => by cases z⟩)
  · exact .inr h
theorem Bag.gr {T : List NTab} {H H' : Hp} {b : Addr} {n : Nat} (h : Bag H b n) (g : Gr T H H') : Bag H' b n := by
  obtain ⟨x, y, z, h1, h2⟩ := h
  exact ⟨x, y, z, g.lst h1, h2⟩
theorem tabs_kept {T : List NTab} {b : Addr} {H H' : Hp} {xs : List V} (t : TabsN T H) (hb : H b = some (.lst xs)) (k : Kept b H H') : TabsN T H' := fun p hp => by
  obtain ⟨ps, h1, h2, h3⟩ := t p hp
  refine ⟨ps, k _ _ (ne_of h1 hb (by intro z; cases z)) h1, h2, fun pos cv hc => ?_⟩
  obtain ⟨c, e1, e2⟩ := h3 pos cv hc
  exact ⟨c, e1, k _ _ (ne_of e2 hb (by unfold CodeO; intro z; cases z)) e2⟩
theorem gr_kept {T : List NTab} {b : Addr} {H0 H1 H2 : Hp} {m : Nat} (g : Gr T H0 H1) (n : H0 b = none) (B : Bag H1 b m) (k : Kept b H1 H2) : Gr T H0 H2 := by
  obtain ⟨xs, hb⟩ := B.lst
  refine ⟨fun a o h nt => k a o (ne_of_none h n) (g.ext a o h nt), fun c z => ?_, tabs_kept g.tabs hb k⟩
  by_cases e : c = b
  · rw [e]
    exact n
  · refine g.no c ?_
    cases q : H1 c with
    | none => rfl
    | some o => rw [k c o e q] at z; cases z
theorem gr_put {T : List NTab} {p : Addr} {H0 H1 : Hp} {xs ys : List V} (g : Gr T H0 H1) (n : H0 p = none) (h : H1 p = some (.lst xs)) : Gr T H0 (upd H1 p (.lst ys)) := by
  refine ⟨fun a o ha nt => ?_, fun c z => ?_, tabs_kept g.tabs h (Kept.put _)⟩
  · rw [upd_ne (ne_of_none ha n)]
    exact g.ext a o ha nt
  · by_cases e : c = p
    · rw [e]
      exact n
    · rw [upd_ne e] at z
      exact g.no c z
/-- as heaps grow, one object aside -/
structure Kg (T : List NTab) (b : Addr) (H H' : Hp) : Prop where
  ext : ∀ a o, a ≠ b → H a = some o → (∀ ps, o ≠ .tbl ps) → H' a = some o
  no : ∀ a, a ≠ b → H' a = none → H a = none
  tabs : TabsN T H'
section
variable {T : List NTab} {b : Addr} {H H1 H2 : Hp}
theorem tabs_keptO {o : HO} (t : TabsN T H) (hb : H b = some o) (n1 : ∀ ps, o ≠ .tbl ps) (n2 : ∀ c x, o ≠ CodeO c x) (k : Kept b H H1) : TabsN T H1 := fun p hp => by
  obtain ⟨ps, h1, h2, h3⟩ := t p hp
  refine ⟨ps, k _ _ (ne_of h1 hb (fun z => n1 _ z.symm)) h1, h2, fun pos cv hc => ?_⟩
  obtain ⟨c, e1, e2⟩ := h3 pos cv hc
  exact ⟨c, e1, k _ _ (ne_of e2 hb (fun z => n2 _ _ z.symm)) e2⟩
theorem kept_no (k : Kept b H H1) : ∀ a, a ≠ b → H1 a = none → H a = none := fun a n z => by
  cases q : H a with
  | none => rfl
  | some o => rw [k a o n q] at z; cases z
theorem Kg.of (g : Gr T H H1) : Kg T b H H1 := ⟨fun a o _ h n => g.ext a o h n, fun a _ z => g.no a z, g.tabs⟩
theorem Kg.refl (t : TabsN T H) : Kg T b H H := .of (.refl t)
theorem Kg.trans (k : Kg T b H H1) (g : Kg T b H1 H2) : Kg T b H H2 := ⟨fun a o n h m => g.ext a o n (k.ext a o n h m) m, fun a n z => k.no a n (g.no a n z), g.tabs⟩
theorem Kg.gr (k : Kg T b H H1) (g : Gr T H1 H2) : Kg T b H H2 := k.trans (.of g)
theorem Kg.same (k : Kg T b H H1) (s : Same H1 H2) : Kg T b H H2 := k.gr (.of k.tabs s)
theorem Kg.kept {m : Nat} (k : Kg T b H H1) (B : Bag H1 b m) (g : Kept b H1 H2) : Kg T b H H2 := by
  obtain ⟨xs, hb⟩ := B.lst
  exact k.trans ⟨fun a o n h _ => g a o n h, kept_no g, tabs_kept k.tabs hb g⟩
theorem Kg.lst (k : Kg T b H H1) {a : Addr} {xs : List V} (n : a ≠ b) (h : H a = some (.lst xs)) : H1 a = some (.lst xs) := k.ext _ _ n h fun _ z => by cases z
theorem Kg.dK (k : Kg T b H H1) {a : Addr} {xs : List (Key × V)} (n : a ≠ b) (h : H a = some (.dK xs)) : H1 a = some (.dK xs) := k.ext _ _ n h fun _ z => by cases z
theorem Bag.kgt {m : Nat} (B : Bag H b m) (k : Kg T b H H1) : Tups H H1 := fun a ts h => by
  obtain ⟨xs, hb⟩ := B.lst
  exact k.ext _ _ (ne_of h hb (by intro z; cases z)) h fun _ z => by cases z
theorem gr_kg {H0 : Hp} (g : Gr T H0 H1) (n : H0 b = none) (k : Kg T b H1 H2) : Gr T H0 H2 := by
  refine ⟨fun a o h nt => k.ext a o (ne_of_none h n) (g.ext a o h nt) nt, fun c z => ?_, k.tabs⟩
  by_cases e : c = b
  · rw [e]
    exact n
  · exact g.no c (k.no c e z)
theorem gr_keptO {H0 : Hp} {o : HO} (g : Gr T H0 H1) (n : H0 b = none) (hb : H1 b = some o) (n1 : ∀ ps, o ≠ .tbl ps) (n2 : ∀ c x, o ≠ CodeO c x) (k : Kept b H1 H2) : Gr T H0 H2 :=
  gr_kg g n ⟨fun a o m h _ => k a o m h, kept_no k, tabs_keptO g.tabs hb n1 n2 k⟩
end
theorem Gr.ins {T : List NTab} {H H' : Hp} (g : Gr T H H') {a C d : Addr} {fs : List (Str × V)} (h : H a = some (.ins C d fs)) : H' a = some (.ins C d fs) := g.ext _ _ h fun _ z => by cases z
theorem RmAt.gr {T : List NTab} {C : Addr} {H H' : Hp} (g : Gr T H H') {x : Addr} {r : Rm} (h : RmAt C H x r) : RmAt C H' x r := by
  obtain ⟨dx, n, a, b, s, q, t, p, y, h1, h2⟩ := h
  exact ⟨dx, n, a, b, s, q, t, p, y, g.ins h1, h2.keep g.tups⟩
theorem RsAt.gr {T : List NTab} {C : Addr} {H H' : Hp} (g : Gr T H H') {R : Addr} {rs : List Rm} (h : RsAt C H R rs) : RsAt C H' R rs := by
  obtain ⟨as, h1, h2⟩ := h
  exact ⟨as, g.tup h1, paired_imp (fun _ _ q => q.gr g) h2⟩
end Any
namespace Any
open L2 PySem PySem.Spec PyProof.Rows LamX NdefX
abbrev kwsW : List (Str × V) := [("asked", .int 0), ("told", .int 0)]
/-! ### a right one has its worth -/
theorem Ex.fit_good {xs ws : List Str} : ∀ {e : Ex}, e.fit xs ws → e.good xs
  | .num n, h => by
    have h : 0 ≤ n ∧ n ≤ 999 := h
    show 0 ≤ n ∧ n < 1024
    omega
  | .box x, h => h
  | .asked, _ => trivial
  | .told, _ => trivial
  | .op _ l r, h => ⟨Ex.fit_good h.1, Ex.fit_good h.2⟩
theorem Ts.fit_good {xs ws : List Str} : ∀ {e : Ts}, e.fit xs ws → e.dp ≤ 6 → e.good xs
  | .is l r, h, d => by
    have d : max l.deep r.deep + 1 ≤ 6 := d
    exact ⟨⟨Ex.fit_good h.1, by omega⟩, ⟨Ex.fit_good h.2, by omega⟩⟩
  | .bel l r, h, d => by
    have d : max l.deep r.deep + 1 ≤ 6 := d
    exact ⟨⟨Ex.fit_good h.1, by omega⟩, ⟨Ex.fit_good h.2, by omega⟩⟩
  | .nt t, h, d => by
    have d : t.dp + 1 ≤ 6 := d
    exact Ts.fit_good (e := t) h (by omega)
  | .both t u, h, d => by
    have d : max t.dp u.dp + 1 ≤ 6 := d
    exact ⟨Ts.fit_good h.1 (by omega), Ts.fit_good h.2 (by omega)⟩
  | .either t u, h, d => by
    have d : max t.dp u.dp + 1 ≤ 6 := d
    exact ⟨Ts.fit_good h.1 (by omega), Ts.fit_good h.2 (by omega)⟩
theorem Ts.deep_dp : ∀ e : Ts, e.deep ≤ e.dp
  | .is l r => by show 1 ≤ max l.deep r.deep + 1; omega
  | .bel l r => by show 1 ≤ max l.deep r.deep + 1; omega
  | .nt t => by have := t.deep_dp; show t.deep + 1 ≤ t.dp + 1; omega
  | .both t u => by have := t.deep_dp; have := u.deep_dp; show max t.deep u.deep + 1 ≤ max t.dp u.dp + 1; omega
  | .either t u => by have := t.deep_dp; have := u.deep_dp; show max t.deep u.deep + 1 ≤ max t.dp u.dp + 1; omega
/-- the firsts of a room's boxes -/
def Rm.firsts (r : Rm) : List (Str × Int) := r.boxes.map fun x => (x.1, x.2.2)
theorem firsts_look : ∀ {bs : List (Str × Int × Int)}, (∀ b ∈ bs, crateOk b) → ∀ x ∈ bs.map (·.1), ∃ n, look (bs.map fun b => (b.1, b.2.2)) x = some n ∧ 0 ≤ n ∧ n < 1024
  | [], _, x, h => by cases h
  | b :: bs, hb, x, h => by
    obtain ⟨_, ⟨_, h2⟩, h3, h4⟩ := hb b (List.mem_cons_self ..)
    unfold look
    rw [List.map_cons, List.find?_cons]
    by_cases e : b.1 = x
    · rw [decide_eq_true e]
      exact ⟨b.2.2, rfl, h3, by omega⟩
    · rw [decide_eq_false e]
      rcases List.mem_cons.mp h with z | z
      · exact absurd z.symm e
      · exact firsts_look (fun c hc => hb c (List.mem_cons_of_mem _ hc)) x z
theorem bx_new {kvs : List (Str × Int)} {x : Str} {n : Int} (h : x ∉ kvs.map (·.1)) : putK (bx kvs) (Sum.inr x) (.int n) = bx (kvs ++ [(x, n)]) := by
  rw [putK_new]
  · unfold bx
    rw [List.map_append]
    rfl
  · rw [bx_val]
    have : look kvs x = none := by
      unfold look
      rw [List.find?_eq_none.mpr fun p hp z => h (List.mem_map.mpr ⟨p, hp, of_decide_eq_true z⟩)]
      rfl
    rw [this]
    rfl
theorem nd_take {α : Type} : ∀ {l : List α} {i : Nat} {x : α}, l.Nodup → l[i]? = some x → x ∉ l.take i
  | [], i, x, _, h => by simp at h
  | y :: r, 0, x, _, _ => by intro m; cases m
  | y :: r, i + 1, x, nd, h => by
    rw [List.take_succ_cons]
    intro m
    have h' : r[i]? = some x := h
    obtain ⟨n1, n2⟩ := List.nodup_cons.mp nd
    rcases List.mem_cons.mp m with z | z
    · exact n1 (z ▸ List.mem_of_getElem? h')
    · exact nd_take n2 h' z
abbrev nmSy : List Str := ["room", "firsts", "name", "bound", "first", "saying"]
theorem scSaysF : FnScope nmSy ["room"] (defScope sSaysF) := ⟨rfl, rfl, rfl, by decide +kernel, rfl, by decide +kernel, by decide +kernel⟩
/-- the sayings as point 6 has them -/
def Rm.saysOk (r : Rm) : Prop := r.sayings.length ≤ 4 ∧ ∀ t ∈ r.sayings, t.right r.bn [] ∧ t.val r.firsts 0 0 = true
def Rm.boxesOk (r : Rm) : Prop := r.boxes.length ≤ 4 ∧ (∀ b ∈ r.boxes, crateOk b) ∧ r.bn.Nodup
def spSaysF (T : List NTab) (C : Addr) : Sp := fun vs H Q _ => ∃ x r, vs = [.ref x] ∧ RmAt C H x r ∧ r.boxesOk ∧ r.saysOk ∧ TabsN T H ∧ ∀ H', Gr T H H' → Q (.bl true) H'
section
variable {P : Program} {w : World} {K : PySem.W.Frag} {mg : Str → Option Value} {base : Heap} {f C it ho : Addr} {fd itd hod : FuncData} {T_ : List NTab}
theorem kh_plain (F : FunD K "holds" "holds" (defArgs sHolds) (defBody sHolds) (defScope sHolds) [] kwsW f fd) : ∃ ds, Vals [.int 0, .int 0] ds ∧ Binds K fd psH ds := by
  refine F.binds0 2 (by decide) rfl fun D doc pm an cdv ct us ks l1 l2 => ?_
  match us, ks, l1, l2 with
  | [u1, u2], [w1, w2], _, _ => exact ⟨_, _, _, _, _, _, rfl, rfl, _, _, _, _, _, _, rfl, rfl, rfl⟩
theorem ok_saysf (O : Own mg) (T : RoomC K C) (F : Fun K "sayings_fit" "sayings_fit" sSaysF f fd) {t4 : Tok} (m4 : mg "MOST_SAYINGS" = some (.int 4 t4))
    (IT : FnOk P w K mg base CX0 16 it itd ps3 spIsT) (bIT : Binds K itd ps3 []) (kIT : PySem.W.keepIn K (.ref it) = true) (mIT : mg "is_test" = some (.ref it))
    (W : FunD K "holds" "holds" (defArgs sHolds) (defBody sHolds) (defScope sHolds) [] kwsW ho hod) (GH : FnOk P w K mg base CX0 13 ho hod psH (spHolds T_ 5)) (mH : mg "holds" = some (.ref ho)) :
    FnOk P w K mg base CX0 17 f fd ["room"] (spSaysF T_ C) := by
  refine F.ok scSaysF (fun vs H Q E h => ?_) (fun cdv A outer s H vs Q E hr h => ?_)
  · obtain ⟨x, r, rfl, _⟩ := h
    rfl
  obtain ⟨x, r, rfl, hx, ⟨hz, hcr, hnd⟩, ⟨hy, hsy⟩, hT, q⟩ := h
  obtain ⟨dx, n, a, b, s', k, t, p, y, h1, h2⟩ := id hx
  obtain ⟨c, rfl, as, hc, hp⟩ := h2.boxes
  obtain ⟨d, rfl, us, hd, hu⟩ := h2.sayings
  obtain ⟨ds, hds, bH⟩ := kh_plain W
  have hr12 := hr.mono (show 13 ≤ 16 by decide)
  have hs : sizeLine = 16777216 := sizeLine_eq
  have hl := paired_len hp
  have hlu := paired_len hu
  refine ⟨_, pss_cons (ps_if (PW.pt (pw_or (pt_not (pt_val (pe_callB call_isi rfl O.isi (by decide +kernel) (pa_cons (pe_fld (pv 0) rfl) (pa_cons (pe_bltn (v := .ty "tuple") rfl O.tuple (by decide +kernel) rfl) pa_nil)))))
      (pw_or1 (pt_cmpR op_gt (pe_callB call_len_seq rfl O.len PySem.boot_len (pa_cons (pe_fld (pv 0) rfl) pa_nil)) (pe_glob (v := .int 4) rfl m4 ⟨_, rfl⟩) (nomark _))))) (pss_one (ps_ret pe_bl)) pss_nil)
    (pss_cons (ps_set (i := 1) scSaysF.nd rfl (Or.inr rfl) (pe_dc (own := [("name", 2), ("bound", 3), ("first", 4)]) (g := gTup K 3 (gCons (gName 2) (gCons (gName 3) (gCons (gName 4) gNil)))) (tt := tYes) rfl scSaysF.nd (pi_tup (pe_fld (pv 0) rfl)) (blkOk_by (N := nmSy) (sc := defScope sSaysF) (by decide +kernel))
        (fun _ _ _ _ _ => pg_tup rfl (pgs_cons (pg_name (i := 2) scSaysF.nd rfl (Or.inl rfl)) (pgs_cons (pg_name (i := 3) scSaysF.nd rfl (Or.inl rfl)) (pgs_cons (pg_name (i := 4) scSaysF.nd rfl (Or.inl rfl)) pgs_nil))))
        (fun _ _ _ _ _ => pts_nil) (fun _ _ _ _ _ => pv 2) (fun _ _ _ _ _ => pv 4)))
    (pss_cons (ps_if (pt_not (pt_val (pe_callB (cr_all rfl) rfl O.all (by decide +kernel) (pa_cons (pe_lc (own := [("saying", 5)]) (g := gName 5) (tt := tYes) rfl scSaysF.nd (pi_tup (pe_fld (pv 0) rfl)) (blkOk_by (N := nmSy) (sc := defScope sSaysF) (by decide +kernel))
        (fun _ _ _ _ _ => pg_name (i := 5) scSaysF.nd rfl (Or.inl rfl)) (fun _ _ _ _ _ => pts_nil)
        (fun _ _ _ _ _ => pe_call IT hr rfl mIT kIT bIT .nil pass0 (pa_cons (pv 5) (pa_cons (pe_callTy (call_listD rfl) rfl O.list (by decide +kernel) (pa_cons (pv 1) pa_nil)) (pa_cons (pe_tup pa_nil) pa_nil))))) pa_nil)))) (pss_one (ps_ret pe_bl)) pss_nil)
    (pss_one (ps_ret (pe_callB (cr_all rfl) rfl O.all (by decide +kernel) (pa_cons (pe_lc (own := [("saying", 5)]) (g := gName 5) (tt := tYes) rfl scSaysF.nd (pi_tup (pe_fld (pv 0) rfl)) (blkOk_by (N := nmSy) (sc := defScope sSaysF) (by decide +kernel))
        (fun _ _ _ _ _ => pg_name (i := 5) scSaysF.nd rfl (Or.inl rfl)) (fun _ _ _ _ _ => pts_nil)
        (fun _ _ _ _ _ => pe_call GH hr12 rfl mH W.kp bH hds pass0 (pa_cons (pv 5) (pa_cons (pv 1) pa_nil)))) pa_nil)))))), ?_⟩
  refine ⟨_, rfl, x, C, dx, _, _, rfl, h1, T.cl, T.n4, rf_sayings, _, _, _, _, true, rfl, .ty "tuple", .base (.tup hd), kb "tuple" "tuple" true, _, rfl, itF rfl ?_⟩
  refine ⟨_, rfl, x, C, dx, _, _, rfl, h1, T.cl, T.n4, rf_sayings, _, _, rfl, .inr (SqT.of hd), _, _, rfl, rfl, _, rfl, itF ?_ ?_⟩
  · exact decide_eq_false (by omega)
  refine ⟨_, rfl, x, C, dx, _, _, rfl, h1, T.cl, T.n3, rf_boxes, c, rfl, ⟨_, SqT.of hc⟩, fun D hD => ?_⟩
  refine dc_tup (K := K) (a := c) (xs := as.map V.ref) (fun i Hc => Hc D = some (.dK (bx (r.firsts.take i))) ∧ Same H Hc) ⟨upd_same, same_new hD _⟩ (fun i Hc _ z => SqT.of (z.2 _ _ hc)) ?_ ?_
  · rintro i v Hc hv ⟨hC, sm⟩
    obtain ⟨e, he, rfl⟩ := refs_at hv
    obtain ⟨z, hz2, hat⟩ := paired_get hp he
    refine ⟨e, _, rfl, SqT.of (sm _ _ hat), rfl, _, _, rfl, _, _, rfl, _, _, rfl, rfl, rfl, _, rfl, _, rfl, _, Sum.inr z.1, rfl, hC, ?_, ?_, fun b o hb => ?_⟩
    · unfold bx Rm.firsts
      rw [List.length_map, List.length_take, List.length_map]
      omega
    · have hf : r.firsts[i]? = some (z.1, z.2.2) := by
        unfold Rm.firsts
        rw [List.getElem?_map, hz2]
        rfl
      rw [upd_same, bx_new]
      · rw [List.take_add_one, hf]
        rfl
      · have eb : (r.firsts.take i).map (·.1) = r.bn.take i := by
          unfold Rm.firsts Rm.bn
          rw [← List.map_take, ← List.map_take, List.map_map]
          rfl
        rw [eb]
        refine nd_take hnd ?_
        unfold Rm.bn
        rw [List.getElem?_map, hz2]
        rfl
    · rw [upd_ne (ne_of_none hb hD)]
      exact sm _ _ hb
  · rintro Hc ⟨hC, sm⟩
    have e0 : r.firsts.take (as.map V.ref).length = r.firsts := by
      have : (as.map V.ref).length = r.firsts.length := by
        unfold Rm.firsts
        rw [List.length_map, List.length_map]
        exact hl
      rw [this, List.take_length]
    rw [e0] at hC
    have hN : (bx r.firsts).map (fun kv => kV kv.1) = r.bn.map V.str := by
      unfold bx Rm.firsts Rm.bn
      rw [List.map_map, List.map_map, List.map_map]
      rfl
    have hB : Bx r.firsts r.bn := ⟨firsts_look hcr⟩
    refine ⟨_, rfl, x, C, dx, _, _, rfl, sm _ _ h1, T.cl, T.n4, rf_sayings, d, rfl, ⟨_, SqT.of (sm _ _ hd)⟩, fun D2 hD2 => ?_⟩
    refine turns_tup (K := K) (a := d) (xs := us) (us.map fun _ => some (.bl true)) hD2 (fun Hc' sm' => SqT.of (sm' _ _ (sm _ _ hd))) (by rw [List.length_map]) (by omega) ?_ ?_
    · intro i z o Hc' Y N hz3 ho sm' hY hN2
      have eo : o = some (.bl true) := by
        rw [List.getElem?_map, hz3] at ho
        exact (Option.some.inj ho).symm
      obtain ⟨t1, ht1, hat⟩ := paired_get hu hz3
      obtain ⟨k1, k2⟩ := hsy t1 (List.mem_of_getElem? ht1)
      have s3 := sm.trans sm'
      refine ⟨rfl, _, rfl, _, rfl, D, _, rfl, .inl (sm' _ _ hC), fun l hl2 => ⟨by show 0 ≤ sizeLine; decide, fun wd hwd => ?_⟩⟩
      have s4 := (same_new hl2 (.lst ((bx r.firsts).map fun kv => kV kv.1))).trans (same_new hwd (.tup []))
      refine ⟨z, l, wd, t1, r.bn, [], rfl, hat.keep (Same.tups (s3.trans s4)), k1, .inl ?_, upd_same, fun H4 s5 => hY _ eo H4 (s4.trans s5)⟩
      rw [← hN]
      exact (same_new hwd _) _ _ upd_same
    · intro H2 hc2 sm2
      rw [fm_true] at hc2
      have s3 := sm.trans sm2
      refine ⟨D2, _, rfl, SqL.of hc2, _, rfl, itF ?_ ?_⟩
      · rw [List.all_map, show (us.all (id ∘ fun _ => true)) = true from List.all_eq_true.mpr fun _ _ => rfl]
        rfl
      refine ⟨_, rfl, x, C, dx, _, _, rfl, s3 _ _ h1, T.cl, T.n4, rf_sayings, d, rfl, ⟨_, SqT.of (s3 _ _ hd)⟩, fun D3 hD3 => ?_⟩
      have t3 : TabsN T_ H2 := hT.ext s3
      refine lc_tup (K := K) (a := d) (xs := us) (fun i Hc' => Hc' D3 = some (.lst ((List.replicate i true).map V.bl)) ∧ Gr T_ H2 Hc') ⟨upd_same, Gr.of t3 (same_new hD3 _)⟩ (fun i Hc' _ z => SqT.of (z.2.tup (s3 _ _ hd))) ?_ ?_
      · rintro i z Hc' hz3 ⟨hC3, gr⟩
        obtain ⟨t1, ht1, hat⟩ := paired_get hu hz3
        obtain ⟨k1, k2⟩ := hsy t1 (List.mem_of_getElem? ht1)
        have dd := t1.deep_dp
        have d5 := k1.2.1
        have hi3 : i < us.length := (List.getElem?_eq_some_iff.mp hz3).1
        refine ⟨rfl, _, rfl, _, rfl, z, D, t1, r.firsts, r.bn, 0, 0, rfl, (hat.keep (Same.tups s3)).keep gr.tups, by omega, Ts.fit_good k1.1 (by omega), hB, gr.dK (sm2 _ _ hC), ⟨by decide, by decide⟩, ⟨by decide, by decide⟩, gr.tabs, fun H4 g4 => ?_⟩
        rw [k2]
        refine ⟨_, g4.lst hC3, by rw [List.length_map, List.length_replicate]; omega, ?_, gr_put (gr.trans g4) hD3 (g4.lst hC3)⟩
        rw [upd_same, List.replicate_succ', List.map_append]
        rfl
      · rintro H3 ⟨hc3, gr⟩
        refine ⟨D3, _, rfl, SqL.of hc3, ?_⟩
        rw [show ((List.replicate us.length true).all id) = true from List.all_eq_true.mpr fun b hb => (List.eq_of_mem_replicate hb)]
        exact q H3 ((Gr.of hT s3).trans gr)
end
end Any
namespace Any
open L2 PySem PySem.Spec PyProof.Rows LamX NdefX
/-- a statement that is never come to -/
theorem ps_never {X : Cx} {st : Stmt} : PS X st (fun _ _ _ => False) := ⟨fun _ _ _ _ _ _ h => h.elim⟩
def spBoxesF : Sp := fun vs H Q _ => ∃ c bs, vs = [.ref c] ∧ CratesAt H c bs ∧ bs.length ≤ 4 ∧ (∀ b ∈ bs, crateOk b) ∧ (bs.map (·.1)).Nodup ∧ sortedS (bs.map (·.1)) = true ∧ ∀ H', Same H H' → Q (.bl true) H'
/-- a room as points 6 and 7 have it, at its place -/
structure roomOk (rs : List Rm) (i : Nat) (r : Rm) : Prop where
  name : Nm r.name
  one : r.name ∉ (rs.take i).map (·.name)
  above : aboveOk rs i r
  boxes : r.boxesOk
  asc : sortedS r.bn = true
  says : r.saysOk
  first : i = 0 → r.firstOk ∧ r.body.right r.bn [] (ben rs r.name)
  other : i ≠ 0 → r.otherOk ∧ r.body.right r.bn ["asked"] (ben rs r.name)
theorem scFault : FnScope ["rooms", "at", "room"] ["rooms", "at"] (defScope sFault) := ⟨rfl, rfl, rfl, by decide +kernel, rfl, by decide +kernel, by decide +kernel⟩
def spFault (T : List NTab) (C : Addr) : Sp := fun vs H Q _ => ∃ (R : Addr) (i : Nat) (rs : List Rm) (r : Rm), vs = [.ref R, .int i] ∧ RsAt C H R rs ∧ rs.length ≤ 8 ∧ rs[i]? = some r ∧ roomOk rs i r ∧ TabsN T H ∧ ∀ H', Gr T H H' → Q (.str "") H'
abbrev psRA : List Str := ["rooms", "at"]
section
variable {P : Program} {w : World} {K : PySem.W.Frag} {mg : Str → Option Value} {base : Heap} {f C g1 g2 g3 g4 g5 g6 g7 : Addr} {fd d1 d2 d3 d4 d5 d6 d7 : FuncData} {T_ : List NTab}
theorem no_str {H : Hp} : TruV K (.str "") H false := ⟨by decide, by decide⟩
theorem ok_fault (T : RoomC K C) (F : Fun K "fault_of" "fault_of" sFault f fd)
    (G1 : FnOk P w K mg base CX0 2 g1 d1 psRA (spNameF C)) (b1 : Binds K d1 psRA []) (k1 : PySem.W.keepIn K (.ref g1) = true) (m1 : mg "name_fits" = some (.ref g1))
    (G2 : FnOk P w K mg base CX0 2 g2 d2 psRA (spAboveF C)) (b2 : Binds K d2 psRA []) (k2 : PySem.W.keepIn K (.ref g2) = true) (m2 : mg "above_fits" = some (.ref g2))
    (G3 : FnOk P w K mg base CX0 4 g3 d3 ["boxes"] spBoxesF) (b3 : Binds K d3 ["boxes"] []) (k3 : PySem.W.keepIn K (.ref g3) = true) (m3 : mg "boxes_fit" = some (.ref g3))
    (G4 : FnOk P w K mg base CX0 17 g4 d4 ["room"] (spSaysF T_ C)) (b4 : Binds K d4 ["room"] []) (k4 : PySem.W.keepIn K (.ref g4) = true) (m4 : mg "sayings_fit" = some (.ref g4))
    (G5 : FnOk P w K mg base CX0 1 g5 d5 ["room"] (spFirstF C)) (b5 : Binds K d5 ["room"] []) (k5 : PySem.W.keepIn K (.ref g5) = true) (m5 : mg "first_fault" = some (.ref g5))
    (G6 : FnOk P w K mg base CX0 17 g6 d6 ["room"] (spOtherF C)) (b6 : Binds K d6 ["room"] []) (k6 : PySem.W.keepIn K (.ref g6) = true) (m6 : mg "other_fault" = some (.ref g6))
    (G7 : FnOk P w K mg base CX0 28 g7 d7 ["rooms", "at", "words"] (spBodyF C)) (b7 : Binds K d7 ["rooms", "at", "words"] []) (k7 : PySem.W.keepIn K (.ref g7) = true) (m7 : mg "body_fault" = some (.ref g7)) :
    FnOk P w K mg base CX0 29 f fd psRA (spFault T_ C) := by
  refine F.ok scFault (fun vs H Q E h => ?_) (fun cdv A outer s H vs Q E hr h => ?_)
  · obtain ⟨R, i, rs, r, rfl, _⟩ := h
    rfl
  obtain ⟨R, i, rs, r, rfl, hRs, z8, hi, ok, hT, q⟩ := h
  obtain ⟨as, hR, hp⟩ := id hRs
  obtain ⟨e, he, hx⟩ := paired_put hp hi
  obtain ⟨dx, n, a, b, s', k, t, p, y, h1, h2⟩ := id hx
  obtain ⟨c, rfl, hc⟩ := h2.boxes
  have hr2 := hr.mono (show 2 ≤ 28 by decide)
  have hr17 := hr.mono (show 17 ≤ 28 by decide)
  refine ⟨_, pss_cons (ps_set (i := 2) scFault.nd rfl (Or.inl rfl) (pe_ix ix_tup (pv 0) (pv 1) (fun _ _ => rfl)))
    (pss_cons (ps_if (pt_not (pt_val (pe_call G1 hr2 rfl m1 k1 b1 .nil pass0 (pa_cons (pv 0) (pa_cons (pv 1) pa_nil))))) (pss_one (ps_ret pe_str)) pss_nil)
    (pss_cons (ps_if (pt_not (pt_val (pe_call G2 hr2 rfl m2 k2 b2 .nil pass0 (pa_cons (pv 0) (pa_cons (pv 1) pa_nil))))) (pss_one (ps_ret pe_str)) pss_nil)
    (pss_cons (ps_if (pt_not (pt_val (pe_call G3 (hr.mono (by decide)) rfl m3 k3 b3 .nil pass0 (pa_cons (pe_fld (pv 2) rfl) pa_nil)))) (pss_one (ps_ret pe_str)) pss_nil)
    (pss_cons (ps_if (pt_not (pt_val (pe_call G4 hr17 rfl m4 k4 b4 .nil pass0 (pa_cons (pv 2) pa_nil)))) (pss_one (ps_ret pe_str)) pss_nil)
    (pss_cons (ps_if (pt_cmpR op_eq (pv 1) pe_int (nomark _)) (pss_one (ps_ret (pe_orT (pe_call G5 (hr.mono (by decide)) rfl m5 k5 b5 .nil pass0 (pa_cons (pv 2) pa_nil)) (pe_one (pe_call G7 hr rfl m7 k7 b7 .nil pass0 (pa_cons (pv 0) (pa_cons (pv 1) (pa_cons (pe_tup pa_nil) pa_nil)))))))) pss_nil)
    (pss_one (ps_ret (pe_orT (pe_call G6 hr17 rfl m6 k6 b6 .nil pass0 (pa_cons (pv 2) pa_nil)) (pe_one (pe_call G7 hr rfl m7 k7 b7 .nil pass0 (pa_cons (pv 0) (pa_cons (pv 1) (pa_cons (pe_tup (pa_cons pe_str pa_nil)) pa_nil))))))))))))), ?_⟩
  refine ⟨_, rfl, _, rfl, R, _, i, _, rfl, rfl, SqT.of hR, atI_nat (j := i) (by rw [List.getElem?_map, he]; rfl), ?_⟩
  refine ⟨_, rfl, _, rfl, R, i, rs, r, rfl, hRs, z8, hi, ok.name, ok.one, fun H1 s1 => ⟨_, rfl, itF rfl ?_⟩⟩
  refine ⟨_, rfl, _, rfl, R, i, rs, r, rfl, hRs.keep s1, z8, hi, ok.above, fun H2 s2 => ⟨_, rfl, itF rfl ?_⟩⟩
  have s2 := s1.trans s2
  refine ⟨_, rfl, e, C, dx, _, _, rfl, s2 _ _ h1, T.cl, T.n3, rf_boxes, c, r.boxes, rfl, hc.keep (Same.tups s2), ok.boxes.1, ok.boxes.2.1, ok.boxes.2.2, ok.asc, fun H3 s3 => ⟨_, rfl, itF rfl ?_⟩⟩
  have s3 := s2.trans s3
  refine ⟨_, rfl, e, r, rfl, hx.keep s3, ok.boxes, ok.says, hT.ext s3, fun H4 s4 => ⟨_, rfl, itF rfl ?_⟩⟩
  have s4 := (Gr.of hT s3).trans s4
  refine ⟨_, rfl, rfl, _, rfl, ite2 (fun c1 => ?_) (fun c1 => ?_)⟩
  · have i0 : (i : Int) = 0 := V.int.inj (of_decide_eq_true c1)
    obtain ⟨o1, o2⟩ := ok.first (by omega)
    refine ⟨_, rfl, e, r, rfl, hx.gr s4, o1, fun H5 s5 => ⟨false, no_str, itF rfl ?_⟩⟩
    have s5 := s4.same s5
    refine ⟨_, rfl, _, rfl, by show 0 ≤ sizeLine; decide, fun wd hwd => ?_⟩
    have s6 := s5.same (same_new hwd (.tup []))
    exact ⟨R, wd, i, rs, r, [], rfl, hRs.gr s6, z8, hi, ok.boxes.1, o2, upd_same, fun H7 s7 => q H7 (s6.same s7)⟩
  · have i0 : i ≠ 0 := fun z => c1 (decide_eq_true (by rw [z]; rfl))
    obtain ⟨o1, o2⟩ := ok.other i0
    refine ⟨_, rfl, e, r, rfl, hx.gr s4, ok.boxes.1, o1, fun H5 s5 => ⟨false, no_str, itF rfl ?_⟩⟩
    have s5 := s4.same s5
    refine ⟨_, rfl, _, rfl, by show 1 ≤ sizeLine; decide, fun wd hwd => ?_⟩
    have s6 := s5.same (same_new hwd (.tup [.str "asked"]))
    exact ⟨R, wd, i, rs, r, ["asked"], rfl, hRs.gr s6, z8, hi, ok.boxes.1, o2, upd_same, fun H7 s7 => q H7 (s6.same s7)⟩
end
/-! ### Program.__init__ -/
abbrev cProg : Stmt := top 75
abbrev sPInit : Stmt := inClass (top 75) 0
abbrev nmPI : List Str := ["self", "rooms", "at", "why"]
theorem scPInit : FnScope nmPI ["self", "rooms"] (defScope sPInit) := ⟨rfl, rfl, rfl, by decide +kernel, rfl, by decide +kernel, by decide +kernel⟩
structure ProgC (K : PySem.W.Frag) (D : Addr) : Prop where
  cl : Cls K D
  held : NoAttr K D "held"
  drawn : NoAttr K D "drawn"
/-- a right program -/
structure Right (rs : List Rm) : Prop where
  lo : 1 ≤ rs.length
  hi : rs.length ≤ 8
  all : ∀ i r, rs[i]? = some r → roomOk rs i r
def spPInit (T : List NTab) (C D : Addr) : Sp := fun vs H Q _ => ∃ (x dx R : Addr) (rs : List Rm), vs = [.ref x, .ref R] ∧ H x = some (.ins D dx []) ∧ RsAt C H R rs ∧ Right rs ∧ TabsN T H ∧
  ∀ p H', Kg T x H H' → H' x = some (.ins D dx [("held", .ref R), ("drawn", .ref p)]) → H' p = some (.tup []) → Q .non H'
theorem kg_ins {T : List NTab} {x D d : Addr} {H H1 : Hp} {fs gs : List (Str × V)} (g : Kg T x H H1) (hx : H1 x = some (.ins D d fs)) : Kg T x H (upd H1 x (.ins D d gs)) :=
  g.trans ⟨fun a o n h _ => by rw [upd_ne n]; exact h, fun a n z => by rw [upd_ne n] at z; exact z, tabs_keptO g.tabs hx (fun _ z => by cases z) (fun _ _ z => by unfold CodeO at z; cases z) (Kept.put _)⟩
section
variable {P : Program} {w : World} {K : PySem.W.Frag} {mg : Str → Option Value} {base : Heap} {f C D g1 g2 : Addr} {fd d1 d2 : FuncData} {T_ : List NTab}
theorem ok_pinit (O : Own mg) (mr : mg "range" = none) (TP : ProgC K D) (F : Fun K "__init__" "Program.__init__" sPInit f fd)
    (G1 : FnOk P w K mg base CX0 1 g1 d1 ["things"] (spRooms C)) (b1 : Binds K d1 ["things"] []) (k1 : PySem.W.keepIn K (.ref g1) = true) (m1 : mg "are_rooms" = some (.ref g1))
    (G2 : FnOk P w K mg base CX0 29 g2 d2 psRA (spFault T_ C)) (b2 : Binds K d2 psRA []) (k2 : PySem.W.keepIn K (.ref g2) = true) (m2 : mg "fault_of" = some (.ref g2)) :
    FnOk P w K mg base CX0 30 f fd ["self", "rooms"] (spPInit T_ C D) := by
  refine F.ok scPInit (fun vs H Q E h => ?_) (fun cdv A outer s H vs Q E hr h => ?_)
  · obtain ⟨x, dx, R, rs, rfl, _⟩ := h
    rfl
  obtain ⟨x, dx, R, rs, rfl, hx, hRs, ok, hT, q⟩ := h
  have hlo := ok.lo
  have hhi := ok.hi
  refine ⟨_, pss_cons (ps_if (pt_not (pt_val (pe_call G1 (hr.mono (by decide)) rfl m1 k1 b1 .nil pass0 (pa_cons (pv 1) pa_nil)))) (pss_one ps_never) pss_nil)
    (pss_cons (ps_for PassesOwn.never rfl (pi_range1 rfl mr (pa_cons (pe_callB call_len_seq rfl O.len PySem.boot_len (pa_cons (pv 1) pa_nil)) pa_nil)) (pg_name (i := 2) scPInit.nd rfl (Or.inl rfl))
      (pss_cons (ps_set (i := 3) scPInit.nd rfl (Or.inl rfl) (pe_call G2 hr rfl m2 k2 b2 .nil pass0 (pa_cons (pv 1) (pa_cons (pv 2) pa_nil))))
      (pss_one (ps_if (pt_cmpR op_ne (pv 3) pe_str (nomark _)) (pss_one ps_never) pss_nil))))
    (pss_cons (ps_fld (pv 0) (pv 1) rfl) (pss_one (ps_fld (pv 0) (pe_tup pa_nil) rfl)))), ?_⟩
  refine ⟨_, rfl, R, rs, rfl, hRs, hlo, hhi, fun H1 s1 => ⟨_, rfl, itF rfl ?_⟩⟩
  obtain ⟨as, hR, hp⟩ := hRs.keep s1
  have hl := paired_len hp
  have hlr : (as.map V.ref).length = rs.length := by rw [List.length_map]; exact hl
  refine ⟨_, rfl, R, _, rfl, .inr (SqT.of hR), _, rfl, by omega, by omega, ?_⟩
  refine for_range (lo := 0) (fun i σ Hc => ∃ y z, σ = [some (.ref x), some (.ref R), y, z] ∧ Gr T_ H Hc) ⟨_, _, rfl, Gr.of hT s1⟩ ?_ ?_
  · rintro i σ Hc hi ⟨y, z, rfl, sm⟩
    have hi' : i < rs.length := by omega
    obtain ⟨r, hir⟩ : ∃ r, rs[i]? = some r := ⟨rs[i], List.getElem?_eq_getElem hi'⟩
    refine ⟨_, rfl, _, rfl, R, i, rs, r, (by rw [Int.zero_add]; rfl), hRs.gr sm, hhi, hir, ok.all i r hir, sm.tabs, fun H2 s2 => ⟨_, rfl, rfl, _, rfl, itF ?_ ⟨_, _, rfl, sm.trans s2⟩⟩⟩
    rw [decide_eq_true rfl]
    rfl
  · rintro σ Hc ⟨y, z, rfl, sm⟩
    refine ⟨_, rfl, _, rfl, x, D, dx, [], rfl, sm.ins hx, TP.cl, TP.held, (by show 0 < 1000; decide), ?_⟩
    have e1 : upd Hc x (.ins D dx (putF "held" (.ref R) [])) x = some (.ins D dx [("held", .ref R)]) := upd_same
    have g1 : Kg T_ x H (upd Hc x (.ins D dx (putF "held" (.ref R) []))) := kg_ins (.of sm) (sm.ins hx)
    generalize upd Hc x (.ins D dx (putF "held" (.ref R) [])) = H5 at *
    refine ⟨by show 0 ≤ sizeLine; decide, fun p hp => ?_⟩
    have s6 := same_new hp (.tup [])
    refine ⟨_, rfl, x, D, dx, [("held", .ref R)], rfl, s6 _ _ e1, TP.cl, TP.drawn, (by show 1 < 1000; decide), ?_⟩
    have ef : putF "drawn" (.ref p) ([("held", .ref R)] : List (Str × V)) = ([("held", .ref R), ("drawn", .ref p)] : List (Str × V)) := by simp (decide := true) [putF]
    rw [ef]
    refine q p _ (kg_ins (g1.same s6) (s6 _ _ e1)) upd_same ?_
    rw [upd_ne (ne_of (o := .tup []) upd_same (s6 _ _ e1) (by intro z; cases z))]
    exact upd_same
end
end Any
namespace Any
open L2 PySem PySem.Spec PyProof.Rows LamX NdefX
/-! ### sets of texts -/
def keyT (e : Int × Value) : Str := match e.2 with
  | .str k _ => k
  | _ => ""
def GoodT (P : Program) (w : World) (e : Int × Value) : Prop := ∃ k u, e.2 = Value.str k u ∧ e.1 = (PySem.strKind P w).hash k
/-- the set of these texts at a: it can be walked -/
def SetX (P : Program) (w : World) (h : Heap) (a : Addr) (l : List Str) : Prop :=
  ∃ (o : Obj) (es : Array (Int × Value)) (ep : Nat) (t : SetTable), (h.get? a = some o ∧ o.ExactSet ∧ o.data = .set es ep t) ∧ ((∀ e ∈ es.toList, GoodT P w e) ∧ (es.toList.map keyT).Perm l) ∧
    (es.size < scanBound ∧ t.fits es.size = true) ∧ (Ris t.place.toList ∧ (w.params.followText "set-order" = true ∨ t.led = true))
section
variable {P : Program} {w : World} {A : Around} {E : Value → Shared → Prop} {s : Shared} {a : Addr} {l : List Str} {h h' : Heap}
theorem SetX.at (R : SetX P w h a l) (k : ∀ o, h.get? a = some o → h'.get? a = some o) : SetX P w h' a l := by
  obtain ⟨o, es, ep, t, ⟨h1, h2⟩, r⟩ := R
  exact ⟨o, es, ep, t, ⟨k o h1, h2⟩, r⟩
theorem goodT_elems {es : List (Int × Value)} (g : ∀ e ∈ es, GoodT P w e) : ElemsOf (PySem.strKind P w) es := by
  intro e he
  obtain ⟨k, u, q1, q2⟩ := g e he
  exact ⟨⟨k, by rw [q1]; exact strKind_is P w k u, q2⟩, by rw [q1] <;> rfl⟩
theorem goodT_is {e : Int × Value} (g : GoodT P w e) {k : Str} (q : (PySem.strKind P w).is k e.2 = true) : keyT e = k := by
  obtain ⟨k0, u, q1, _⟩ := g
  rw [q1] at q
  obtain ⟨u', z⟩ := Value.isStrOf_shape (show Value.isStrOf k (Value.str k0 u) = true from q)
  unfold keyT
  rw [q1]
  injection z
/-- the end of adding a new one -/
theorem addX_tail {g : Bool → Sem Unit} (hg : ∀ (b : Bool) (s1 : Shared) (Q1 : Unit → Shared → Prop), Q1 () s1 → wpAny (model P w) A (g b) Q1 E s1) {o : Obj} {es es1 : Array (Int × Value)} {ep : Nat} {t t2 : SetTable}
    (ho : s.heap.get? a = some o) (hex : o.ExactSet) (hd : o.data = .set es ep t) (gd : ∀ e ∈ es1.toList, GoodT P w e) (pm0 : (es1.toList.map keyT).Perm l) (hb : es1.size < scanBound) (hf : t2.fits es1.size = true)
    (hr : Ris t2.place.toList) (hl : w.params.followText "set-order" = true ∨ t2.led = true) {wasDummy : Bool} {R : Option Bool → Shared → Prop} (hR : ∀ h', Heap.SameBut a s.heap h' → SetX P w h' a l → R (some true) { s with heap := h' }) :
    wpAny (model P w) A (storeSet a es1 t2 >>= fun _ => if (!wasDummy && t2.tooFull) = true then (g (relayAll t2 es1 (SetTable.grown es1.size)).2.2 >>= fun _ =>
        storeSet a (relayAll t2 es1 (SetTable.grown es1.size)).1 (relayAll t2 es1 (SetTable.grown es1.size)).2.1 >>= fun _ => pure (some true)) else pure (some true)) R E s := by
  refine wpAny_bind (wpAny_storeSet_of ho hd ?_ (fits_of_scanBound hb))
  have st1 := store_at (es' := es1) (t' := t2) ho hd
  have sb := Heap.SameBut.update s.heap a (Obj.putSet es1 t2)
  split
  · have p1 := relayAll_perm t2 es1 (SetTable.grown es1.size)
    have p2 := relayAll_fits t2 es1 (SetTable.grown es1.size)
    have p3 := relayAll_ris t2 es1 (SetTable.grown es1.size)
    have p4 := relayAll_led t2 es1 (SetTable.grown es1.size)
    generalize relayAll t2 es1 (SetTable.grown es1.size) = Z at p1 p2 p3 p4 ⊢
    obtain ⟨es2, t3, gv⟩ := Z
    dsimp only at p1 p2 p3 p4 ⊢
    have sz : es2.size = es1.size := by
      have := p1.length_eq
      rw [Array.length_toList, Array.length_toList] at this
      exact this
    have hb2 : es2.size < scanBound := by omega
    refine wpAny_bind (hg _ _ _ (wpAny_bind (wpAny_storeSet_of st1 rfl ?_ (fits_of_scanBound hb2))))
    refine wpAny_pure (hR _ (sb.trans (Heap.SameBut.update _ a _)) ?_)
    exact ⟨_, es2, _, t3, ⟨store_at (es' := es2) (t' := t3) st1 rfl, hex, rfl⟩, ⟨fun e he => gd e (p1.mem_iff.mp he), (p1.map keyT).trans pm0⟩, ⟨hb2, p2⟩, p3, hl.imp id fun z => by rw [p4]; exact z⟩
  · exact wpAny_pure (hR _ sb ⟨_, es1, _, t2, ⟨st1, hex, rfl⟩, ⟨gd, pm0⟩, ⟨hb, hf⟩, hr, hl⟩)
theorem addX {k : Str} {u : Tok} {Q : Bool → Shared → Prop} (R : SetX P w s.heap a l) (hk : k ∉ l) (room : l.length + 1 < scanBound) (hQ : ∀ h', Heap.SameBut a s.heap h' → SetX P w h' a (k :: l) → Q true { s with heap := h' }) :
    wpAny (model P w) A (setAddHashed a (.str k u) ((PySem.strKind P w).hash k)) Q E s := by
  obtain ⟨o, es, ep, t, ⟨ho, hex, hd⟩, ⟨gd, pm0⟩, ⟨hb, hf⟩, hr, hl⟩ := R
  have isk : (PySem.strKind P w).is k (.str k u) = true := strKind_is P w k u
  have scn : (Value.str k u).scannable = true := rfl
  have elm := goodT_elems gd
  unfold setAddHashed setAddHashedIn
  refine wpAny_holding (wpAny_bind (wpAny_setState_of ho hd hf ?_))
  dsimp only
  rw [byScan_of scn hb elm]
  simp only [↓reduceIte]
  unfold setAddByScan
  refine wpAny_bind (wpAny_bind (wpAny_rule (wpAny_bind (wpAny_setScan_of isk ho hd hf elm ?_))))
  cases hfi : List.findIdx? (fun e => (PySem.strKind P w).is k e.2) es.toList with
  | some j =>
    obtain ⟨hj, pj, _⟩ := List.findIdx?_eq_some_iff_getElem.mp hfi
    have mm : es.toList[j] ∈ es.toList := List.getElem_mem hj
    exact absurd (pm0.mem_iff.mp (List.mem_map.mpr ⟨_, mm, goodT_is (gd _ mm) pj⟩)) hk
  | none =>
    dsimp only
    have p1 := layNew_perm t es ((PySem.strKind P w).hash k) (.str k u)
    have p2 := layNew_fits t es ((PySem.strKind P w).hash k) (.str k u)
    have p3 := layNew_ris t es ((PySem.strKind P w).hash k) (.str k u) hr
    have p4 := layNew_led t es ((PySem.strKind P w).hash k) (.str k u)
    generalize layNew t es ((PySem.strKind P w).hash k) (.str k u) = Z at p1 p2 p3 p4 ⊢
    obtain ⟨es1, t1, wd, gv⟩ := Z
    dsimp only at p1 p2 p3 p4 ⊢
    rw [Array.toList_push] at p1
    have pc := p1.trans (List.perm_append_singleton _ _)
    have pk : (es1.toList.map keyT).Perm (k :: l) := (pc.map keyT).trans (pm0.cons k)
    have gd1 : ∀ e ∈ es1.toList, GoodT P w e := fun e he => (List.mem_cons.mp (pc.mem_iff.mp he)).elim (fun z => z ▸ ⟨k, u, rfl, rfl⟩) (gd e)
    have sz : es1.size = l.length + 1 := by
      have := pk.length_eq
      rw [List.length_map, Array.length_toList, List.length_cons] at this
      exact this
    have hb1 : es1.size < scanBound := by omega
    have led1 : w.params.followText "set-order" = true ∨ t1.led = true := hl.imp id fun z => by rw [p4]; exact z
    have gw : ∀ (b : Bool) {s1 : Shared} {Q1 : Unit → Shared → Prop}, Q1 () s1 → wpAny (model P w) A (match b with | true => rule "set.scan.the-table-gave-way" | false => pure ()) Q1 E s1 := by
      intro b s1 Q1 q
      cases b <;> first | exact wpAny_pure q | exact wpAny_rule q
    refine wpAny_bind (gw _ ?_)
    split
    · refine wpAny_bind ?_
      rw [hashByValue_scannable 8 scn]
      refine wpAny_pure ?_
      refine addX_tail ?_ ho hex hd gd1 pk hb1 ?_ ?_ ?_ ?_
      · intro b s1 Q1 q
        cases b <;> first | exact wpAny_pure q | exact wpAny_rule q
      · first | (split <;> first | exact p2 | exact SetTable.fits_plain_off p2) | exact p2
      · first | (split <;> exact p3) | exact p3
      · first | (split <;> exact led1) | exact led1
      · intro h' sb r
        dsimp only
        exact wpAny_pure (hQ h' sb r)
    · refine wpAny_bind (wpAny_pure ?_)
      simp only [↓reduceIte]
      refine addX_tail ?_ ho hex hd gd1 pk hb1 p2 p3 led1 ?_
      · intro b s1 Q1 q
        cases b <;> first | exact wpAny_pure q | exact wpAny_rule q
      · intro h' sb r
        dsimp only
        exact wpAny_pure (hQ h' sb r)
end
end Any
namespace Any
open L2 PySem PySem.Spec PyProof.Rows LamX NdefX
section
variable {P : Program} {w : World} {A : Around} {E : Value → Shared → Prop} {s : Shared}
theorem take_rev {xs : List Str} {i : Nat} {k : Str} (h : xs[i]? = some k) : k :: (xs.take i).reverse = (xs.take (i + 1)).reverse := by
  rw [List.take_add_one, h, List.reverse_append]
  rfl
/-- set.update's loop over unlike texts -/
theorem loopX {I : Addr} {fp wr : List Addr} {G : Array GenState → Array GenState → Prop} {n : Nat} {Pv : Nat → Value → Prop} {St : Nat → Shared → Prop} {R : Result → Shared → Prop} (W : WalksS P w A.in1 I fp wr G n Pv St)
    (S : Addr) (off : S ∉ fp) (xs : List Str) (hn : n = xs.length) (nd : xs.Nodup) (few : xs.length + 1 < scanBound) (hv : ∀ i v, Pv i v → ∃ k u, xs[i]? = some k ∧ v = .str k u) :
    ∀ (m i : Nat) (s : Shared), n - i = m → i ≤ n → St i s → SetX P w s.heap S (xs.take i).reverse → (∀ s', Moved (S :: wr) G s s' → SetX P w s'.heap S xs.reverse → R (.ok (.ret .none)) s') →
      codeAny (model P w) A (.builtin "set.update.loop" ⟨[.ref S, .ref I], []⟩) R s := by
  have offw : S ∉ wr := fun z => off (W.sub _ z)
  have more : ∀ b ∈ wr, b ∈ S :: wr := fun b z => List.mem_cons_of_mem _ z
  intro m
  induction m with
  | zero =>
    intro i s em hi st hS hR
    obtain rfl : i = n := by omega
    refine codeAny_builtin F.entry_set_update_loop ?_
    rw [Around.under_plainId F.plain_set_update_loop _]
    show wpAny _ A.in1 (pyNext (.ref I) >>= _) _ _ s
    refine wpAny_bind (W.done s _ _ st fun s1 mv => ?_)
    rw [hn, List.take_length] at hS
    exact wpAny_pure (hR s1 (mv.mono more) (hS.at fun o e => mv.heap S o offw e))
  | succ m ih =>
    intro i s em hi st hS hR
    have lt : i < n := by omega
    refine codeAny_builtin F.entry_set_update_loop ?_
    rw [Around.under_plainId F.plain_set_update_loop _]
    show wpAny _ A.in1 (pyNext (.ref I) >>= _) _ _ s
    refine wpAny_bind (W.item i s _ _ lt st fun v s1 hP st1 mv => ?_)
    obtain ⟨k, u, hk, rfl⟩ := hv i v hP
    have hS1 : SetX P w s1.heap S (xs.take i).reverse := hS.at fun o e => mv.heap S o offw e
    show wpAny _ A.in1 (holding [Value.str k u] (setAdd S (.str k u)) >>= _) _ _ s1
    refine wpAny_bind (wpAny_holding ?_)
    unfold setAdd
    refine wpAny_holding (wpAny_bind ((PySem.strKind P w).pyHash (k := k) (strKind_is P w k u) ?_))
    have nk : k ∉ (xs.take i).reverse := fun z => nd_take nd hk (List.mem_reverse.mp z)
    refine addX (s := { s1 with toks := s1.toks + 1 }) hS1 nk (by rw [List.length_reverse, List.length_take]; omega) fun h2 sb hS2 => ?_
    rw [take_rev hk] at hS2
    refine wpAny_pure ⟨plainId_quiet F.plain_set_update_loop _, ih (i + 1) _ (by omega) lt (W.frame _ s1 _ _ st1 (Nat.le_succ _) fun b hb o e => ?_) hS2 fun s3 mv3 hS3 => ?_⟩
    · exact (sb.2 b (fun z : b = S => off (z ▸ hb))).trans e
    · refine hR s3 (Moved.trans W.gtrans ((mv.mono more).then_heap (Nat.le_succ _) fun b o hb e => ?_) mv3) hS3
      exact (sb.2 b (fun z : b = S => hb (by rw [z]; exact List.mem_cons_self))).trans e
theorem strs_get : ∀ {xs : List Str} {us : List Value}, Vals (xs.map V.str) us → ∀ {i : Nat} {v : Value}, us[i]? = some v → ∃ k u, xs[i]? = some k ∧ v = .str k u
  | [], _, .nil, i, v, h => by simp at h
  | x :: xs, _, .cons r t, 0, v, h => by
    cases h
    obtain ⟨u, q⟩ := r
    exact ⟨x, u, rfl, q⟩
  | x :: xs, _, .cons r t, i + 1, v, h => strs_get t (i := i) h
abbrev newS (w : World) : Obj := { cls := .type "set", dict := none, data := .set #[] 0 (.fresh 0 0 (!w.params.followText "set-order")) }
theorem setX_new {h : Heap} {a : Addr} (hg : h.get? a = some (newS w)) : SetX P w h a [] := by
  refine ⟨_, #[], 0, _, ⟨hg, ⟨rfl, rfl, rfl⟩, rfl⟩, ⟨fun e he => by simp at he, .nil⟩, ⟨by decide, rfl⟩, List.Pairwise.nil, ?_⟩
  show _ ∨ (!w.params.followText "set-order") = true
  cases w.params.followText "set-order"
  · exact .inr rfl
  · exact .inl rfl
set_option maxHeartbeats 3200000 in
/-- set(xs), xs a list of unlike texts -/
theorem call_setX {l : Addr} {its : Array Value} (xs : List Str) {Q : Value → Shared → Prop} (hh : A.handled = none) (hl : s.heap.IsList l its) (hv : Vals (xs.map V.str) its.toList) (nd : xs.Nodup) (few : xs.length + 1 < scanBound)
    (k : ∀ (h' : Heap) (tk : Nat), SetX P w h' s.heap.objs.size xs.reverse → (∀ b o, s.heap.get? b = some o → h'.get? b = some o) → Q (.ref s.heap.objs.size) { s with heap := h', toks := tk }) :
    wpAny (model P w) A (call (.type "set") [.ref l]) Q E s := by
  have sz : its.size = xs.length := by
    have := hv.length
    rw [List.length_map, Array.length_toList] at this
    exact this.symm
  obtain ⟨c, tl, mro⟩ := F.called_set.mro
  have mad := F.called_set.made
  have sub := F.called_set.sub
  refine wpAny_call (codeAny_of_tree ?_)
  show wpAny _ _ (callAny (.type "set") _) _ _ _
  refine wpAny_pure ⟨Code.quiet_builtin _ (by decide +kernel), codeAny_builtin F.entry_type_call ?_⟩
  rw [Around.under_plain (weight_type_call_type "set" [.ref l] []) rfl]
  have nt := F.called_set.notType
  have cc := F.called_set.canCreate
  have ct := F.typeCall_set_1 (.ref l)
  repeat (any_goals (first | assumption | wp_step))
  refine codeAny_mono (code_set_led1 (.ref l) (E := E) (Q₁ := fun ob s1 => ob = .ref s.heap.objs.size ∧ s1 = { s with heap := s.heap.push (newS w) }) ⟨rfl, rfl⟩) fun r s1 hr => ?_
  cases r with
  | error e => exact hr
  | ok fl =>
    cases fl with
    | ret ob =>
      obtain ⟨rfl, rfl⟩ := hr
      have gS : (s.heap.push (newS w)).get? s.heap.objs.size = some (newS w) := Heap.get?_push_size _ rfl
      have tS : Shared.TypeIs { s with heap := s.heap.push (newS w) } (.ref s.heap.objs.size) "set" := ⟨_, gS, rfl⟩
      have il := F.called_set.init.lookup
      have ib := F.called_set.init.bind (.ref s.heap.objs.size)
      repeat (any_goals (first | assumption | wp_step))
      refine codeAny_mono (codeAny_call_builtin (R := wants (fun r s2 => r = .none ∧ ∃ h' tk, s2 = { s with heap := h', toks := tk } ∧ SetX P w h' s.heap.objs.size xs.reverse ∧
          (∀ b o, s.heap.get? b = some o → h'.get? b = some o)) E) F.called_set.init.plain F.entry_set_init (check_set_init_1 tS ?_)) fun r2 s2 hr2 => ?_
      · obtain ⟨ol, hol, hcl, nl, hdl⟩ := hl
        obtain ⟨oc, od, oda, os⟩ := ol
        simp only at hcl hdl
        subst hcl hdl
        have hol1 : (s.heap.push (newS w)).get? l = some { cls := .type "list", dict := od, data := .seq its nl, slots := os } := Heap.get?_push_of_some _ hol
        have n1 := F.sub_list_set
        have n2 := F.sub_list_frozenset
        have n3 : (Value.type "list" == Value.type "dict") = false := by decide
        have l1 : (s.heap.push (newS w)).IsList l its := ⟨_, hol1, rfl, nl, rfl⟩
        unfold Builtin.«set.__init__» noKeywords Builtin.Frozenset.updateFrom
        generalize hPI : pyIter = PI
        wp_walk
        subst hPI
        refine wpAny_pyIter_list l1 (wpAny_bind (wpAny_runValue ?_))
        have lS : l < s.heap.objs.size := Heap.lt_size hol
        have h3 : A.in1.in1.in1.handled = none := by simp [hh]
        have lI : l ≠ (s.heap.push (newS w)).objs.size := by
          rw [Heap.size_push]
          exact Nat.ne_of_lt (Nat.lt_succ_of_lt lS)
        have off : s.heap.objs.size ∉ [(s.heap.push (newS w)).objs.size, l] := by
          rw [Heap.size_push]
          simp only [List.mem_cons, List.mem_singleton, List.not_mem_nil, or_false, not_or]
          exact ⟨Nat.ne_of_lt (Nat.lt_succ_self _), Nat.ne_of_gt lS⟩
        have val : ∀ (i : Nat) (v : Value), its[i]? = some v → ∃ k u, xs[i]? = some k ∧ v = .str k u := fun i v e => strs_get hv (by rw [Array.getElem?_toList]; exact e)
        refine loopX ((Walks.list h3 _ l lI its).toS) s.heap.objs.size off xs sz nd few val (its.size - 0) 0 _ (by omega) (Nat.zero_le _) ⟨⟨_, Heap.get?_push_size _ rfl, rfl, rfl⟩, (l1.push _)⟩ ?hS ?hR
        case hS => exact setX_new (Heap.get?_push_of_some _ gS)
        case hR =>
          intro s3 mv hS3
          obtain ⟨h3', g3, d3, tk3, os3⟩ := s3
          have e1 : g3 = s.gens := mv.gens
          have e2 : d3 = s.drawn := mv.drawn
          have e3 : os3 = s.os := mv.os
          subst e1 e2 e3
          show wpAny _ _ _ _ _ _
          refine wpAny_pure ?_
          show wpAny _ _ (ret Value.none) _ _ _
          refine wpAny_pure ⟨rfl, h3', tk3, rfl, hS3, fun b o e => ?_⟩
          have lb : b < s.heap.objs.size := Heap.lt_size e
          refine mv.heap b o ?_ (Heap.get?_push_of_some _ (Heap.get?_push_of_some _ e))
          simp only [List.mem_cons, List.mem_singleton, List.not_mem_nil, or_false, not_or]
          refine ⟨Nat.ne_of_lt lb, ?_⟩
          rw [Heap.size_push]
          exact Nat.ne_of_lt (Nat.lt_succ_of_lt lb)
      · cases r2 with
        | error e => exact hr2
        | ok fl2 =>
          cases fl2 with
          | ret r =>
            obtain ⟨rfl, h', tk, rfl, hS3, kp⟩ := hr2
            repeat (any_goals (first | assumption | wp_step))
            exact k _ _ hS3 kp
          | _ => exact hr2.elim
    | _ => exact hr.elim
end
end Any
set_option maxHeartbeats 2000000
namespace Any
open L2 PySem PySem.Spec PyProof.Rows LamX NdefX
section
variable {P : Program} {w : World} {A : Around} {E : Value → Shared → Prop} {s : Shared} {a : Addr} {l : List Str}
/-- values that are texts, and which -/
theorem strsAre_of : ∀ (vs : List Value), (∀ v ∈ vs, ∃ k u, v = Value.str k u) → ∃ ks : List Str, StrsAre vs ks ∧ vs.map (fun v => keyT (0, v)) = ks
  | [], _ => ⟨[], .nil, rfl⟩
  | v :: vs, h => by
    obtain ⟨k, u, rfl⟩ := h v List.mem_cons_self
    obtain ⟨ks, h1, h2⟩ := strsAre_of vs fun x hx => h x (List.mem_cons_of_mem _ hx)
    exact ⟨k :: ks, .cons k u h1, by rw [List.map_cons, h2]; rfl⟩
/-- sorted(set of texts) -/
theorem sortedX {Q : Value → Shared → Prop} (R : SetX P w s.heap a l) (hh : A.handled = none) (h64 : l.length < 64)
    (hQ : ∀ s1 p (out : Array Value) (c : Nat) (ys : List Str), (∀ b o, s.heap.get? b = some o → s1.heap.get? b = some o) → s1.gens = s.gens → s1.os = s.os → s.heap.objs.size ≤ p →
      s1.heap.get? p = some (seqObj "list" out c) → StrsAre out.toList ys → ys.Perm l → sortedS ys = true → Q (.ref p) s1) : wpAny (model P w) A (call (.builtin "sorted") [.ref a]) Q E s := by
  obtain ⟨o, es, ep, t, ⟨ho, hex, hd⟩, ⟨gd, pm0⟩, ⟨hb, hf⟩, hr, hl⟩ := R
  refine Calls.call_function_entry kind_sorted plain_sorted entry_sorted (args_sorted1 _) ?_
  unfold Builtin.«sorted»
  refine wpAny_bind (m := checkCount "sorted" 1 1 _) (wpAny_pure ?_)
  refine wpAny_bind (collect_set (A := A.in1) hh ⟨o, ho, hex.1, hd⟩ hf hb hr hl fun s1 vs kp sz gs os pm => ?_)
  obtain ⟨ks, hS, ek⟩ := strsAre_of vs fun v hv => by
    obtain ⟨e, he, q⟩ := List.mem_map.mp (pm.mem_iff.mp hv)
    obtain ⟨k, u, q1, _⟩ := gd e he
    exact ⟨k, u, by rw [← q]; exact q1⟩
  have pk : ks.Perm l := by
    rw [← ek]
    refine ((pm.map fun v => keyT (0, v)).trans ?_).trans pm0
    rw [List.map_map]
    exact List.Perm.of_eq rfl
  have vl : vs.length = l.length := by
    rw [← pk.length_eq, ← ek, List.length_map]
  refine wpAny_bind (wpAny_newList ?_ (by rw [vl, sizeLine_eq]; omega))
  have gL : (s1.heap.push (seqObj "list" vs.toArray 0)).get? s1.heap.objs.size = some (seqObj "list" vs.toArray 0) := Heap.get?_push_size _ rfl
  refine wpAny_bind (wpAny_holding (wpAny_call_entry slot_list_sort ⟨_, gL, rfl⟩ entry_list_sort
    (list_sort_treeK strKind_oneLt gL hS.keysOf (fun v1 v2 rest e => keyKind_strs (by rw [← e]; exact hS)) (by rw [vl]; exact h64) fun st hp hs => ⟨_, rfl, ?_⟩) (args_list_sort _)))
  obtain ⟨ys, g1, g2, g3⟩ := sorted_out_str hS hp hs
  obtain ⟨c, hc⟩ := sortedHeap_at (vs := vs) (out := (arrOf st).map (·.2)) gL
  refine wpAny_pure ⟨_, rfl, hQ _ s1.heap.objs.size _ c ys (fun b u e => ?_) gs os sz hc g1 (g2.trans pk) g3⟩
  have q := kp b u e
  have lt := Heap.lt_size q
  refine (sortedHeap_old (Nat.ne_of_lt lt) (by rw [size_push']; exact Nat.lt_succ_of_lt lt)).trans ?_
  exact Heap.get?_push_of_some _ q
end
/-- a set of texts, as the abstract heap has it -/
def SetXO (P : Program) (w : World) (a : Addr) (l : List Str) : HO := .ext fun h => SetX P w h a l
section
variable {X : Cx}
theorem setXO_ok {P : Program} {w : World} {H : Hp} {h : Heap} {a : Addr} {l : List Str} (R : SetX P w h a l) : ObjOk P w H h a (SetXO P w a l) := by
  have R2 := R
  obtain ⟨o, es, ep, t, ⟨h1, _⟩, _⟩ := R2
  exact ⟨R, ⟨o, h1⟩, fun h2 h3 p k => SetX.at p k⟩
theorem cr_setX (hc : X.calm = true) : CallR X (.type "set") (fun vs H Q => ∃ (a : Addr) (xs : List Str), vs = [.ref a] ∧ SqL X.K H a (xs.map V.str) ∧ xs.Nodup ∧ xs.length < 64 ∧ ∀ p, H p = none → Q (.ref p) (upd H p (SetXO X.prog X.w p xs.reverse))) := by
  intro pins s σ H vs us Q I r h
  obtain ⟨a, xs, rfl, hs, nd, few, q⟩ := h
  rw [Vals.ref1 r]
  obtain ⟨its, rv, pl, _⟩ := I.list hs
  refine call_setX (P := X.prog) (w := X.w) xs (I.ok.hd hc) pl.isList (by simpa using rv) nd (by unfold scanBound; omega) fun h' tk R kp => ?_
  exact ⟨.ref s.heap.objs.size, _, I.laid (t' := tk) kp (Nat.le_refl _) (setXO_ok R), rfl, q _ (I.hok.fresh (Nat.le_refl _))⟩
theorem cr_sortedX (hc : X.calm = true) : CallR X (.builtin "sorted") (fun vs H Q => ∃ (a : Addr) (l : List Str), vs = [.ref a] ∧ H a = some (SetXO X.prog X.w a l) ∧ l.length < 64 ∧ ∀ (ys : List Str) (p : Addr), ys.Perm l → sortedS ys = true → H p = none → Q (.ref p) (upd H p (.lst (ys.map V.str)))) := by
  intro pins s σ H vs us Q I r h
  obtain ⟨a, l, rfl, ha, few, q⟩ := h
  have R : SetX X.prog X.w s.heap a l := (I.hok a _ ha).1
  rw [Vals.ref1 r]
  refine sortedX R (I.ok.hd hc) few fun s1 p out c ys kp gs os hp hg hout pm srt => ?_
  have hlen : (ys.map V.str).length ≤ sizeLine := by rw [List.length_map, pm.length_eq, sizeLine_eq]; omega
  have hn : H p = none := I.hok.fresh hp
  have J : Inv X pins σ (upd H p (.lst (ys.map V.str))) { s with heap := s1.heap, gens := s1.gens, drawn := s1.drawn, toks := s1.toks } :=
    I.call (ch := []) (Un.laid kp hp hn) (I.hok.laid kp hp ⟨hlen, out.toList, c, vals_of_strs hout, hg⟩) (by rw [gs]; exact I.bare) (fun _ z => nomatch z)
  have e : s1 = { s with heap := s1.heap, gens := s1.gens, drawn := s1.drawn, toks := s1.toks } := by
    obtain ⟨_, _, _, _, _⟩ := s1
    obtain ⟨_, _, _, _, _⟩ := s
    cases os
    rfl
  rw [e]
  exact ⟨.ref p, _, J, rfl, q ys p pm srt hn⟩
end
end Any
namespace Any
open L2 PySem PySem.Spec PyProof.Rows LamX NdefX
/-! ### sorted rows of the same things are the same -/
theorem uniq {α : Type} {le : α → α → Prop} (anti : ∀ x y, le x y → le y x → x = y) : ∀ {l1 l2 : List α}, l1.Pairwise le → l2.Pairwise le → l1.Perm l2 → l1 = l2
  | [], l2, _, _, p => (List.nil_perm.mp p).symm ▸ rfl
  | x :: r, [], _, _, p => by have := p.length_eq; simp at this
  | x :: r, y :: t, h1, h2, p => by
    obtain ⟨a1, a2⟩ := List.pairwise_cons.mp h1
    obtain ⟨b1, b2⟩ := List.pairwise_cons.mp h2
    have e : x = y := by
      rcases List.mem_cons.mp (p.mem_iff.mp (List.mem_cons_self (a := x))) with z | z
      · exact z
      · rcases List.mem_cons.mp (p.mem_iff.mpr (List.mem_cons_self (a := y))) with z2 | z2
        · exact z2.symm
        · exact anti x y (a1 y z2) (b1 x z)
    subst e
    rw [uniq anti a2 b2 (List.perm_cons x |>.mp p)]
def leS (x y : Str) : Prop := x.cps.toList ≤ y.cps.toList
theorem rising_pw : ∀ (l : List Str) (p : Str), risingS p l = true → (p :: l).Pairwise leS
  | [], p, _ => by simp
  | x :: r, p, h => by
    have h : (!ltCps x.cps.toList p.cps.toList && risingS x r) = true := h
    rw [Bool.and_eq_true, Bool.not_eq_true', ltCps_eq] at h
    have px : leS p x := List.not_lt.mp (of_decide_eq_false h.1)
    have ih := rising_pw r x h.2
    refine List.pairwise_cons.mpr ⟨fun y hy => ?_, ih⟩
    rcases List.mem_cons.mp hy with z | z
    · rw [z]; exact px
    · exact List.le_trans px ((List.pairwise_cons.mp ih).1 y z)
theorem sorted_pw : ∀ {l : List Str}, sortedS l = true → l.Pairwise leS
  | [], _ => .nil
  | x :: r, h => rising_pw r x h
theorem leS_anti (x y : Str) (h : leS x y) (g : leS y x) : x = y := by
  have e := List.le_antisymm h g
  obtain ⟨⟨a⟩⟩ := x
  obtain ⟨⟨b⟩⟩ := y
  cases e
  rfl
theorem sorted_uniq {xs ys : List Str} (h : sortedS xs = true) (g : sortedS ys = true) (p : ys.Perm xs) : ys = xs := uniq leS_anti (sorted_pw g) (sorted_pw h) p
theorem scBoxesF : FnScope ["boxes", "names", "box"] ["boxes"] (defScope sBoxesF) := ⟨rfl, rfl, rfl, by decide +kernel, rfl, by decide +kernel, by decide +kernel⟩
theorem eq_strs {K : PySem.W.Frag} {H : Hp} : ∀ xs : List Str, Paired (EqV K H 1) (xs.map V.str) (xs.map V.str)
  | [] => .nil
  | x :: r => .cons (.inl ⟨rfl, rfl⟩) (eq_strs r)
section
variable {P : Program} {w : World} {K : PySem.W.Frag} {mg : Str → Option Value} {base : Heap} {f bf : Addr} {fd bfd : FuncData}
theorem ok_boxesf (O : Own mg) (mset : mg "set" = none) (msrt : mg "sorted" = none) (F : Fun K "boxes_fit" "boxes_fit" sBoxesF f fd) {t4 : Tok} (m4 : mg "MOST_BOXES" = some (.int 4 t4))
    (G : FnOk P w K mg base CX0 3 bf bfd ["box"] spBoxF) (bG : Binds K bfd ["box"] []) (kG : PySem.W.keepIn K (.ref bf) = true) (mG : mg "box_fits" = some (.ref bf)) : FnOk P w K mg base CX0 4 f fd ["boxes"] spBoxesF := by
  refine F.ok scBoxesF (fun vs H Q E h => ?_) (fun cdv A outer s H vs Q E hr h => ?_)
  · obtain ⟨c, bs, rfl, _⟩ := h
    rfl
  obtain ⟨c, bs, rfl, ⟨as, hc, hp⟩, hz, hcr, hnd, hso, q⟩ := h
  have hl := paired_len hp
  have hs : sizeLine = 16777216 := sizeLine_eq
  have hlr : (as.map V.ref).length = bs.length := by rw [List.length_map]; exact hl
  refine ⟨_, pss_cons (ps_if (PW.pt (pw_or (pt_not (pt_val (pe_callB call_isi rfl O.isi (by decide +kernel) (pa_cons (pv 0) (pa_cons (pe_bltn (v := .ty "tuple") rfl O.tuple (by decide +kernel) rfl) pa_nil)))))
      (pw_or1 (pt_cmpR op_gt (pe_callB call_len_seq rfl O.len PySem.boot_len (pa_cons (pv 0) pa_nil)) (pe_glob (v := .int 4) rfl m4 ⟨_, rfl⟩) (nomark _))))) (pss_one (ps_ret pe_bl)) pss_nil)
    (pss_cons (ps_if (pt_not (pt_val (pe_callB (cr_all rfl) rfl O.all (by decide +kernel) (pa_cons (pe_lc (own := [("box", 2)]) (g := gName 2) (tt := tYes) rfl scBoxesF.nd (pi_tup (pv 0)) (blkOk_by (N := ["boxes", "names", "box"]) (sc := defScope sBoxesF) (by decide +kernel))
        (fun _ _ _ _ _ => pg_name (i := 2) scBoxesF.nd rfl (Or.inl rfl)) (fun _ _ _ _ _ => pts_nil) (fun _ _ _ _ _ => pe_call G hr rfl mG kG bG .nil pass0 (pa_cons (pv 2) pa_nil))) pa_nil)))) (pss_one (ps_ret pe_bl)) pss_nil)
    (pss_cons (ps_setLc (i := 1) (own := [("box", 2)]) (g := gName 2) (tt := tYes) (by rfl) scBoxesF.nd rfl rfl (sw_true rfl rfl rfl (by decide +kernel)) (pi_tup (pv 0)) (blkOk_by (N := ["boxes", "names", "box"]) (sc := defScope sBoxesF) (by decide +kernel))
        (fun _ _ _ _ _ => pg_name (i := 2) scBoxesF.nd rfl (Or.inl rfl)) (fun _ _ _ _ _ => pts_nil) (fun _ _ _ _ _ => pe_ix (show IxR _ (rIxT K) from ix_tup) (pv 2) pe_int (fun _ _ => rfl)))
    (pss_one (ps_ret (pe_cmpR (op_eqV hr.units) (pv 1) (pe_callB (cr_sortedX rfl) rfl msrt (by decide +kernel) (pa_cons (pe_callTy (cr_setX rfl) rfl mset (by decide +kernel) (pa_cons (pv 1) pa_nil)) pa_nil)) (nomark _)))))), ?_⟩
  refine ⟨_, rfl, _, _, _, _, true, rfl, .ty "tuple", .base (.tup hc), kb "tuple" "tuple" true, _, rfl, itF rfl ?_⟩
  refine ⟨_, rfl, _, _, rfl, .inr (SqT.of hc), _, _, rfl, rfl, _, rfl, itF ?_ ?_⟩
  · exact decide_eq_false (by omega)
  refine ⟨_, rfl, c, rfl, ⟨_, SqT.of hc⟩, fun D hD => ?_⟩
  refine turns_tup (K := K) (a := c) (xs := as.map V.ref) ((as.map V.ref).map fun _ => some (.bl true)) hD (fun Hc sm => SqT.of (sm _ _ hc)) (by rw [List.length_map]) (by omega) ?_ ?_
  · intro i z o Hc Y N hz2 ho sm hY hN
    have eo : o = some (.bl true) := by
      rw [List.getElem?_map, hz2] at ho
      exact (Option.some.inj ho).symm
    obtain ⟨e, he, rfl⟩ := refs_at hz2
    obtain ⟨b, hb, hat⟩ := paired_get hp he
    exact ⟨rfl, _, rfl, e, b, rfl, sm _ _ hat, hcr b (List.mem_of_getElem? hb), fun H4 s4 => hY _ eo H4 s4⟩
  · intro H1 hc1 s1
    rw [fm_true] at hc1
    refine ⟨D, _, rfl, SqL.of hc1, _, rfl, itF ?_ ?_⟩
    · rw [List.all_map, show ((as.map V.ref).all (id ∘ fun _ => true)) = true from List.all_eq_true.mpr fun _ _ => rfl]
      rfl
    refine ⟨_, rfl, c, rfl, ⟨_, SqT.of (s1 _ _ hc)⟩, fun D2 hD2 => ?_⟩
    refine turns_tup (K := K) (a := c) (xs := as.map V.ref) (bs.map fun b => some (V.str b.1)) hD2 (fun Hc sm => SqT.of (sm _ _ (s1 _ _ hc))) (by rw [List.length_map]; exact hlr.symm) (by omega) ?_ ?_
    · intro i z o Hc Y N hz2 ho sm hY hN
      obtain ⟨e, he, rfl⟩ := refs_at hz2
      obtain ⟨b, hb, hat⟩ := paired_get hp he
      rw [List.getElem?_map, hb] at ho
      exact ⟨rfl, _, rfl, _, _, _, _, rfl, rfl, SqT.of (sm _ _ (s1 _ _ hat)), atI_nat (j := 0) rfl, hY _ (Option.some.inj ho).symm Hc same_refl⟩
    · intro H2 hc2 s2
      rw [fm_some (fun b : Str × Int × Int => V.str b.1)] at hc2
      have e3 : bs.map (fun b : Str × Int × Int => V.str b.1) = (bs.map (·.1)).map V.str := by rw [List.map_map]; rfl
      rw [e3] at hc2
      have s3 := s1.trans s2
      refine ⟨_, rfl, _, rfl, D2, bs.map (·.1), rfl, SqL.of hc2, hnd, by rw [List.length_map]; omega, fun p2 hp2 => ?_⟩
      refine ⟨p2, (bs.map (·.1)).reverse, rfl, upd_same, by rw [List.length_reverse, List.length_map]; omega, fun ys p3 pm srt hp3 => ?_⟩
      have ey : ys = bs.map (·.1) := sorted_uniq hso srt (pm.trans (List.reverse_perm _))
      subst ey
      have s4 := Same.trans (same_new hp2 _) (same_new hp3 (.lst ((bs.map fun b : Str × Int × Int => b.1).map V.str)))
      exact ⟨1, by decide, .inl ⟨D2, p3, _, _, rfl, rfl, SqL.of (s4 _ _ hc2), SqL.of upd_same, eq_strs _⟩, q _ (s3.trans s4)⟩
end
end Any
set_option maxHeartbeats 4000000
namespace Any
open L2 PySem PySem.Spec PyProof.Rows
/-! ### own exceptions straight over one of Python's own classes -/
/-- what is asked of that class: its name, how it is made, how it is begun, its mro -/
structure Over (B nw ini : String) (T : List Value) : Prop where
  facts : PySem.ExcBaseFacts B nw ini T
  pass : ∀ self, refuseLoop self "__setattr__" T = pure ()
  obj : T.contains (.type "object") = true
abbrev tLookup : List Value := [.type "LookupError", .type "Exception", .type "BaseException", .type "object"]
abbrev tRuntime : List Value := [.type "RuntimeError", .type "Exception", .type "BaseException", .type "object"]
abbrev tValue : List Value := [.type "ValueError", .type "Exception", .type "BaseException", .type "object"]
theorem over_lookup : Over "LookupError" "LookupError.__new__" "LookupError.__init__" tLookup := ⟨PySem.F.excBase_LookupError, fun self => by kernel_rfl, by decide +kernel⟩
theorem over_runtime : Over "RuntimeError" "RuntimeError.__new__" "RuntimeError.__init__" tRuntime := ⟨PySem.F.excBase_RuntimeError, fun self => by kernel_rfl, by decide +kernel⟩
theorem over_value : Over "ValueError" "ValueError.__new__" "ValueError.__init__" tValue := ⟨PySem.F.excBase_ValueError, fun self => by kernel_rfl, by decide +kernel⟩
section
open Builtin Builtin.ObjectAttr
variable {pr : Program} {wo : World} {Ar : Around} {R : Result → Shared → Prop} {h : Heap} {gs : Array GenState} {dr : Drawn} {n : Nat} {os : OsState} {K : PySem.W.Frag} {y : Str} {u : Tok} {v : Value} {e C dx : Addr} {vs : Array Value} {cd : ClassData} {B nw ini : String} {T : List Value} {m : Str → Option Value} {ys : List Str}
theorem Over.ne (O : Over B nw ini T) (z : Value) : (z :: T).isEmpty = false := rfl
theorem oset_first (O : Over B nw ini T) (X : K.In h) (he : h.get? e = some { cls := .ref C, data := .fields vs }) (hc : PySem.W.clsIn K C = some cd) (hm : cd.mro = .ref C :: T) (hd : cd.hasDict = true) (hn : PySem.W.findIn K (.ref C) y = some none)
    (q : ∀ h' u' dx, (∀ b o, b ≠ e → h.get? b = some o → h'.get? b = some o) → h.objs.size ≤ dx → dx ≠ e → h'.get? e = some { cls := .ref C, dict := some dx, data := .fields vs } →
      h'.Ns1 dx (fun z => if z = y then some v else none) → R (.ok (.ret .none)) ⟨h', gs, dr, u', os⟩) :
    codeAny (model pr wo) Ar (.call (.builtin "object.__setattr__") ⟨[.ref e, .str y u, v], []⟩) R ⟨h, gs, dr, n, os⟩ := by
  have J : PySem.W.InstAt h e { cls := .ref C, data := .fields vs } C none := ⟨he, rfl, rfl, trivial⟩
  have S := PySem.F.store_object
  have isO : (.ref C :: T : List Value).contains (.type "object") = true := by rw [List.contains_cons, O.obj, Bool.or_true]
  have apart : e ≠ h.objs.size := Nat.ne_of_lt (Heap.lt_size he)
  have sb : PySem.W.Looks (model pr wo) h (isInstance (.ref e) (.type "object")) true :=
    J.type.andThen (PySem.W.looks_mroIn X (by unfold PySem.W.mroIn; rw [hc, Option.bind_some, hm, if_neg (by rw [O.ne]; decide), isO]))
  refine codeAny_call_builtin S.slot.plain S.entry (@PySem.W.check_slot (model pr wo) _ _ ⟨h, gs, dr, n, os⟩ "object.__setattr__" "object" "__setattr__" (.ref e) [.str y u, v] [] _ S.kind S.split sb (S.args (.ref e) (.str y u) v) ?_)
  have lm : PySem.W.Looks (model pr wo) h (mroOf (.ref C)) cd.mro := (PySem.W.looks_clsIn X hc).andThen .now
  have ls : PySem.W.Looks (model pr wo) h (storeTaker? none) none := .now
  have lc : PySem.W.Looks (model pr wo) h (classData C) cd := PySem.W.looks_clsIn X hc
  rw [PySem.W.osa_eq, refuse_eq]
  refine wpAny_bind (wpAny_bind (J.type.at (wpAny_bind (lm.at ?_))))
  rw [hm, refuseLoop_ref, O.pass]
  refine wpAny_pure (wpAny_bind (J.type.at (wpAny_bind ((PySem.W.looks_findIn X hn).at (wpAny_bind (ls.at ?_))))))
  show wpAny _ _ (storeInOwnDict (.ref e) (.ref C) (.str y u) y v false) _ _ _
  obtain ⟨_, _, _, _, _, hd', _, _, _, _, _⟩ := cd
  dsimp only at hd
  subst hd
  unfold storeInOwnDict ownDictForStores
  repeat (first
    | with_reducible refine PySem.HandSPX.store_in_new ?_ ?_
    | with_reducible refine wpAny_loadPart_at he ?_
    | with_reducible refine lc.at ?_
    | wp_step)
  · exact ⟨_, #[], _, (Heap.get?_update_ne _ _ _ _ apart.symm).trans (Heap.get?_push_at rfl rfl), rfl, fun z hz => absurd hz (by simp), fun _ => rfl⟩
  · intro h' u' hn' hs
    have he2 : (h.push { cls := .type "dict", data := .dict #[] }).get? e = some { cls := .ref C, data := .fields vs } := Heap.get?_push_of_some _ he
    refine q h' u' h.objs.size (fun b o hb ho => ?_) (Nat.le_refl _) apart.symm ?_ hn'
    · exact (hs.2 b (Nat.ne_of_lt (Heap.lt_size ho))).trans ((Heap.get?_update_ne _ _ _ _ hb).trans (Heap.get?_push_of_some _ ho))
    · exact (hs.2 e apart).trans (Heap.get?_update_self _ he2 rfl)
theorem oset_next (O : Over B nw ini T) (X : K.In h) (he : h.get? e = some { cls := .ref C, dict := some dx, data := .fields vs }) (hx : h.Ns1 dx m) (hw : Within m ys) (hz : ys.length ≤ 1000) (hc : PySem.W.clsIn K C = some cd) (hm : cd.mro = .ref C :: T) (hd : cd.hasDict = true)
    (hn : PySem.W.findIn K (.ref C) y = some none) (q : ∀ h' u', (∀ b o, b ≠ dx → h.get? b = some o → h'.get? b = some o) → h'.Ns1 dx (fun z => if z = y then some v else m z) → R (.ok (.ret .none)) ⟨h', gs, dr, u', os⟩) :
    codeAny (model pr wo) Ar (.call (.builtin "object.__setattr__") ⟨[.ref e, .str y u, v], []⟩) R ⟨h, gs, dr, n, os⟩ := by
  obtain ⟨oD, _, _, hoD, _, _⟩ := hx.count hw
  have J : PySem.W.InstAt h e { cls := .ref C, dict := some dx, data := .fields vs } C (some oD) := ⟨he, rfl, rfl, hoD⟩
  have S := PySem.F.store_object
  have isO : (.ref C :: T : List Value).contains (.type "object") = true := by rw [List.contains_cons, O.obj, Bool.or_true]
  have sb : PySem.W.Looks (model pr wo) h (isInstance (.ref e) (.type "object")) true :=
    J.type.andThen (PySem.W.looks_mroIn X (by unfold PySem.W.mroIn; rw [hc, Option.bind_some, hm, if_neg (by rw [O.ne]; decide), isO]))
  refine codeAny_call_builtin S.slot.plain S.entry (@PySem.W.check_slot (model pr wo) _ _ ⟨h, gs, dr, n, os⟩ "object.__setattr__" "object" "__setattr__" (.ref e) [.str y u, v] [] _ S.kind S.split sb (S.args (.ref e) (.str y u) v) ?_)
  have lm : PySem.W.Looks (model pr wo) h (mroOf (.ref C)) cd.mro := (PySem.W.looks_clsIn X hc).andThen .now
  have ls : PySem.W.Looks (model pr wo) h (storeTaker? none) none := .now
  have lc : PySem.W.Looks (model pr wo) h (classData C) cd := PySem.W.looks_clsIn X hc
  rw [PySem.W.osa_eq, refuse_eq]
  refine wpAny_bind (wpAny_bind (J.type.at (wpAny_bind (lm.at ?_))))
  rw [hm, refuseLoop_ref, O.pass]
  refine wpAny_pure (wpAny_bind (J.type.at (wpAny_bind ((PySem.W.looks_findIn X hn).at (wpAny_bind (ls.at ?_))))))
  show wpAny _ _ (storeInOwnDict (.ref e) (.ref C) (.str y u) y v false) _ _ _
  obtain ⟨_, _, _, _, _, hd', _, _, _, _, _⟩ := cd
  dsimp only at hd
  subst hd
  unfold storeInOwnDict ownDictForStores
  repeat (first
    | with_reducible refine PySem.OEX.store_in_old hx hw hz ?_
    | with_reducible refine wpAny_loadPart_at he ?_
    | with_reducible refine lc.at ?_
    | wp_step)
  intro h' u' hn' hs
  exact q h' u' (fun b o hb ho => (hs.2 b hb).trans ho) hn'
end
/-- what the written part says of an own exception's class -/
structure OxC (K : PySem.W.Frag) (C : Addr) (B nw ini : String) (T : List Value) : Prop where
  over : Over B nw ini T
  cls : ∃ nm q N bs sn sub ab col dd k0 k1 k2 k3 k5, K.lookup C = some (excClassObj nm q C N bs T true sn sub ab col dd k0 k1 k2 k3 k5 nw)
  sa : PySem.W.findIn K (.ref C) "__setattr__" = some (some (.builtin "object.__setattr__"))
  exC : PySem.W.subIn K (.ref C) (.type "BaseException") = some true
  tyC : PySem.W.typeIn K (.ref C) = some (.type "type")
  kC : PySem.W.keepIn K (.ref C) = true
section
variable {K : PySem.W.Frag} {C : Addr} {B nw ini : String} {T : List Value}
theorem OxC.data (Z : OxC K C B nw ini T) : ∃ cd, PySem.W.clsIn K C = some cd ∧ cd.mro = .ref C :: T ∧ cd.hasDict = true := by
  obtain ⟨nm, q, N, bs, sn, sub, ab, col, dd, k0, k1, k2, k3, k5, hC⟩ := Z.cls
  refine ⟨{ name := nm, bases := bs, mro := .ref C :: T, ns := N, qualname := q, hasDict := true, slotNames := sn, subclasses := sub, abstract := ab, collection := col, hasDel := false }, ?_, rfl, rfl⟩
  unfold PySem.W.clsIn
  rw [hC] <;> rfl
end
section
variable {X : Cx} {pins : List (Addr × Obj)} {σ : L2.St} {H : Hp} {s : Shared} {a C dx : Addr} {f : Str} {y : V} {u : Value} {fs : List (Str × V)} {Q : Unit → Shared → Prop} {E : Value → Shared → Prop} {A : Around} {B nw ini : String} {T : List Value}
/-- self.f = y, the first of its fields -/
theorem xset_first (Z : OxC X.K C B nw ini T) (I : Inv X pins σ H s) (e : H a = some (exo a C none)) (hno : PySem.W.findIn X.K (.ref C) f = some none) (ry : RelV y u)
    (h : ∀ dx s', H dx = none → dx ≠ a → Inv X pins σ (upd (upd H dx (exd dx [(f, y)])) a (exo a C (some dx))) s' → Q () s') : wpAny (model X.prog X.w) A (setAttr (.ref a) f u) Q E s := by
  obtain ⟨cd, hcl, hm, hd⟩ := Z.data
  obtain ⟨t1, ho⟩ := exo_at I.hok e
  obtain ⟨hp, g, d, t, os⟩ := s
  refine PySem.W.set_plain I.kIn (ox := { cls := .ref C, dict := none, data := .fields #[.ref t1, .none, .none, .none, .bool false, .none] }) (od := none) ⟨ho, rfl, rfl, trivial⟩ Z.sa ?_
  refine oset_first Z.over I.kIn ho hcl hm hd hno (fun h' tk' dx k dn dne hx hn => ?_)
  have nD : H dx = none := I.hok.fresh dn
  have lo : ∀ {b : Addr} {o : Obj}, hp.get? b = some o → b ≠ dx := fun {b o} q => Nat.ne_of_lt (Nat.lt_of_lt_of_le (Heap.lt_size q) dn)
  have off : ∀ {b : Addr}, H b = none → b ≠ a := fun {b} n z => by rw [z, e] at n; cases n
  have U : Un X.fs [] H (upd (upd H dx (exd dx [(f, y)])) a (exo a C (some dx))) hp h' :=
    ⟨fun b o q n _ _ => k b o (off n) q, fun b o q n _ _ => ⟨o.slots, k b o (off n) q⟩, fun b o q n _ => by rw [upd_ne (off n), upd_ne (lo q)]; exact n,
     fun b o q _ => by
      by_cases hb : b = a
      · exact ⟨_, by rw [hb]; exact hx⟩
      · exact ⟨o, k b o hb q⟩,
     fun b xs q => by rw [upd_ne (at_ne e q exo_tup), upd_ne (ne_of_none q nD)]; exact q,
     fun b o v q => by rw [upd_ne (at_ne e q exo_frz), upd_ne (ne_of_none q nD)]; exact q,
     fun b ps q => ⟨#[], by rw [upd_ne (at_ne e q exo_tbl), upd_ne (ne_of_none q nD), q]; simp⟩⟩
  refine h dx _ nD dne (I.un (t' := tk') U fun b o q => ?_)
  by_cases hb : b = a
  · subst hb
    rw [upd_same] at q
    cases q
    exact exo_ok hx
  rw [upd_ne hb] at q
  by_cases hd2 : b = dx
  · subst hd2
    rw [upd_same] at q
    cases q
    exact exd_ok hn (relO_put (fs := []) ry fun g => True.intro)
  rw [upd_ne hd2] at q
  refine (I.hok b o q).stay (fun c v hc z => k c v ?_ z) (fun c hc => by rw [upd_ne (at_ne e hc exo_own), upd_ne (ne_of_none hc nD)]; exact hc) (fun c xs hc => by rw [upd_ne (at_ne e hc exo_tup), upd_ne (ne_of_none hc nD)]; exact hc)
  rcases hc with hc | hc
  · rw [hc]; exact hb
  · exact at_ne e hc exo_own
/-- .. a further one -/
theorem xset_next (Z : OxC X.K C B nw ini T) (I : Inv X pins σ H s) (e : H a = some (exo a C (some dx))) (ed : H dx = some (exd dx fs)) (hl : fs.length ≤ 900) (hno : PySem.W.findIn X.K (.ref C) f = some none) (ry : RelV y u)
    (h : ∀ s', Inv X pins σ (upd H dx (exd dx ((f, y) :: fs))) s' → Q () s') : wpAny (model X.prog X.w) A (setAttr (.ref a) f u) Q E s := by
  obtain ⟨cd, hcl, hm, hd⟩ := Z.data
  obtain ⟨t1, ho⟩ := exo_at I.hok e
  obtain ⟨mA, hns, rel⟩ := exd_at I.hok ed
  have hw := within_of rel
  obtain ⟨hp, g, d, t, os⟩ := s
  obtain ⟨oD, _, _, hoD, _, _⟩ := hns.count hw
  refine PySem.W.set_plain I.kIn (ox := { cls := .ref C, dict := some dx, data := .fields #[.ref t1, .none, .none, .none, .bool false, .none] }) (od := some oD) ⟨ho, rfl, rfl, hoD⟩ Z.sa ?_
  refine oset_next Z.over I.kIn ho hns hw (by rw [List.length_map]; omega) hcl hm hd hno (fun h' tk' k hn => ?_)
  have th : ∃ o, h'.get? dx = some o := hn.imp fun o ⟨_, _, e', _⟩ => e'
  exact h _ (I.write (t' := tk') (x := dx) (e := dx) (o := exd dx ((f, y) :: fs)) (by rw [ed]; exact True.intro) (.inl rfl) k th (exd_ok hn (relO_put ry rel)))
/-- B.__init__(self, ..): nothing of it is told -/
theorem xinit_run {us : List Value} {Q : Value → Shared → Prop} (Z : OxC X.K C B nw ini T) (I : Inv X pins σ H s) (e : H a = some (exo a C none)) (hl : us.length ≤ sizeLine) (h : ∀ s', Inv X pins σ H s' → Q .none s') :
    wpAny (model X.prog X.w) A (call (.builtin ini) (.ref a :: us)) Q E s := by
  obtain ⟨nm, q, N, bs, sn, sub, ab, col, dd, k0, k1, k2, k3, k5, hC⟩ := Z.cls
  obtain ⟨t1, ho⟩ := exo_at I.hok e
  obtain ⟨hp, g, d, t, os⟩ := s
  refine wpAny_call (PySem.HandSPX.init_base Z.over.facts (fun _ => rfl) (I.kIn _ _ hC) ho hl fun h' t2 k hx => ?_)
  have J := I.write (t' := t) (x := a) (e := a) (o := exo a C none) (by rw [e]; exact True.intro) (.inl rfl) k ⟨_, hx⟩ (exo_ok hx)
  rw [show upd H a (exo a C none) = H from funext fun b => by
    by_cases hb : b = a
    · rw [hb, upd_same, e]
    · rw [upd_ne hb]] at J
  exact h _ J
end
/-! ### readings and rules -/
def tXi (K : PySem.W.Frag) (B nw ini : String) (T : List Value) (ta : TA) : TE := fun σ H Q => ta σ H fun vs H1 => ∃ (a C : Addr) (ws : List V), vs = .ref a :: ws ∧ ws.length ≤ 1000 ∧ OxC K C B nw ini T ∧ H1 a = some (exo a C none) ∧ Q .non H1
def tXs (K : PySem.W.Frag) (B nw ini : String) (T : List Value) (f : Str) (to te : TE) : TS := fun D σ H => te σ H fun y H1 => to σ H1 fun x H2 => ∃ a C : Addr, x = .ref a ∧ OxC K C B nw ini T ∧ PySem.W.findIn K (.ref C) f = some none ∧
  ((H2 a = some (exo a C none) ∧ ∀ dx, H2 dx = none → dx ≠ a → D.nx σ (upd (upd H2 dx (exd dx [(f, y)])) a (exo a C (some dx)))) ∨
    ∃ (dx : Addr) (fs : List (Str × V)), H2 a = some (exo a C (some dx)) ∧ H2 dx = some (exd dx fs) ∧ fs.length ≤ 900 ∧ D.nx σ (upd H2 dx (exd dx ((f, y) :: fs))))
section
variable {X : Cx} {o e : Expr} {es : List Expr} {to te : TE} {ta : TA} {f : Str} {p p' p1 p2 pos : Pos} {B nw ini : String} {T : List Value}
theorem pe_xinit {pl : Sem Bool} {Bs : Str} (hg : Gl X Bs) (hm : X.mg Bs = none) (vV : PySem.W.findCls X.K (.type B) (.type "type") "__init__" = some (.val (.builtin ini))) (ha : PA X (e :: es) ta)
    (hc : eval (.Call (.Attribute (.Name Bs p1) "__init__" p2) (e :: es) [] pos) X.env = (do
      let ov ← eval (.Name Bs p1) X.env
      standAt p2.atName
      let (f, first) ← holding [ov] (getMethod ov "__init__" pl)
      callWith pos f first (backTo pos (starEach (e :: es) X.env)) (backToKw pos (keywordEach [] X.env))) := by rfl)
    (he : starEach (e :: es) X.env = (false, eval e X.env) :: starEach es X.env := by rfl) (hpl : (backTo pos (starEach es X.env)).any (·.1) = false := by rfl)
    (hB : bootBuiltins Bs = some (.type B) := by decide +kernel) (hn1 : Bs ≠ "__name__" := by decide) (hn2 : (Bs == ("__debug__" : Str)) = false := by decide) (hty : typeOf (.type B) = pure (.type "type") := by kernel_rfl)
    (hst : Manifest.isStub B = false := by decide +kernel) (hhi : PySem.W.handedIn (.builtin ini) = true := by decide +kernel) :
    PE X (.Call (.Attribute (.Name Bs p1) "__init__" p2) (e :: es) [] pos) (tXi X.K B nw ini T ta) := by
  refine ⟨fun pins s σ H Q I h => ?_⟩
  refine PySem.W.methodCall_KW (ld_blt I hg hm hB ?_ hn1 hn2) hc
  obtain ⟨m, fr⟩ := I.fr
  refine PySem.W.method_type fr I.ok.mod.kin hty hst vV hhi ?_
  show wpAny _ _ (callWith pos (Value.builtin ini) [] (backTo pos (starEach (e :: es) X.env)) []) _ _ _
  refine PyProof.Rows.callWith_method1 (thn (ha.run pos pins _ σ H _ (I.tok _) h) fun us s1 ⟨vs, H1, I1, r1, a, C, ws, ev, hl, Z, ea, q⟩ => ?_) he hpl
  subst ev
  cases r1 with
  | @cons _ z0 _ zs rz rr =>
    obtain rfl : z0 = Value.ref a := rz
    exact xinit_run Z I1 ea (by rw [← Paired.length rr, sizeLine_eq]; omega) fun s' J => ⟨.non, H1, J, rfl, q⟩
theorem ps_xset (ho : PE X o to) (he : PE X e te) (hs : swapsWith e (some (.Attribute o f p')) pos.line X.env = pure false := by rfl) : PS X (.Assign [.Attribute o f p'] e pos) (tXs X.K B nw ini T f to te) := by
  refine ⟨fun pins s σ H D I h => ?_⟩
  refine plainObj_wpAny_Assign_Attribute (thn (he.run pins s σ H _ I h) fun v s1 ⟨y, H1, I1, r1, q1⟩ => thn (ho.run pins s1 σ H1 _ I1 q1) fun u s2 ⟨x, H2, I2, r2, a, C, ex, Z, hno, q⟩ => ?_) hs
  subst ex
  obtain rfl : u = Value.ref a := r2
  exact q.elim (fun ⟨ea, q⟩ => xset_first Z I2 ea hno r1 fun dx s' n ne J => ⟨σ, _, J, q dx n ne⟩) fun ⟨dx, fs, ea, ed, hl, q⟩ => xset_next Z I2 ea ed hl hno r1 fun s' J => ⟨σ, _, J, q⟩
theorem pmk_xex {CX : CXT} {x : Str} {C fI : Addr} {k : Nat} {fd : FuncData} {ps : List Str} {sp : Sp} (Z : OxC X.K C B nw ini T) (iC : PySem.W.findIn X.K (.ref C) "__init__" = some (some (.ref fI))) (tI : PySem.W.typeIn X.K (.ref fI) = some (.type "function"))
    (hG : X.A.guards = some []) (F1 : FnG X.prog X.w X.K X.mg X.base CX k fI fd ps sp) (hr : Room (k + 1) X.A) (hb : Binds X.K fd ps []) (hx : Passes CX X (fun _ _ _ => False)) (hg : Gl X x) (hm : X.mg x = some (.ref C)) (ha : PA X (e :: es) ta)
    (hdb : (x == ("__debug__" : Str)) = false := by decide) (he : starEach (e :: es) X.env = (false, eval e X.env) :: starEach es X.env := by rfl) (hpl : (backTo pos (starEach es X.env)).any (·.1) = false := by rfl) :
    PMk X (.Call (.Name x p) (e :: es) [] pos) (tMkO C sp [] ta) := by
  intro pins s σ H Q I h
  obtain ⟨nm, q, N, bs, sn, sub, ab, col, dd, k0, k1, k2, k3, k5, hC⟩ := Z.cls
  refine wpAny_Call_Name_kw (ld_glob I hg hm ?_ hdb)
  refine PySem.W.callWith_K (h₀ := X.base) I.ok.mod.kin Z.kC (thn (ha.run pos pins s σ H _ I h) fun us s1 ⟨vs, H1, I1, r1, hz, q1⟩ => ⟨I1.kIn, ?_⟩) he hpl
  show wpAny _ _ (call (.ref C) us) _ _ _
  obtain ⟨hp, g, dr, tk, os⟩ := s1
  have le1 : hp.objs.size ≤ hp.objs.size + 1 := Nat.le_succ _
  have free1 : H1 (hp.objs.size + 1) = none := I1.hok.fresh le1
  have hq := q1 (hp.objs.size + 1) free1
  have keep1 : ∀ b o, hp.get? b = some o → ((hp.push (PySem.W.kdv_tup us)).push (PySem.HandSPX.excO C hp.objs.size)).get? b = some o := fun b o z => Heap.get?_push_of_some _ (Heap.get?_push_of_some _ z)
  have at1 : ((hp.push (PySem.W.kdv_tup us)).push (PySem.HandSPX.excO C hp.objs.size)).get? (hp.objs.size + 1) = some (PySem.HandSPX.excO C hp.objs.size) := by heap_get
  have I2 : Inv X pins σ (upd H1 (hp.objs.size + 1) (exo (hp.objs.size + 1) C none)) ⟨(hp.push (PySem.W.kdv_tup us)).push (PySem.HandSPX.excO C hp.objs.size), g, dr, tk, os⟩ :=
    I1.laid (t' := tk) (a := hp.objs.size + 1) (o := exo (hp.objs.size + 1) C none) (h' := (hp.push (PySem.W.kdv_tup us)).push (PySem.HandSPX.excO C hp.objs.size)) keep1 le1 (exo_ok at1)
  have r2 : Vals (V.ref (hp.objs.size + 1) :: (vs ++ [])) (Value.ref (hp.objs.size + 1) :: us ++ []) := .cons rfl (r1.append .nil)
  have hl : (Value.ref (hp.objs.size + 1) :: us ++ []).length = ps.length := r2.length.symm.trans (F1.len _ _ _ _ hq)
  refine wpAny_call (PySem.HandSPX.call_own Z.over.facts (fun _ => rfl) (I1.kIn _ _ hC) (PySem.W.looks_findIn I1.kIn iC) (fun self => PySem.W.bind_fn I1.kIn self tI) (by rw [← Paired.length r1, sizeLine_eq]; omega)
    (codeAny_mono (F1.go _ X.stack _ _ ⟨Value.ref (hp.objs.size + 1) :: us, []⟩ (Value.ref (hp.objs.size + 1) :: us ++ []) _ _ (fun _ _ _ => False) hG (hr.make C us []) (I2.env0.make C us []) (hb _ (Value.ref (hp.objs.size + 1) :: us) I2.kIn hl) r2 hq) fun r s' hq' => ?_))
  cases r with
  | error er => exact hx pins σ _ _ er s' I2 hq'
  | ok fl =>
    cases fl with
    | ret z =>
      obtain ⟨v, H2, os2, bare2, un2, hok2, rv, ev, d, fs, ea, ed, hd1, q2⟩ := hq'
      subst ev
      obtain ⟨h2, g2, d2, t2, os'⟩ := s'
      exact ⟨rv, mk_end (raises_own Z.exC Z.tyC) I1 le1 keep1 un2 hok2 os2 bare2 ea ed hd1 q2⟩
    | next => exact False.elim hq'
    | brk => exact False.elim hq'
    | cont => exact False.elim hq'
end
/-! ### {x!r} of any thing -/
/-- z is the text that repr tells of x -/
inductive Shown (K : PySem.W.Frag) (H : Hp) : V → Str → Prop
  | str (y : Str) : Shown K H (.str y) (reprText y)
  | int (i : Int) (h : i.natAbs.log2 < 1920) : Shown K H (.int i) (toString i)
  | bl (b : Bool) : Shown K H (.bl b) (if b then "True" else "False")
  | non : Shown K H .non "None"
  | dat {a : Addr} {d : PyData} (h : Shows K H a d) (h1 : d.showable = true) (h2 : d.depth ≤ 60) : Shown K H (.ref a) d.shown
section
variable {X : Cx} {e : Expr} {te : TE} {pos : Pos}
def tFmtA (K : PySem.W.Frag) (te : TE) : TE := fun σ H Q => te σ H fun x H1 => ∃ z : Str, Shown K H1 x z ∧ z.length ≤ sizeLine ∧ Q (.str z) H1
theorem shows_reads {pins : List (Addr × Obj)} {σ : L2.St} {H : Hp} {s : Shared} {a : Addr} {d : PyData} (I : Inv X pins σ H s) (h : Shows X.K H a d) : ∃ as, Reads s.heap (.ref a) d as ∧ (d.hasDict = true → sysModules ∉ as) := by
  cases h with
  | seq h1 h2 =>
    obtain ⟨as, q1⟩ := Dp.reads I d _ _ h1 rfl
    exact ⟨as, q1, fun z => by rw [h2] at z; cases z⟩
  | dct h1 h2 =>
    obtain ⟨_, ns, vs, kv, o, es, ep, e1, e2, e3, _, e5, _⟩ := I.hok a _ h1
    obtain ⟨q1, q2⟩ := dct_reads (h := s.heap) h2 kv e5
    refine ⟨_, Reads.dict e1 e2.1 e3 q1 q2, fun _ z => ?_⟩
    simp at z
    rw [← z] at ns
    simp at ns
theorem pe_fmtA (hG : X.A.guards = some []) (hu : X.A.units + 70 < cLine) (he : PE X e te) : PE X (.FormattedValue e 114 none pos) (tFmtA X.K te) := by
  refine ⟨fun pins s σ H Q I h => ?_⟩
  refine wpAny_FormattedValue_repr (thn (he.run pins s σ H _ I h) fun v s1 hv => ?_)
  obtain ⟨x, H1, I1, r1, z, hs, hz, q⟩ := hv
  cases hs with
  | str y =>
    obtain ⟨t, rfl⟩ := r1
    exact pyReprObj_str (wpAny_formatField_str ⟨.str _, H1, I1.tok _, ⟨_, rfl⟩, q⟩ ⟨.str _, H1, I1.tok _, ⟨_, rfl⟩, q⟩ hz) hz
  | int i hi =>
    obtain ⟨t, rfl⟩ := r1
    exact pyReprObj_int hi (wpAny_formatField_str ⟨.str _, H1, I1.tok _, ⟨_, rfl⟩, q⟩ ⟨.str _, H1, I1.tok _, ⟨_, rfl⟩, q⟩ hz)
  | bl b =>
    cases r1
    refine pyReprObj_bool (wpAny_formatField_str ⟨.str _, H1, I1.tok _, ⟨_, rfl⟩, q⟩ ⟨.str _, H1, I1.tok _, ⟨_, rfl⟩, q⟩ hz)
  | non =>
    cases r1
    exact pyReprObj_none (wpAny_formatField_str ⟨.str _, H1, I1.tok _, ⟨_, rfl⟩, q⟩ ⟨.str _, H1, I1.tok _, ⟨_, rfl⟩, q⟩ hz)
  | dat h h1 h2 =>
    cases r1
    obtain ⟨as, rd, sm⟩ := shows_reads I1 h
    refine pyReprObj_of_reads rd h1 sm hG (by omega) (fun _ _ e => e) (fun h' u tk hk => ?_) hz
    have J := I1.kept (t' := tk) hk
    exact wpAny_formatField_str ⟨.str _, H1, J, ⟨_, rfl⟩, q⟩ ⟨.str _, H1, J.tok _, ⟨_, rfl⟩, q⟩ hz
end
end Any
namespace Any
open L2 PySem PySem.Spec PyProof.Rows
/-! ### defs that may raise, where no repr is under way -/
section
variable {P : Program} {w : World} {K : PySem.W.Frag} {mg : Str → Option Value} {base : Heap}
theorem fun_gX {x ql : Str} {st : Stmt} {f : Addr} {fd : FuncData} {N ps : List Str} {k : Nat} {sp : Sp} (F : Fun K x ql st f fd) (S : FnScope N ps (defScope st)) (ln : ∀ vs H Q E, sp vs H Q E → vs.length = ps.length)
    (hb : ∀ (cv : Value) (A : Around) (out : List Env) (s : Shared) (H : Hp) (vs : List V) (Q : VK) (E : XK), A.guards = some [] → Room k (A.deeper (envOfC ql (defScope st) s.heap.objs.size f cv)) → sp vs H Q E →
      ∃ t, PSs (cxOf (L2.CX P w) P w K mg base N ql (defScope st) f cv A out s H E) (defBody st) t ∧ t ⟨fun _ H' => Q .non H', Q, fun _ _ => False, fun _ _ => False⟩ (L2.start N vs) H) : FnG P w K mg base (L2.CX P w) (k + 1) f fd ps sp := by
  obtain ⟨_, _, _, _, _, _, cv, _, _, rfl, lk, hc⟩ := F.ex
  exact fn_g lk hc S ln fun A out s H vs Q E hg hr hs => hb cv A out s H vs Q E hg hr hs
end
section
variable {X : Cx} {C : CXT} {k : Nat} {f D : Addr} {fd : FuncData} {ps : List Str} {sp : Sp} {E : XK} {m : Str} {p pos apos : Pos} {o e : Expr} {es : List Expr} {t : TA} {ta : TE}
theorem run_fnG {pins : List (Addr × Obj)} {σ : L2.St} {H : Hp} {s : Shared} {us : List Value} {vs : List V} {Q : VK} (F : FnG X.prog X.w X.K X.mg X.base C k f fd ps sp) (hG : X.A.guards = some []) (hr : Room k X.A) (hb : Binds X.K fd ps []) (hx : Passes C X E)
    (I : Inv X pins σ H s) (rv : Vals vs us) (q : sp vs H Q E) : wpAny (model X.prog X.w) X.A (call (.ref f) us) (EP X pins σ Q) X.xe s := by
  have hl : us.length = ps.length := rv.length.symm.trans (F.len _ _ _ _ q)
  have bi := hb s us I.kIn (by rw [List.append_nil]; exact hl)
  rw [List.append_nil] at bi
  refine wpAny_call (codeAny_mono (F.go X.A X.stack s H ⟨us, []⟩ us vs Q E hG hr I.env0 bi rv q) ?_)
  rintro (err | fl) s' hq
  · exact hx pins σ H s err s' I hq
  · cases fl with
    | ret u => exact I.after hq
    | next => cases hq
    | brk => cases hq
    | cont => cases hq
theorem pe_methG {pl : Sem Bool} (he : PE X o ta) (c : Cls X.K D) (hm : Meth X.K D m f) (F : FnG X.prog X.w X.K X.mg X.base C k f fd ps sp) (hG : X.A.guards = some []) (hr : Room k X.A) (hb : Binds X.K fd ps []) (hx : Passes C X E) (ha : PA X (e :: es) t)
    (hst : starEach (e :: es) X.env = (false, eval e X.env) :: starEach es X.env := by rfl) (hpl : (backTo pos (starEach es X.env)).any (·.1) = false := by rfl)
    (ht : eval (.Call (.Attribute o m apos) (e :: es) [] pos) X.env = (do
      let ov ← eval o X.env
      standAt apos.atName
      let (f, first) ← holding [ov] (getMethod ov m pl)
      callWith pos f first (backTo pos (starEach (e :: es) X.env)) (backToKw pos (keywordEach [] X.env))) := by rfl) :
    PE X (.Call (.Attribute o m apos) (e :: es) [] pos) (tMeth D m sp [] E ta t) := by
  refine ⟨fun pins s σ H Q I h => ?_⟩
  refine PySem.W.methodCall_KW (pl := pl) (thn (he.run pins s σ H _ I h) fun u s1 ⟨x, H1, I1, rx, a, dx, fs, ex, ea, l, q⟩ => ?_) ht
  subst ex
  obtain rfl : u = Value.ref a := rx
  refine getmeth_ok I1 ea c hm l ?_
  refine PySem.W.callWith_K (first := [.ref a]) (h₀ := X.base) I.ok.mod.kin hm.kp (thn (ha.run pos pins s1 σ H1 _ I1 q) fun us s2 ⟨vs, H2, I2, r, q2⟩ => ⟨I2.kIn, ?_⟩) hst hpl
  have q2 : sp (V.ref a :: (vs ++ [])) H2 Q E := q2
  rw [List.append_nil] at q2
  exact run_fnG (us := .ref a :: us) (vs := .ref a :: vs) F hG hr hb hx I2 (.cons rfl r) q2
theorem pe_callGX {x : Str} (F : FnG X.prog X.w X.K X.mg X.base C k f fd ps sp) (hG : X.A.guards = some []) (hr : Room k X.A) (hg : Gl X x) (hm : X.mg x = some (.ref f)) (hk : PySem.W.keepIn X.K (.ref f) = true) (hb : Binds X.K fd ps []) (hx : Passes C X E) (ha : PA X (e :: es) t)
    (h1 : (x == ("__debug__" : Str)) = false := by decide) (h2 : starEach (e :: es) X.env = (false, eval e X.env) :: starEach es X.env := by rfl) (h3 : (backTo pos (starEach es X.env)).any (·.1) = false := by rfl) :
    PE X (.Call (.Name x p) (e :: es) [] pos) (tCall sp [] E t) := pe_callG F hG hr hg hm hk hb .nil hx ha h1 h2 h3
end
/-- C's __init__ puts what it is given into its field f -/
def spX1 (C : Addr) (f : Str) (ok : Hp → V → Prop) : Sp := fun vs H Q _ => ∃ a y, vs = [.ref a, y] ∧ ok H y ∧ H a = some (exo a C none) ∧
  ∀ dx, H dx = none → dx ≠ a → Q .non (upd (upd H dx (exd dx [(f, y)])) a (exo a C (some dx)))
/-- what comes of raise C(y) -/
theorem x1_made {C : Addr} {f : Str} {ok : Hp → V → Prop} {H : Hp} {y : V} {E : XK} (hy : ∀ H', Same H H' → ok H' y) (h : ∀ d H', Same H H' → H' d = some (.xd [(f, y)]) → E (.ref C) (some d) H') :
    ([y] : List V).length ≤ 1000 ∧ ∀ a, H a = none → spX1 C f ok (.ref a :: ([y] ++ [])) (upd H a (exo a C none))
      (fun v H2 => v = .non ∧ ∃ (d : Addr) (fs : List (Str × V)), H2 a = some (exo a C (some d)) ∧ H2 d = some (exd d fs) ∧ H d = none ∧ E (.ref C) (some d) (upd (del H2 a) d (.xd fs))) (fun _ _ _ => False) := by
  refine ⟨by show 1 ≤ 1000; decide, fun a ha => ⟨a, y, rfl, hy _ (fun b u q => by rw [upd_ne (ne_of_none q ha)]; exact q), upd_same, fun dx h1 h2 => ⟨rfl, dx, [(f, y)], upd_same, ?_, ?_, ?_⟩⟩⟩
  · rw [upd_ne h2]
    exact upd_same
  · rw [upd_ne h2] at h1
    exact h1
  · refine h dx _ (fun b o hb => ?_) upd_same
    have hbd : b ≠ dx := by
      rw [upd_ne h2] at h1
      exact ne_of_none hb h1
    have hba : b ≠ a := ne_of_none hb ha
    rw [upd_ne hbd, del_ne hba, upd_ne hba, upd_ne hbd, upd_ne hba]
    exact hb
/-- things whose text is not long -/
def Small (K : PySem.W.Frag) (H : Hp) (y : V) : Prop := ∃ z : Str, Shown K H y z ∧ z.length ≤ 2000
end Any
namespace Any
open L2 PySem PySem.Spec PyProof.Rows LamX NdefX
theorem paired_snoc {α β : Type} {R : α → β → Prop} : ∀ {xs : List α} {ys : List β}, Paired R xs ys → ∀ {x : α} {y : β}, R x y → Paired R (xs ++ [x]) (ys ++ [y])
  | _, _, .nil, _, _, h => .cons h .nil
  | _, _, .cons r t, _, _, h => .cons r (paired_snoc t h)
/-! ### sizes of bodies (places.py) -/
mutual
def Sg.sz : Sg → Nat
  | .ifs _ a b => 1 + a.sz + b.sz
  | .fors _ _ a => 2 + a.sz
  | .call _ _ _ => 3
  | .set _ _ => 1
  | .say _ _ => 1
  | .hear _ => 1
def Bd.sz : Bd → Nat
  | .nil => 0
  | .cons s b => s.sz + b.sz
end
theorem Bd.ok_mem {xs ws rs : List Str} : ∀ {b : Bd} {s : Sg}, b.ok xs ws rs → s ∈ b.toL → s.ok xs ws rs
  | .nil, s, _, h => by unfold Bd.toL at h; cases h
  | .cons t b, s, h, m => by
    unfold Bd.ok at h
    unfold Bd.toL at m
    rcases List.mem_cons.mp m with e | m
    · rw [e]
      exact h.1
    · exact Bd.ok_mem h.2 m
theorem Bd.sz_eq : ∀ b : Bd, b.sz = (b.toL.map Sg.sz).sum
  | .nil => by unfold Bd.sz Bd.toL; rfl
  | .cons s b => by
    unfold Bd.sz Bd.toL
    rw [List.map_cons, List.sum_cons, Bd.sz_eq b]
abbrev sBSz : Stmt := top 37
abbrev sSSz : Stmt := top 38
abbrev sBeg : Stmt := top 39
theorem scBSz : FnScope ["body", "step"] ["body"] (defScope sBSz) := ⟨rfl, rfl, rfl, by decide +kernel, rfl, by decide +kernel, by decide +kernel⟩
theorem scSSz : FnScope ["step", "kind"] ["step"] (defScope sSSz) := ⟨rfl, rfl, rfl, by decide +kernel, rfl, by decide +kernel, by decide +kernel⟩
theorem scBeg : FnScope ["body", "at", "behind"] ["body", "at", "behind"] (defScope sBeg) := ⟨rfl, rfl, rfl, by decide +kernel, rfl, by decide +kernel, by decide +kernel⟩
def spSSz (n : Nat) : Sp := fun vs H Q _ => ∃ v s xs ws rs, vs = [v] ∧ SgAt H v s ∧ s.dp ≤ n ∧ s.ok xs ws rs ∧ ∀ H', Same H H' → Q (.int s.sz) H'
def spBSz (n : Nat) : Sp := fun vs H Q _ => ∃ a b xs ws rs, vs = [.ref a] ∧ BdAt H a b ∧ b.dp ≤ n ∧ b.ok xs ws rs ∧ b.len ≤ 12 ∧ ∀ H', Same H H' → Q (.int b.sz) H'
def spBeg : Sp := fun vs H Q _ => ∃ (a : Addr) (us : List V) (i j : Int), vs = [.ref a, .int i, .int j] ∧ H a = some (.tup us) ∧ Q (.int (if us = [] then j else i)) H
theorem sum_cast : ∀ l : List Nat, (l.map fun n : Nat => (n : Int)).sum = (l.sum : Nat)
  | [] => rfl
  | n :: r => by
    rw [List.map_cons, List.sum_cons, List.sum_cons, sum_cast r]
    omega
section
variable {P : Program} {w : World} {K : PySem.W.Frag} {mg : Str → Option Value} {base : Heap} {f g : Addr} {fd gd : FuncData}
theorem ok_beg (O : Own mg) (F : Fun K "begin_of" "begin_of" sBeg f fd) : FnOk P w K mg base CX0 1 f fd ["body", "at", "behind"] spBeg := by
  refine F.ok scBeg (fun vs H Q E h => ?_) (fun cdv A outer s H vs Q E hr h => ?_)
  · obtain ⟨a, us, i, j, rfl, _⟩ := h
    rfl
  obtain ⟨a, us, i, j, rfl, ha, q⟩ := h
  refine ⟨_, pss_cons (ps_if (pt_cmpR op_eq (pe_callB call_len_seq rfl O.len PySem.boot_len (pa_cons (pv 0) pa_nil)) pe_int (nomark _)) (pss_one (ps_ret (pv 2))) pss_nil) (pss_one (ps_ret (pv 1))), ?_⟩
  refine ⟨_, rfl, a, _, rfl, .inr (SqT.of ha), rfl, _, rfl, ite2 (fun c => ?_) (fun c => ?_)⟩
  · have c := V.int.inj (of_decide_eq_true c)
    rw [if_pos (List.eq_nil_of_length_eq_zero (by omega))] at q
    exact ⟨_, rfl, q⟩
  · rw [if_neg (fun z => c (decide_eq_true (by rw [z]; rfl)))] at q
    exact ⟨_, rfl, q⟩
theorem no_ssz {k : Nat} : FnOk P w K mg base CX0 k f fd ["step"] (spSSz 0) := by
  have no : ∀ vs H Q E, ¬ spSSz 0 vs H Q E := fun vs H Q E h => by
    obtain ⟨v, s, xs, ws, rs, _, _, hd, _⟩ := h
    exact absurd hd (Nat.not_le.mpr (Sg.dp_pos s))
  exact ⟨fun vs H Q E h => absurd h (no vs H Q E), fun A outer s H args us vs Q E _ _ _ _ h => absurd h (no vs H Q E)⟩
theorem ok_bsz {n k : Nat} (O : Own mg) (F : Fun K "body_size" "body_size" sBSz f fd) (G : FnOk P w K mg base CX0 k g gd ["step"] (spSSz n)) (bG : Binds K gd ["step"] []) (kG : PySem.W.keepIn K (.ref g) = true) (mG : mg "step_size" = some (.ref g)) :
    FnOk P w K mg base CX0 (k + 1) f fd ["body"] (spBSz n) := by
  refine F.ok scBSz (fun vs H Q E h => ?_) (fun cdv A outer s H vs Q E hr h => ?_)
  · obtain ⟨a, b, xs, ws, rs, rfl, _⟩ := h
    rfl
  obtain ⟨a, b, xs, ws, rs, rfl, ⟨us, ha, hu⟩, hd, ho, hl, q⟩ := h
  have hs : sizeLine = 16777216 := sizeLine_eq
  have hn := hu.len
  have hp := hu.paired
  refine ⟨_, pss_one (ps_ret (pe_callB (cr_sum rfl) rfl O.sum (by decide +kernel) (pa_cons (pe_lc (own := [("step", 1)]) (g := gName 1) (tt := tYes) rfl scBSz.nd (pi_tup (pv 0)) (blkOk_by (N := ["body", "step"]) (sc := defScope sBSz) (by decide +kernel))
    (fun _ _ _ _ _ => pg_name (i := 1) scBSz.nd rfl (Or.inl rfl)) (fun _ _ _ _ _ => pts_nil) (fun _ _ _ _ _ => pe_call G hr rfl mG kG bG .nil pass0 (pa_cons (pv 1) pa_nil))) pa_nil))), ?_⟩
  refine ⟨_, rfl, a, rfl, ⟨_, SqT.of ha⟩, fun C hC => ?_⟩
  refine lc_tup (K := K) (a := a) (xs := us) (fun i Hc => Hc C = some (.lst ((((b.toL.take i).map Sg.sz).map fun n : Nat => (n : Int)).map V.int)) ∧ Same H Hc) ⟨upd_same, same_new hC _⟩ (fun i Hc _ z => SqT.of (z.2 _ _ ha)) ?_ ?_
  · rintro i v Hc hv ⟨hc, sm⟩
    obtain ⟨st, hst, hat⟩ := paired_get hp hv
    have hi : i < us.length := (List.getElem?_eq_some_iff.mp hv).1
    have dn : st.dp ≤ n := Nat.le_trans (Bd.dp_mem (List.mem_of_getElem? hst)) hd
    have ok2 : st.ok xs ws rs := Bd.ok_mem ho (List.mem_of_getElem? hst)
    refine ⟨rfl, _, rfl, v, st, xs, ws, rs, rfl, SgAt.keep (Same.tups sm) st hat, dn, ok2, fun H4 s4 => ⟨_, s4 _ _ hc, ?_, ?_, fun c o hco => ?_⟩⟩
    · rw [List.length_map, List.length_map, List.length_map, List.length_take]
      omega
    · rw [upd_same, List.take_add_one, hst, List.map_append, List.map_append, List.map_append]
      rfl
    · rw [upd_ne (ne_of_none hco hC)]
      exact s4 _ _ (sm _ _ hco)
  · rintro Hc ⟨hc, sm⟩
    have hl2 : us.length = b.toL.length := paired_len hp
    rw [hl2, List.take_length] at hc
    refine ⟨C, _, rfl, SqL.of hc, ?_⟩
    rw [sum_cast, ← Bd.sz_eq]
    exact q Hc sm
end
end Any
namespace Any
open L2 PySem PySem.Spec PyProof.Rows LamX NdefX
section
variable {P : Program} {w : World} {K : PySem.W.Frag} {mg : Str → Option Value} {base : Heap} {f g : Addr} {fd gd : FuncData}
theorem ok_ssz {n k : Nat} (F : Fun K "step_size" "step_size" sSSz f fd) (G : FnOk P w K mg base CX0 k g gd ["body"] (spBSz n)) (bG : Binds K gd ["body"] []) (kG : PySem.W.keepIn K (.ref g) = true) (mG : mg "body_size" = some (.ref g)) :
    FnOk P w K mg base CX0 (k + 1) f fd ["step"] (spSSz (n + 1)) := by
  refine F.ok scSSz (fun vs H Q E h => ?_) (fun cdv A outer s H vs Q E hr h => ?_)
  · obtain ⟨v, st, xs, ws, rs, rfl, _⟩ := h
    rfl
  obtain ⟨v, st, xs, ws, rs, rfl, hv, hd, ho, q⟩ := h
  refine ⟨_, pss_cons (ps_set (i := 1) scSSz.nd rfl (Or.inl rfl) (pe_ix ix_tup (pv 0) pe_int (fun _ _ => rfl)))
    (pss_cons (ps_if (pt_cmpR op_eq (pv 1) pe_str (nomark _)) (pss_one (ps_ret (pe_op op_add (pe_op op_add pe_int (pe_call G hr rfl mG kG bG .nil pass0 (pa_cons (pe_ix ix_tup (pv 0) pe_int (fun _ _ => rfl)) pa_nil))) (pe_call G hr rfl mG kG bG .nil pass0 (pa_cons (pe_ix ix_tup (pv 0) pe_int (fun _ _ => rfl)) pa_nil))))) pss_nil)
    (pss_cons (ps_if (pt_cmpR op_eq (pv 1) pe_str (nomark _)) (pss_one (ps_ret (pe_op op_add pe_int (pe_call G hr rfl mG kG bG .nil pass0 (pa_cons (pe_ix ix_tup (pv 0) pe_int (fun _ _ => rfl)) pa_nil))))) pss_nil)
    (pss_cons (ps_if (pt_cmpR op_eq (pv 1) pe_str (nomark _)) (pss_one (ps_ret pe_int)) pss_nil) (pss_one (ps_ret pe_int))))), ?_⟩
  cases st with
  | ifs t a b =>
    unfold SgAt at hv
    unfold Sg.ok at ho
    unfold Sg.dp at hd
    obtain ⟨p, u, pb, pc, bs, cs, rfl, h1, h2, h3, h4, h5, h6⟩ := hv
    refine ⟨_, rfl, _, _, _, _, rfl, rfl, SqT.of h1, atI_nat (j := 0) rfl, _, rfl, rfl, _, rfl, itT eq_str ?_⟩
    refine ⟨_, rfl, _, _, _, _, rfl, rfl, SqT.of h1, atI_nat (j := 2) rfl, pb, a, xs, ws, rs, rfl, ⟨_, h3, h4⟩, by omega, ho.2.1.1, ho.2.1.2, fun H2 s2 => ⟨_, _, rfl, rfl, ?_⟩⟩
    refine ⟨_, rfl, _, _, _, _, rfl, rfl, SqT.of (s2 _ _ h1), atI_nat (j := 3) rfl, pc, b, xs, ws, rs, rfl, ⟨_, s2 _ _ h5, BdL.keep (Same.tups s2) b h6⟩, by omega, ho.2.2.1, ho.2.2.2, fun H3 s3 => ⟨_, _, rfl, rfl, ?_⟩⟩
    have z := q H3 (s2.trans s3)
    unfold Sg.sz at z
    rw [show (((1 + a.sz + b.sz : Nat)) : Int) = 1 + (a.sz : Int) + (b.sz : Int) by omega] at z
    exact z
  | fors e m a =>
    unfold SgAt at hv
    unfold Sg.ok at ho
    unfold Sg.dp at hd
    obtain ⟨p, u, pb, bs, rfl, h1, h2, h3, h4⟩ := hv
    refine ⟨_, rfl, _, _, _, _, rfl, rfl, SqT.of h1, atI_nat (j := 0) rfl, _, rfl, rfl, _, rfl, itF (ne_str (by decide)) ?_⟩
    refine ⟨_, rfl, rfl, _, rfl, itT eq_str ?_⟩
    refine ⟨_, rfl, _, _, _, _, rfl, rfl, SqT.of h1, atI_nat (j := 3) rfl, pb, a, xs, ws, rs, rfl, ⟨_, h3, h4⟩, by omega, ho.2.2.1, ho.2.2.2, fun H2 s2 => ⟨_, _, rfl, rfl, ?_⟩⟩
    have z := q H2 s2
    unfold Sg.sz at z
    rw [show (((2 + a.sz : Nat)) : Int) = 2 + (a.sz : Int) by omega] at z
    exact z
  | call x r e =>
    unfold SgAt at hv
    obtain ⟨p, u, rfl, h1, h2⟩ := hv
    refine ⟨_, rfl, _, _, _, _, rfl, rfl, SqT.of h1, atI_nat (j := 0) rfl, _, rfl, rfl, _, rfl, itF (ne_str (by decide)) ?_⟩
    refine ⟨_, rfl, rfl, _, rfl, itF (ne_str (by decide)) ⟨_, rfl, rfl, _, rfl, itT eq_str ?_⟩⟩
    have z := q H same_refl
    unfold Sg.sz at z
    exact z
  | set x e =>
    unfold SgAt at hv
    obtain ⟨p, u, rfl, h1, h2⟩ := hv
    refine ⟨_, rfl, _, _, _, _, rfl, rfl, SqT.of h1, atI_nat (j := 0) rfl, _, rfl, rfl, _, rfl, itF (ne_str (by decide)) ?_⟩
    refine ⟨_, rfl, rfl, _, rfl, itF (ne_str (by decide)) ⟨_, rfl, rfl, _, rfl, itF (ne_str (by decide)) ?_⟩⟩
    have z := q H same_refl
    unfold Sg.sz at z
    exact z
  | say x e =>
    unfold SgAt at hv
    obtain ⟨p, u, rfl, h1, h2⟩ := hv
    refine ⟨_, rfl, _, _, _, _, rfl, rfl, SqT.of h1, atI_nat (j := 0) rfl, _, rfl, rfl, _, rfl, itF (ne_str (by decide)) ?_⟩
    refine ⟨_, rfl, rfl, _, rfl, itF (ne_str (by decide)) ⟨_, rfl, rfl, _, rfl, itF (ne_str (by decide)) ?_⟩⟩
    have z := q H same_refl
    unfold Sg.sz at z
    exact z
  | hear x =>
    unfold SgAt at hv
    obtain ⟨p, rfl, h1⟩ := hv
    refine ⟨_, rfl, _, _, _, _, rfl, rfl, SqT.of h1, atI_nat (j := 0) rfl, _, rfl, rfl, _, rfl, itF (ne_str (by decide)) ?_⟩
    refine ⟨_, rfl, rfl, _, rfl, itF (ne_str (by decide)) ⟨_, rfl, rfl, _, rfl, itF (ne_str (by decide)) ?_⟩⟩
    have z := q H same_refl
    unfold Sg.sz at z
    exact z
/-- steps that stand within one another n deep -/
theorem all_ssz (O : Own mg) (FS : Fun K "step_size" "step_size" sSSz f fd) (bS : Binds K fd ["step"] []) (mS : mg "step_size" = some (.ref f)) (FB : Fun K "body_size" "body_size" sBSz g gd) (bB : Binds K gd ["body"] []) (mB : mg "body_size" = some (.ref g)) :
    ∀ n : Nat, FnOk P w K mg base CX0 (2 * n) f fd ["step"] (spSSz n)
  | 0 => no_ssz
  | n + 1 => ok_ssz FS (ok_bsz O FB (all_ssz O FS bS mS FB bB mB n) bS FS.kp mS) bB FB.kp mB
end
end Any
namespace Any
open L2 PySem PySem.Spec PyProof.Rows LamX NdefX
/-! ### places (point 9) -/
inductive Pl
  | home (i : Int) | ifp (t : Ts) (y n : Int) | forp (k : Int) (e : Ex) (m c : Int) | chk (k b o : Int)
  | ask (x r : Str) (e : Ex) (i j : Int) | clear (r : Str) (i : Int) | again (r : Str) (i : Int)
  | set (x : Str) (e : Ex) (i : Int) | say (x : Str) (e : Ex) (i : Int) | hear (x : Str) (i : Int)
  | tell (b : Int) (e : Ex) (i : Int) | told (i : Int)
/-- a place in the heap -/
inductive PlAt (H : Hp) : V → Pl → Prop
  | home {a : Addr} {i : Int} : H a = some (.tup [.str "home", .int i]) → PlAt H (.ref a) (.home i)
  | ifp {a : Addr} {u : V} {t : Ts} {y n : Int} : H a = some (.tup [.str "if", u, .int y, .int n]) → TsAt H u t → PlAt H (.ref a) (.ifp t y n)
  | forp {a : Addr} {u : V} {e : Ex} {k m c : Int} : H a = some (.tup [.str "for", .int k, u, .int m, .int c]) → ExAt H u e → PlAt H (.ref a) (.forp k e m c)
  | chk {a : Addr} {k b o : Int} : H a = some (.tup [.str "check", .int k, .int b, .int o]) → PlAt H (.ref a) (.chk k b o)
  | ask {a : Addr} {u : V} {x r : Str} {e : Ex} {i j : Int} : H a = some (.tup [.str "ask", .str x, .str r, u, .int i, .int j]) → ExAt H u e → PlAt H (.ref a) (.ask x r e i j)
  | clear {a : Addr} {r : Str} {i : Int} : H a = some (.tup [.str "clear", .str r, .int i]) → PlAt H (.ref a) (.clear r i)
  | again {a : Addr} {r : Str} {i : Int} : H a = some (.tup [.str "again", .str r, .int i]) → PlAt H (.ref a) (.again r i)
  | set {a : Addr} {u : V} {x : Str} {e : Ex} {i : Int} : H a = some (.tup [.str "set", .str x, u, .int i]) → ExAt H u e → PlAt H (.ref a) (.set x e i)
  | say {a : Addr} {u : V} {x : Str} {e : Ex} {i : Int} : H a = some (.tup [.str "say", .str x, u, .int i]) → ExAt H u e → PlAt H (.ref a) (.say x e i)
  | hear {a : Addr} {x : Str} {i : Int} : H a = some (.tup [.str "hear", .str x, .int i]) → PlAt H (.ref a) (.hear x i)
  | tell {a : Addr} {u : V} {b : Int} {e : Ex} {i : Int} : H a = some (.tup [.str "tell", .int b, u, .int i]) → ExAt H u e → PlAt H (.ref a) (.tell b e i)
  | told {a : Addr} {i : Int} : H a = some (.tup [.str "told", .int i]) → PlAt H (.ref a) (.told i)
theorem PlAt.keep {H H' : Hp} (k : Tups H H') {v : V} {p : Pl} (h : PlAt H v p) : PlAt H' v p := by
  cases h with
  | home h => exact .home (k _ _ h)
  | ifp h g => exact .ifp (k _ _ h) (g.keep k)
  | forp h g => exact .forp (k _ _ h) (g.keep k)
  | chk h => exact .chk (k _ _ h)
  | ask h g => exact .ask (k _ _ h) (g.keep k)
  | clear h => exact .clear (k _ _ h)
  | again h => exact .again (k _ _ h)
  | set h g => exact .set (k _ _ h) (g.keep k)
  | say h g => exact .say (k _ _ h) (g.keep k)
  | hear h => exact .hear (k _ _ h)
  | tell h g => exact .tell (k _ _ h) (g.keep k)
  | told h => exact .told (k _ _ h)
/-- the places found so far -/
def FoundAt (H : Hp) (a : Addr) (ps : List Pl) : Prop := ∃ vs, H a = some (.lst vs) ∧ Paired (PlAt H) vs ps
theorem FoundAt.keep {H H' : Hp} {a : Addr} {ps : List Pl} (h : FoundAt H a ps) (s : Same H H') : FoundAt H' a ps := by
  obtain ⟨vs, h1, h2⟩ := h
  exact ⟨vs, s _ _ h1, paired_imp (fun _ _ z => z.keep (Same.tups s)) h2⟩
/-- one more place -/
theorem FoundAt.more {H : Hp} {a : Addr} {vs : List V} {ps : List Pl} {v : V} {p : Pl} (h1 : H a = some (.lst vs)) (h2 : Paired (PlAt H) vs ps) (h : PlAt H v p) : FoundAt (upd H a (.lst (vs ++ [v]))) a (ps ++ [p]) := by
  have k : Tups H (upd H a (.lst (vs ++ [v]))) := fun b xs q => by
    rw [upd_ne (ne_of q h1 (by intro z; cases z))]
    exact q
  exact ⟨_, upd_same, paired_snoc (paired_imp (fun _ _ z => z.keep k) h2) (h.keep k)⟩
abbrev sACall : Stmt := top 44
abbrev nmAC : List Str := ["found", "step", "behind", "box", "room", "expression", "ask"]
abbrev psAdd : List Str := ["found", "step", "behind"]
theorem scAC : FnScope nmAC psAdd (defScope sACall) := ⟨rfl, rfl, rfl, by decide +kernel, rfl, by decide +kernel, by decide +kernel⟩
def spACall : Sp := fun vs H Q _ => ∃ (a : Addr) (v : V) (j : Int) (x r : Str) (e : Ex) (ps : List Pl), vs = [.ref a, v, .int j] ∧ FoundAt H a ps ∧ ps.length ≤ 1000 ∧ SgAt H v (.call x r e) ∧
  ∀ H', Kept a H H' → FoundAt H' a (ps ++ [.ask x r e (ps.length + 1) (ps.length + 2)] ++ [.clear r j] ++ [.again r ps.length]) → Q .non H'
section
variable {P : Program} {w : World} {K : PySem.W.Frag} {mg : Str → Option Value} {base : Heap} {f g : Addr} {fd gd : FuncData}
theorem ok_acall (O : Own mg) (F : Fun K "add_call" "add_call" sACall f fd) : FnOk P w K mg base CX0 1 f fd psAdd spACall := by
  refine F.ok scAC (fun vs H Q E h => ?_) (fun cdv A outer s H vs Q E hr h => ?_)
  · obtain ⟨a, v, j, x, r, e, ps, rfl, _⟩ := h
    rfl
  obtain ⟨a, v, j, x, r, e, ps, rfl, ⟨vs, ha, hp⟩, hz, hv, q⟩ := h
  unfold SgAt at hv
  obtain ⟨c, u, rfl, hc, hu⟩ := hv
  have hl := paired_len hp
  have hs : sizeLine = 16777216 := sizeLine_eq
  refine ⟨_, pss_cons (ps_asg (pe_slice sl_tup (pv 1) (po_some pe_int) po_none) (pg_tup rfl (pgs_cons (pg_name (i := 3) scAC.nd rfl (Or.inl rfl)) (pgs_cons (pg_name (i := 4) scAC.nd rfl (Or.inl rfl)) (pgs_cons (pg_name (i := 5) scAC.nd rfl (Or.inl rfl)) pgs_nil)))))
    (pss_cons (ps_set (i := 6) scAC.nd rfl (Or.inl rfl) (pe_callB call_len_seq rfl O.len PySem.boot_len (pa_cons (pv 0) pa_nil)))
    (pss_cons (ps_expr (pe_bm PySem.F.plainAttrs_list PySem.F.slot_list_append PySem.F.type_list_append mt_append (pv 0) (pa_cons (pe_tup (pa_cons pe_str (pa_cons (pv 3) (pa_cons (pv 4) (pa_cons (pv 5) (pa_cons (pe_op op_add (pv 6) pe_int) (pa_cons (pe_op op_add (pv 6) pe_int) pa_nil))))))) pa_nil)))
    (pss_cons (ps_expr (pe_bm PySem.F.plainAttrs_list PySem.F.slot_list_append PySem.F.type_list_append mt_append (pv 0) (pa_cons (pe_tup (pa_cons pe_str (pa_cons (pv 4) (pa_cons (pv 2) pa_nil)))) pa_nil)))
    (pss_one (ps_expr (pe_bm PySem.F.plainAttrs_list PySem.F.slot_list_append PySem.F.type_list_append mt_append (pv 0) (pa_cons (pe_tup (pa_cons pe_str (pa_cons (pv 4) (pa_cons (pv 6) pa_nil)))) pa_nil))))))), ?_⟩
  refine ⟨_, rfl, 1, rfl, c, _, rfl, SqT.of hc, (by show ¬ (1 = 0 ∧ _); omega), fun p1 n1 => ?_⟩
  rw [cut1]
  have s1 := same_new n1 (.tup [.str x, .str r, u])
  refine ⟨p1, _, rfl, SqT.of upd_same, rfl, _, _, rfl, _, _, rfl, _, _, rfl, rfl, ?_⟩
  have ha1 := s1 _ _ ha
  have hp1 : Paired (PlAt _) vs ps := paired_imp (fun _ _ z => z.keep (Same.tups s1)) hp
  have hu1 := hu.keep (Same.tups s1)
  have k1 : Kept a H _ := Kept.of s1
  generalize upd H p1 (.tup [.str x, .str r, u]) = H1 at *
  refine ⟨_, rfl, a, _, rfl, .inl (SqL.of ha1), ?_⟩
  rw [hl]
  refine ⟨_, rfl, .inl ⟨rfl, _, SqL.of ha1⟩, _, rfl, _, rfl, _, rfl, _, rfl, _, _, rfl, rfl, _, rfl, _, _, rfl, rfl, (by show 6 ≤ sizeLine; omega), fun p2 n2 => ?_⟩
  have s2 := same_new n2 (.tup [.str "ask", .str x, .str r, u, .int ((ps.length : Int) + 1), .int ((ps.length : Int) + 2)])
  refine ⟨a, _, _, rfl, rfl, s2 _ _ ha1, by omega, ?_⟩
  have f2 := FoundAt.more (s2 _ _ ha1) (paired_imp (fun _ _ z => z.keep (Same.tups s2)) hp1) (.ask upd_same (hu1.keep (Same.tups s2)))
  have k2 := k1.trans ((Kept.of s2).trans (Kept.put (b := a) (.lst (vs ++ [.ref p2]))))
  generalize upd (upd H1 p2 (.tup [.str "ask", .str x, .str r, u, .int ((ps.length : Int) + 1), .int ((ps.length : Int) + 2)])) a (.lst (vs ++ [.ref p2])) = H2 at *
  obtain ⟨v2, h2, q2⟩ := f2
  have l2 := paired_len q2
  rw [List.length_append, List.length_singleton] at l2
  refine ⟨_, rfl, .inl ⟨rfl, _, SqL.of h2⟩, _, rfl, _, rfl, (by show 3 ≤ sizeLine; omega), fun p3 n3 => ?_⟩
  have s3 := same_new n3 (.tup [.str "clear", .str r, .int j])
  refine ⟨a, _, _, rfl, rfl, s3 _ _ h2, by omega, ?_⟩
  have f3 := FoundAt.more (s3 _ _ h2) (paired_imp (fun _ _ z => z.keep (Same.tups s3)) q2) (.clear upd_same)
  have k3 := k2.trans ((Kept.of s3).trans (Kept.put (b := a) (.lst (v2 ++ [.ref p3]))))
  generalize upd (upd H2 p3 (.tup [.str "clear", .str r, .int j])) a (.lst (v2 ++ [.ref p3])) = H3 at *
  obtain ⟨v3, h3, q3⟩ := f3
  have l3 := paired_len q3
  rw [List.length_append, List.length_append, List.length_singleton, List.length_singleton] at l3
  refine ⟨_, rfl, .inl ⟨rfl, _, SqL.of h3⟩, _, rfl, _, rfl, (by show 3 ≤ sizeLine; omega), fun p4 n4 => ?_⟩
  have s4 := same_new n4 (.tup [.str "again", .str r, .int ps.length])
  refine ⟨a, _, _, rfl, rfl, s4 _ _ h3, by omega, ?_⟩
  have f4 := FoundAt.more (s4 _ _ h3) (paired_imp (fun _ _ z => z.keep (Same.tups s4)) q3) (.again upd_same)
  exact q _ (k3.trans ((Kept.of s4).trans (Kept.put _))) f4
end
end Any
namespace Any
open L2 PySem PySem.Spec PyProof.Rows LamX NdefX
/-- where a body begins: at i, or where it has no step at j -/
def begI (b : Bd) (i j : Int) : Int := match b with
  | .nil => j
  | .cons _ _ => i
def Pl.isFor : Pl → Bool
  | .forp _ _ _ _ => true
  | _ => false
def fors (ps : List Pl) : Int := ((ps.filter Pl.isFor).length : Int)
mutual
/-- the places of a step behind those found -/
def addS (ps : List Pl) (j : Int) : Sg → List Pl
  | .ifs t a b => addB (addB (ps ++ [.ifp t (begI a (ps.length + 1) j) (begI b (ps.length + 1 + a.sz) j)]) j a) j b
  | .fors e m a => addB (ps ++ [.forp (fors ps) e m (ps.length + 1)] ++ [.chk (fors ps) (begI a (ps.length + 1 + 1) (ps.length + 1)) j]) (ps.length + 1) a
  | .call x r e => ps ++ [.ask x r e (ps.length + 1) (ps.length + 2)] ++ [.clear r j] ++ [.again r ps.length]
  | .set x e => ps ++ [.set x e j]
  | .say x e => ps ++ [.say x e j]
  | .hear x => ps ++ [.hear x j]
/-- .. of a body -/
def addB (ps : List Pl) (j : Int) : Bd → List Pl
  | .nil => ps
  | .cons s b => addB (addS ps (begI b (ps.length + s.sz) j) s) j b
end
mutual
theorem addS_len : ∀ (s : Sg) (ps : List Pl) (j : Int), (addS ps j s).length = ps.length + s.sz
  | .ifs t a b, ps, j => by
    unfold addS Sg.sz
    rw [addB_len b, addB_len a, List.length_append, List.length_singleton]
    omega
  | .fors e m a, ps, j => by
    unfold addS Sg.sz
    rw [addB_len a, List.length_append, List.length_append, List.length_singleton, List.length_singleton]
    omega
  | .call x r e, ps, j => by
    unfold addS Sg.sz
    rw [List.length_append, List.length_append, List.length_append, List.length_singleton, List.length_singleton, List.length_singleton]
  | .set x e, ps, j => by
    unfold addS Sg.sz
    rw [List.length_append, List.length_singleton]
  | .say x e, ps, j => by
    unfold addS Sg.sz
    rw [List.length_append, List.length_singleton]
  | .hear x, ps, j => by
    unfold addS Sg.sz
    rw [List.length_append, List.length_singleton]
theorem addB_len : ∀ (b : Bd) (ps : List Pl) (j : Int), (addB ps j b).length = ps.length + b.sz
  | .nil, ps, j => by
    unfold addB Bd.sz
    rfl
  | .cons s b, ps, j => by
    unfold addB Bd.sz
    rw [addB_len b, addS_len s]
    omega
end
end Any
namespace Any
open L2 PySem PySem.Spec PyProof.Rows LamX NdefX
def spAB (n : Nat) : Sp := fun vs H Q _ => ∃ (a c : Addr) (j : Int) (b : Bd) (ps : List Pl) (xs ws rs : List Str), vs = [.ref a, .ref c, .int j] ∧ FoundAt H a ps ∧ BdAt H c b ∧ b.dp ≤ n ∧ b.ok xs ws rs ∧ b.len ≤ 12 ∧ ps.length + b.sz ≤ 1000 ∧
  ∀ H', Kept a H H' → FoundAt H' a (addB ps j b) → Q .non H'
def spAS (n : Nat) : Sp := fun vs H Q _ => ∃ (a : Addr) (v : V) (j : Int) (s : Sg) (ps : List Pl) (xs ws rs : List Str), vs = [.ref a, v, .int j] ∧ FoundAt H a ps ∧ SgAt H v s ∧ s.dp ≤ n ∧ s.ok xs ws rs ∧ ps.length + s.sz ≤ 1000 ∧
  ∀ H', Kept a H H' → FoundAt H' a (addS ps j s) → Q .non H'
/-- .. of a step that is an if -/
def spAIf (n : Nat) : Sp := fun vs H Q _ => ∃ (a : Addr) (v : V) (j : Int) (t : Ts) (p q : Bd) (ps : List Pl) (xs ws rs : List Str), vs = [.ref a, v, .int j] ∧ FoundAt H a ps ∧ SgAt H v (.ifs t p q) ∧ Sg.dp (.ifs t p q) ≤ n + 1 ∧ Sg.ok xs ws rs (.ifs t p q) ∧ ps.length + Sg.sz (.ifs t p q) ≤ 1000 ∧
  ∀ H', Kept a H H' → FoundAt H' a (addS ps j (.ifs t p q)) → Q .non H'
theorem beg_eq {H : Hp} {b : Bd} {us : List V} (h : BdL H us b) (i j : Int) : (if us = [] then j else i) = begI b i j := by
  cases b with
  | nil =>
    unfold BdL at h
    rw [if_pos h]
    rfl
  | cons s b =>
    unfold BdL at h
    obtain ⟨v, vs, rfl, _⟩ := h
    rw [if_neg (by simp)]
    rfl
theorem FoundAt.tups {H H' : Hp} {a : Addr} {ps : List Pl} (h : FoundAt H a ps) (k : Kept a H H') : Tups H H' := by
  obtain ⟨vs, h1, _⟩ := h
  exact k.tups h1
abbrev sAIf : Stmt := top 42
abbrev nmAI : List Str := ["found", "step", "behind", "test", "first", "second", "begin", "yes", "no"]
theorem scAI : FnScope nmAI psAdd (defScope sAIf) := ⟨rfl, rfl, rfl, by decide +kernel, rfl, by decide +kernel, by decide +kernel⟩
section
variable {P : Program} {w : World} {K : PySem.W.Frag} {mg : Str → Option Value} {base : Heap} {f g1 g2 g3 : Addr} {fd d1 d2 d3 : FuncData}
theorem ok_aif {n k : Nat} (O : Own mg) (F : Fun K "add_if" "add_if" sAIf f fd) (GB : FnOk P w K mg base CX0 k g1 d1 ["body", "at", "behind"] spBeg) (bB : Binds K d1 ["body", "at", "behind"] []) (kB : PySem.W.keepIn K (.ref g1) = true) (mB : mg "begin_of" = some (.ref g1))
    (GS : FnOk P w K mg base CX0 k g2 d2 ["body"] (spBSz n)) (bS : Binds K d2 ["body"] []) (kS : PySem.W.keepIn K (.ref g2) = true) (mS : mg "body_size" = some (.ref g2))
    (GA : FnOk P w K mg base CX0 k g3 d3 ["found", "body", "behind"] (spAB n)) (bA : Binds K d3 ["found", "body", "behind"] []) (kA : PySem.W.keepIn K (.ref g3) = true) (mA : mg "add_body" = some (.ref g3)) :
    FnOk P w K mg base CX0 (k + 1) f fd psAdd (spAIf n) := by
  refine F.ok scAI (fun vs H Q E h => ?_) (fun cdv A outer s H vs Q E hr h => ?_)
  · obtain ⟨a, v, j, t, p, q, ps, xs, ws, rs, rfl, _⟩ := h
    rfl
  obtain ⟨a, v, j, t, p, b, ps, xs, ws, rs, rfl, hF, hv, hd, ho, hz, q⟩ := h
  unfold SgAt at hv
  unfold Sg.dp at hd
  unfold Sg.ok at ho
  unfold Sg.sz at hz
  unfold addS at q
  obtain ⟨c, u, pb, pc, bs, cs, rfl, h1, h2, h3, h4, h5, h6⟩ := hv
  have hs : sizeLine = 16777216 := sizeLine_eq
  refine ⟨_, pss_cons (ps_asg (pe_slice sl_tup (pv 1) (po_some pe_int) po_none) (pg_tup rfl (pgs_cons (pg_name (i := 3) scAI.nd rfl (Or.inl rfl)) (pgs_cons (pg_name (i := 4) scAI.nd rfl (Or.inl rfl)) (pgs_cons (pg_name (i := 5) scAI.nd rfl (Or.inl rfl)) pgs_nil)))))
    (pss_cons (ps_set (i := 6) scAI.nd rfl (Or.inl rfl) (pe_op op_add (pe_callB call_len_seq rfl O.len PySem.boot_len (pa_cons (pv 0) pa_nil)) pe_int))
    (pss_cons (ps_set (i := 7) scAI.nd rfl (Or.inl rfl) (pe_call GB hr rfl mB kB bB .nil pass0 (pa_cons (pv 4) (pa_cons (pv 6) (pa_cons (pv 2) pa_nil)))))
    (pss_cons (ps_set (i := 8) scAI.nd rfl (Or.inl rfl) (pe_call GB hr rfl mB kB bB .nil pass0 (pa_cons (pv 5) (pa_cons (pe_op op_add (pv 6) (pe_call GS hr rfl mS kS bS .nil pass0 (pa_cons (pv 4) pa_nil))) (pa_cons (pv 2) pa_nil)))))
    (pss_cons (ps_expr (pe_bm PySem.F.plainAttrs_list PySem.F.slot_list_append PySem.F.type_list_append mt_append (pv 0) (pa_cons (pe_tup (pa_cons pe_str (pa_cons (pv 3) (pa_cons (pv 7) (pa_cons (pv 8) pa_nil))))) pa_nil)))
    (pss_cons (ps_expr (pe_call GA hr rfl mA kA bA .nil pass0 (pa_cons (pv 0) (pa_cons (pv 4) (pa_cons (pv 2) pa_nil)))))
    (pss_one (ps_expr (pe_call GA hr rfl mA kA bA .nil pass0 (pa_cons (pv 0) (pa_cons (pv 5) (pa_cons (pv 2) pa_nil))))))))))), ?_⟩
  refine ⟨_, rfl, 1, rfl, c, _, rfl, SqT.of h1, (by show ¬ (1 = 0 ∧ _); omega), fun p1 n1 => ?_⟩
  rw [cut1]
  have s1 := same_new n1 (.tup [u, .ref pb, .ref pc])
  refine ⟨p1, _, rfl, SqT.of upd_same, rfl, _, _, rfl, _, _, rfl, _, _, rfl, rfl, ?_⟩
  have F1 := hF.keep s1
  have t1 := h2.keep (Same.tups s1)
  have e3 := s1 _ _ h3
  have e5 := s1 _ _ h5
  have b4 := BdL.keep (Same.tups s1) p h4
  have b6 := BdL.keep (Same.tups s1) b h6
  have k1 : Kept a H _ := Kept.of s1
  generalize upd H p1 (.tup [u, .ref pb, .ref pc]) = H1 at *
  obtain ⟨vs, ha, hp⟩ := id F1
  have hl := paired_len hp
  refine ⟨_, rfl, a, _, rfl, .inl (SqL.of ha), _, _, rfl, rfl, ?_⟩
  rw [hl]
  refine ⟨_, rfl, _, rfl, _, rfl, pb, bs, _, _, rfl, e3, ?_⟩
  rw [beg_eq b4]
  refine ⟨_, rfl, _, rfl, _, rfl, pb, p, xs, ws, rs, rfl, ⟨_, e3, b4⟩, by omega, ho.2.1.1, ho.2.1.2, fun H2 s2 => ⟨_, _, rfl, rfl, _, rfl, pc, cs, _, _, rfl, s2 _ _ e5, ?_⟩⟩
  rw [beg_eq (BdL.keep (Same.tups s2) b b6)]
  refine ⟨_, rfl, .inl ⟨rfl, _, SqL.of (s2 _ _ ha)⟩, _, rfl, _, rfl, _, rfl, (by show 4 ≤ sizeLine; omega), fun p3 n3 => ?_⟩
  have s3 := s2.trans (same_new n3 (.tup [.str "if", u, .int (begI p (ps.length + 1) j), .int (begI b (ps.length + 1 + p.sz) j)]))
  refine ⟨a, _, _, rfl, rfl, s3 _ _ ha, by omega, ?_⟩
  have f3 := FoundAt.more (s3 _ _ ha) (paired_imp (fun _ _ z => z.keep (Same.tups s3)) hp) (.ifp upd_same (t1.keep (Same.tups s3)))
  have k3 : Kept a H1 _ := (Kept.of s3).trans (Kept.put (b := a) (.lst (vs ++ [.ref p3])))
  generalize upd (upd H2 p3 (.tup [.str "if", u, .int (begI p (ps.length + 1) j), .int (begI b (ps.length + 1 + p.sz) j)])) a (.lst (vs ++ [.ref p3])) = H3 at *
  have t3 : Tups H1 H3 := F1.tups k3
  refine ⟨_, rfl, _, rfl, _, rfl, a, pb, j, p, _, xs, ws, rs, rfl, f3, ⟨_, t3 _ _ e3, BdL.keep t3 p b4⟩, by omega, ho.2.1.1, ho.2.1.2, by rw [List.length_append, List.length_singleton]; omega, fun H4 k4 f4 => ?_⟩
  have t4 : Tups H1 H4 := fun y zs hy => f3.tups k4 _ _ (t3 _ _ hy)
  refine ⟨_, rfl, _, rfl, _, rfl, a, pc, j, b, _, xs, ws, rs, rfl, f4, ⟨_, t4 _ _ e5, BdL.keep t4 b b6⟩, by omega, ho.2.2.1, ho.2.2.2, by rw [addB_len, List.length_append, List.length_singleton]; omega, fun H5 k5 f5 => ?_⟩
  exact q H5 (k1.trans (k3.trans (k4.trans k5))) f5
end
end Any
namespace Any
open L2 PySem PySem.Spec PyProof.Rows LamX NdefX
/-- .. of a step that is a for -/
def spAFor (n : Nat) : Sp := fun vs H Q _ => ∃ (a : Addr) (v : V) (j : Int) (e : Ex) (m : Int) (p : Bd) (ps : List Pl) (xs ws rs : List Str), vs = [.ref a, v, .int j] ∧ FoundAt H a ps ∧ SgAt H v (.fors e m p) ∧ Sg.dp (.fors e m p) ≤ n + 1 ∧ Sg.ok xs ws rs (.fors e m p) ∧ ps.length + Sg.sz (.fors e m p) ≤ 1000 ∧
  ∀ H', Kept a H H' → FoundAt H' a (addS ps j (.fors e m p)) → Q .non H'
/-- the word of a place -/
def Pl.word : Pl → Str
  | .home _ => "home" | .ifp _ _ _ => "if" | .forp _ _ _ _ => "for" | .chk _ _ _ => "check" | .ask _ _ _ _ _ => "ask" | .clear _ _ => "clear" | .again _ _ => "again"
  | .set _ _ _ => "set" | .say _ _ _ => "say" | .hear _ _ => "hear" | .tell _ _ _ => "tell" | .told _ => "told"
theorem PlAt.first {H : Hp} {v : V} {p : Pl} (h : PlAt H v p) : ∃ a xs, v = .ref a ∧ H a = some (.tup (.str p.word :: xs)) := by
  cases h with
  | home h => exact ⟨_, _, rfl, h⟩
  | ifp h g => exact ⟨_, _, rfl, h⟩
  | forp h g => exact ⟨_, _, rfl, h⟩
  | chk h => exact ⟨_, _, rfl, h⟩
  | ask h g => exact ⟨_, _, rfl, h⟩
  | clear h => exact ⟨_, _, rfl, h⟩
  | again h => exact ⟨_, _, rfl, h⟩
  | set h g => exact ⟨_, _, rfl, h⟩
  | say h g => exact ⟨_, _, rfl, h⟩
  | hear h => exact ⟨_, _, rfl, h⟩
  | tell h g => exact ⟨_, _, rfl, h⟩
  | told h => exact ⟨_, _, rfl, h⟩
theorem Pl.word_for (p : Pl) : decide (V.str p.word = V.str "for") = p.isFor := by
  cases p <;> first | exact eq_str | (refine ne_str ?_; simp only [Pl.word]; decide)
/-- which of the places are fors -/
def forG : List V → List Pl → List (Option V)
  | v :: vs, p :: ps => (if p.isFor = true then some v else none) :: forG vs ps
  | _, _ => []
theorem forG_len {H : Hp} : ∀ {vs : List V} {ps : List Pl}, Paired (PlAt H) vs ps → (forG vs ps).length = vs.length
  | _, _, .nil => rfl
  | _, _, .cons _ t => by
    unfold forG
    rw [List.length_cons, List.length_cons, forG_len t]
theorem forG_fm {H : Hp} : ∀ {vs : List V} {ps : List Pl}, Paired (PlAt H) vs ps → (((forG vs ps).filterMap id).length : Int) = fors ps
  | _, _, .nil => rfl
  | _, _, .cons (a := v) (b := p) _ t => by
    have ih := forG_fm t
    rw [show ∀ vs ps, forG (v :: vs) (p :: ps) = (if p.isFor = true then some v else none) :: forG vs ps from fun _ _ => rfl]
    unfold fors at ih ⊢
    cases e : p.isFor with
    | true =>
      rw [if_pos rfl, List.filterMap_cons, List.filter_cons, if_pos e]
      simp only [id, List.length_cons]
      omega
    | false =>
      rw [if_neg (by decide), List.filterMap_cons, List.filter_cons, if_neg (by rw [e]; decide)]
      exact ih
theorem forG_at {H : Hp} : ∀ {vs : List V} {ps : List Pl}, Paired (PlAt H) vs ps → ∀ {i : Nat} {v : V} {o : Option V}, vs[i]? = some v → (forG vs ps)[i]? = some o → ∃ p, PlAt H v p ∧ o = if p.isFor = true then some v else none
  | _, _, .nil, i, v, o, h, _ => by simp at h
  | _, _, .cons (b := p) r t, 0, v, o, h, g => by
    cases h
    unfold forG at g
    cases g
    exact ⟨p, r, rfl⟩
  | _, _, .cons r t, i + 1, v, o, h, g => by
    unfold forG at g
    exact forG_at t (i := i) h g
end Any
namespace Any
open L2 PySem PySem.Spec PyProof.Rows LamX NdefX
abbrev sAFor : Stmt := top 43
abbrev nmAF : List Str := ["found", "step", "behind", "expression", "most", "body", "number", "check", "place"]
theorem scAF : FnScope nmAF psAdd (defScope sAFor) := ⟨rfl, rfl, rfl, by decide +kernel, rfl, by decide +kernel, by decide +kernel⟩
section
variable {P : Program} {w : World} {K : PySem.W.Frag} {mg : Str → Option Value} {base : Heap} {f g1 g3 : Addr} {fd d1 d3 : FuncData}
theorem ok_afor {n k : Nat} (O : Own mg) (F : Fun K "add_for" "add_for" sAFor f fd) (GB : FnOk P w K mg base CX0 k g1 d1 ["body", "at", "behind"] spBeg) (bB : Binds K d1 ["body", "at", "behind"] []) (kB : PySem.W.keepIn K (.ref g1) = true) (mB : mg "begin_of" = some (.ref g1))
    (GA : FnOk P w K mg base CX0 k g3 d3 ["found", "body", "behind"] (spAB n)) (bA : Binds K d3 ["found", "body", "behind"] []) (kA : PySem.W.keepIn K (.ref g3) = true) (mA : mg "add_body" = some (.ref g3)) :
    FnOk P w K mg base CX0 (k + 1) f fd psAdd (spAFor n) := by
  refine F.ok scAF (fun vs H Q E h => ?_) (fun cdv A outer s H vs Q E hr h => ?_)
  · obtain ⟨a, v, j, e, m, p, ps, xs, ws, rs, rfl, _⟩ := h
    rfl
  obtain ⟨a, v, j, e, m, p, ps, xs, ws, rs, rfl, hF, hv, hd, ho, hz, q⟩ := h
  unfold SgAt at hv
  unfold Sg.dp at hd
  unfold Sg.ok at ho
  unfold Sg.sz at hz
  unfold addS at q
  obtain ⟨c, u, pb, bs, rfl, h1, h2, h3, h4⟩ := hv
  have hs : sizeLine = 16777216 := sizeLine_eq
  refine ⟨_, pss_cons (ps_asg (pe_slice sl_tup (pv 1) (po_some pe_int) po_none) (pg_tup rfl (pgs_cons (pg_name (i := 3) scAF.nd rfl (Or.inl rfl)) (pgs_cons (pg_name (i := 4) scAF.nd rfl (Or.inl rfl)) (pgs_cons (pg_name (i := 5) scAF.nd rfl (Or.inl rfl)) pgs_nil)))))
    (pss_cons (ps_set (i := 6) scAF.nd rfl (Or.inl rfl) (pe_callB call_len_seq rfl O.len PySem.boot_len (pa_cons (pe_lc (own := [("place", 8)]) (g := gName 8) rfl scAF.nd (pi_list (pv 0)) (blkOk_by (N := nmAF) (sc := defScope sAFor) (by decide +kernel))
        (fun _ _ _ _ _ => pg_name (i := 8) scAF.nd rfl (Or.inl rfl)) (fun _ _ _ _ _ => pts_one (pt_cmpR op_eq (pe_ix (show IxR _ (rIxT K) from ix_tup) (pv 8) pe_int (fun _ _ => rfl)) pe_str (nomark _))) (fun _ _ _ _ _ => pv 8)) pa_nil)))
    (pss_cons (ps_set (i := 7) scAF.nd rfl (Or.inl rfl) (pe_op op_add (pe_callB call_len_seq rfl O.len PySem.boot_len (pa_cons (pv 0) pa_nil)) pe_int))
    (pss_cons (ps_expr (pe_bm PySem.F.plainAttrs_list PySem.F.slot_list_append PySem.F.type_list_append mt_append (pv 0) (pa_cons (pe_tup (pa_cons pe_str (pa_cons (pv 6) (pa_cons (pv 3) (pa_cons (pv 4) (pa_cons (pv 7) pa_nil)))))) pa_nil)))
    (pss_cons (ps_expr (pe_bm PySem.F.plainAttrs_list PySem.F.slot_list_append PySem.F.type_list_append mt_append (pv 0) (pa_cons (pe_tup (pa_cons pe_str (pa_cons (pv 6) (pa_cons (pe_call GB hr rfl mB kB bB .nil pass0 (pa_cons (pv 5) (pa_cons (pe_op op_add (pv 7) pe_int) (pa_cons (pv 7) pa_nil)))) (pa_cons (pv 2) pa_nil))))) pa_nil)))
    (pss_one (ps_expr (pe_call GA hr rfl mA kA bA .nil pass0 (pa_cons (pv 0) (pa_cons (pv 5) (pa_cons (pv 7) pa_nil)))))))))), ?_⟩
  refine ⟨_, rfl, 1, rfl, c, _, rfl, SqT.of h1, (by show ¬ (1 = 0 ∧ _); omega), fun p1 n1 => ?_⟩
  rw [cut1]
  have s1 := same_new n1 (.tup [u, .int m, .ref pb])
  refine ⟨p1, _, rfl, SqT.of upd_same, rfl, _, _, rfl, _, _, rfl, _, _, rfl, rfl, ?_⟩
  have F1 := hF.keep s1
  have t1 := h2.keep (Same.tups s1)
  have e3 := s1 _ _ h3
  have b4 := BdL.keep (Same.tups s1) p h4
  have k1 : Kept a H _ := Kept.of s1
  generalize upd H p1 (.tup [u, .int m, .ref pb]) = H1 at *
  obtain ⟨vs, ha, hp⟩ := id F1
  have hl := paired_len hp
  refine ⟨_, rfl, a, rfl, ⟨_, SqL.of ha⟩, fun C hC => ?_⟩
  refine turns_list (K := K) (a := a) (xs := vs) (forG vs ps) hC (fun Hc sm => SqL.of (sm _ _ ha)) (forG_len hp) (by omega) ?_ ?_
  · intro i z o Hc Y N hz2 ho2 sm hY hN
    obtain ⟨pl, hat, eo⟩ := forG_at hp hz2 ho2
    obtain ⟨b, zs, rfl, hb⟩ := hat.first
    refine ⟨rfl, _, rfl, b, _, _, _, rfl, rfl, SqT.of (sm _ _ hb), atI_nat (j := 0) rfl, rfl, _, rfl, ?_⟩
    rw [Pl.word_for]
    cases e8 : pl.isFor with
    | true =>
      rw [e8, if_pos rfl] at eo
      exact itT rfl ⟨_, rfl, hY _ eo Hc same_refl⟩
    | false =>
      rw [e8, if_neg (by decide)] at eo
      exact itF rfl (hN eo Hc same_refl)
  intro H2 hc2 s2
  refine ⟨C, _, rfl, .inl (SqL.of hc2), ?_⟩
  rw [forG_fm hp]
  refine ⟨_, rfl, a, _, rfl, .inl (SqL.of (s2 _ _ ha)), _, _, rfl, rfl, ?_⟩
  rw [hl]
  refine ⟨_, rfl, .inl ⟨rfl, _, SqL.of (s2 _ _ ha)⟩, _, rfl, _, rfl, _, rfl, _, rfl, (by show 5 ≤ sizeLine; omega), fun p3 n3 => ?_⟩
  have s3 := s2.trans (same_new n3 (.tup [.str "for", .int (fors ps), u, .int m, .int (ps.length + 1)]))
  refine ⟨a, _, _, rfl, rfl, s3 _ _ ha, by omega, ?_⟩
  have f3 := FoundAt.more (s3 _ _ ha) (paired_imp (fun _ _ z => z.keep (Same.tups s3)) hp) (.forp upd_same (t1.keep (Same.tups s3)))
  have k3 : Kept a H1 _ := (Kept.of s3).trans (Kept.put (b := a) (.lst (vs ++ [.ref p3])))
  generalize upd (upd H2 p3 (.tup [.str "for", .int (fors ps), u, .int m, .int (ps.length + 1)])) a (.lst (vs ++ [.ref p3])) = H3 at *
  have t3 : Tups H1 H3 := F1.tups k3
  obtain ⟨v3, hv3, hp3⟩ := id f3
  have l3 := paired_len hp3
  rw [List.length_append, List.length_singleton] at l3
  refine ⟨_, rfl, .inl ⟨rfl, _, SqL.of hv3⟩, _, rfl, _, rfl, _, rfl, _, _, rfl, rfl, _, rfl, pb, bs, _, _, rfl, t3 _ _ e3, ?_⟩
  rw [beg_eq b4]
  refine ⟨_, rfl, (by show 4 ≤ sizeLine; omega), fun p4 n4 => ?_⟩
  have s4 := same_new n4 (.tup [.str "check", .int (fors ps), .int (begI p (ps.length + 1 + 1) (ps.length + 1)), .int j])
  refine ⟨a, _, _, rfl, rfl, s4 _ _ hv3, by omega, ?_⟩
  have f4 := FoundAt.more (s4 _ _ hv3) (paired_imp (fun _ _ z => z.keep (Same.tups s4)) hp3) (.chk upd_same)
  have k4 : Kept a H3 _ := (Kept.of s4).trans (Kept.put (b := a) (.lst (v3 ++ [.ref p4])))
  generalize upd (upd H3 p4 (.tup [.str "check", .int (fors ps), .int (begI p (ps.length + 1 + 1) (ps.length + 1)), .int j])) a (.lst (v3 ++ [.ref p4])) = H4 at *
  have t4 : Tups H1 H4 := fun y zs hy => f3.tups k4 _ _ (t3 _ _ hy)
  refine ⟨_, rfl, _, rfl, _, rfl, a, pb, _, p, _, xs, ws, rs, rfl, f4, ⟨_, t4 _ _ e3, BdL.keep t4 p b4⟩, by omega, ho.2.2.1, ho.2.2.2, by rw [List.length_append, List.length_append, List.length_singleton, List.length_singleton]; omega, fun H5 k5 f5 => ?_⟩
  exact q H5 (k1.trans (k3.trans (k4.trans k5))) f5
end
end Any
namespace Any
open L2 PySem PySem.Spec PyProof.Rows LamX NdefX
abbrev sAStep : Stmt := top 41
abbrev nmAS : List Str := ["found", "step", "behind", "kind"]
theorem scAS : FnScope nmAS psAdd (defScope sAStep) := ⟨rfl, rfl, rfl, by decide +kernel, rfl, by decide +kernel, by decide +kernel⟩
section
variable {P : Program} {w : World} {K : PySem.W.Frag} {mg : Str → Option Value} {base : Heap} {f g1 g2 g3 : Addr} {fd d1 d2 d3 : FuncData}
theorem ok_astep {n k : Nat} (F : Fun K "add_step" "add_step" sAStep f fd) (G1 : FnOk P w K mg base CX0 k g1 d1 psAdd (spAIf n)) (b1 : Binds K d1 psAdd []) (k1 : PySem.W.keepIn K (.ref g1) = true) (m1 : mg "add_if" = some (.ref g1))
    (G2 : FnOk P w K mg base CX0 k g2 d2 psAdd (spAFor n)) (b2 : Binds K d2 psAdd []) (k2 : PySem.W.keepIn K (.ref g2) = true) (m2 : mg "add_for" = some (.ref g2))
    (G3 : FnOk P w K mg base CX0 k g3 d3 psAdd spACall) (b3 : Binds K d3 psAdd []) (k3 : PySem.W.keepIn K (.ref g3) = true) (m3 : mg "add_call" = some (.ref g3)) :
    FnOk P w K mg base CX0 (k + 1) f fd psAdd (spAS (n + 1)) := by
  refine F.ok scAS (fun vs H Q E h => ?_) (fun cdv A outer s H vs Q E hr h => ?_)
  · obtain ⟨a, v, j, st, ps, xs, ws, rs, rfl, _⟩ := h
    rfl
  obtain ⟨a, v, j, st, ps, xs, ws, rs, rfl, hF, hv, hd, ho, hz, q⟩ := h
  have hs : sizeLine = 16777216 := sizeLine_eq
  obtain ⟨vs, ha, hp⟩ := id hF
  have hl := paired_len hp
  refine ⟨_, pss_cons (ps_set (i := 3) scAS.nd rfl (Or.inl rfl) (pe_ix ix_tup (pv 1) pe_int (fun _ _ => rfl)))
    (pss_one (ps_if (pt_cmpR op_eq (pv 3) pe_str (nomark _)) (pss_one (ps_expr (pe_call G1 hr rfl m1 k1 b1 .nil pass0 (pa_cons (pv 0) (pa_cons (pv 1) (pa_cons (pv 2) pa_nil))))))
    (pss_one (ps_if (pt_cmpR op_eq (pv 3) pe_str (nomark _)) (pss_one (ps_expr (pe_call G2 hr rfl m2 k2 b2 .nil pass0 (pa_cons (pv 0) (pa_cons (pv 1) (pa_cons (pv 2) pa_nil))))))
    (pss_one (ps_if (pt_cmpR op_eq (pv 3) pe_str (nomark _)) (pss_one (ps_expr (pe_call G3 hr rfl m3 k3 b3 .nil pass0 (pa_cons (pv 0) (pa_cons (pv 1) (pa_cons (pv 2) pa_nil))))))
    (pss_one (ps_expr (pe_bm PySem.F.plainAttrs_list PySem.F.slot_list_append PySem.F.type_list_append mt_append (pv 0) (pa_cons (pe_tup (StX.pa_star (pv 1) (pa_cons (pv 2) pa_nil))) pa_nil)))))))))), ?_⟩
  have keep := hv
  cases st with
  | ifs t p b =>
    unfold SgAt at hv
    obtain ⟨c, u, pb, pc, bs, cs, rfl, h1, _⟩ := hv
    refine ⟨_, rfl, _, _, _, _, rfl, rfl, SqT.of h1, atI_nat (j := 0) rfl, _, rfl, rfl, _, rfl, itT eq_str ?_⟩
    exact ⟨_, rfl, _, rfl, _, rfl, a, .ref c, j, t, p, b, ps, xs, ws, rs, rfl, hF, keep, hd, ho, hz, q⟩
  | fors e m p =>
    unfold SgAt at hv
    obtain ⟨c, u, pb, bs, rfl, h1, _⟩ := hv
    refine ⟨_, rfl, _, _, _, _, rfl, rfl, SqT.of h1, atI_nat (j := 0) rfl, _, rfl, rfl, _, rfl, itF (ne_str (by decide)) ⟨_, rfl, rfl, _, rfl, itT eq_str ?_⟩⟩
    exact ⟨_, rfl, _, rfl, _, rfl, a, .ref c, j, e, m, p, ps, xs, ws, rs, rfl, hF, keep, hd, ho, hz, q⟩
  | call x r e =>
    unfold SgAt at hv
    unfold Sg.sz at hz
    unfold addS at q
    obtain ⟨c, u, rfl, h1, _⟩ := hv
    refine ⟨_, rfl, _, _, _, _, rfl, rfl, SqT.of h1, atI_nat (j := 0) rfl, _, rfl, rfl, _, rfl, itF (ne_str (by decide)) ⟨_, rfl, rfl, _, rfl, itF (ne_str (by decide)) ⟨_, rfl, rfl, _, rfl, itT eq_str ?_⟩⟩⟩
    exact ⟨_, rfl, _, rfl, _, rfl, a, .ref c, j, x, r, e, ps, rfl, hF, by omega, keep, q⟩
  | set x e =>
    unfold SgAt at hv
    unfold Sg.sz at hz
    unfold addS at q
    obtain ⟨c, u, rfl, h1, h2⟩ := hv
    refine ⟨_, rfl, _, _, _, _, rfl, rfl, SqT.of h1, atI_nat (j := 0) rfl, _, rfl, rfl, _, rfl, itF (ne_str (by decide)) ⟨_, rfl, rfl, _, rfl, itF (ne_str (by decide)) ⟨_, rfl, rfl, _, rfl, itF (ne_str (by decide)) ?_⟩⟩⟩
    refine ⟨_, rfl, .inl ⟨rfl, _, SqL.of ha⟩, _, rfl, c, _, rfl, .inl (SqT.of h1), _, rfl, (by show 4 ≤ sizeLine; omega), fun p3 n3 => ?_⟩
    have s3 := same_new n3 (.tup [.str "set", .str x, u, .int j])
    refine ⟨a, _, _, rfl, rfl, s3 _ _ ha, by omega, ?_⟩
    exact q _ ((Kept.of s3).trans (Kept.put _)) (FoundAt.more (s3 _ _ ha) (paired_imp (fun _ _ z => z.keep (Same.tups s3)) hp) (.set upd_same (h2.keep (Same.tups s3))))
  | say x e =>
    unfold SgAt at hv
    unfold Sg.sz at hz
    unfold addS at q
    obtain ⟨c, u, rfl, h1, h2⟩ := hv
    refine ⟨_, rfl, _, _, _, _, rfl, rfl, SqT.of h1, atI_nat (j := 0) rfl, _, rfl, rfl, _, rfl, itF (ne_str (by decide)) ⟨_, rfl, rfl, _, rfl, itF (ne_str (by decide)) ⟨_, rfl, rfl, _, rfl, itF (ne_str (by decide)) ?_⟩⟩⟩
    refine ⟨_, rfl, .inl ⟨rfl, _, SqL.of ha⟩, _, rfl, c, _, rfl, .inl (SqT.of h1), _, rfl, (by show 4 ≤ sizeLine; omega), fun p3 n3 => ?_⟩
    have s3 := same_new n3 (.tup [.str "say", .str x, u, .int j])
    refine ⟨a, _, _, rfl, rfl, s3 _ _ ha, by omega, ?_⟩
    exact q _ ((Kept.of s3).trans (Kept.put _)) (FoundAt.more (s3 _ _ ha) (paired_imp (fun _ _ z => z.keep (Same.tups s3)) hp) (.say upd_same (h2.keep (Same.tups s3))))
  | hear x =>
    unfold SgAt at hv
    unfold Sg.sz at hz
    unfold addS at q
    obtain ⟨c, rfl, h1⟩ := hv
    refine ⟨_, rfl, _, _, _, _, rfl, rfl, SqT.of h1, atI_nat (j := 0) rfl, _, rfl, rfl, _, rfl, itF (ne_str (by decide)) ⟨_, rfl, rfl, _, rfl, itF (ne_str (by decide)) ⟨_, rfl, rfl, _, rfl, itF (ne_str (by decide)) ?_⟩⟩⟩
    refine ⟨_, rfl, .inl ⟨rfl, _, SqL.of ha⟩, _, rfl, c, _, rfl, .inl (SqT.of h1), _, rfl, (by show 3 ≤ sizeLine; omega), fun p3 n3 => ?_⟩
    have s3 := same_new n3 (.tup [.str "hear", .str x, .int j])
    refine ⟨a, _, _, rfl, rfl, s3 _ _ ha, by omega, ?_⟩
    exact q _ ((Kept.of s3).trans (Kept.put _)) (FoundAt.more (s3 _ _ ha) (paired_imp (fun _ _ z => z.keep (Same.tups s3)) hp) (.hear upd_same))
end
end Any
namespace Any
open L2 PySem PySem.Spec PyProof.Rows LamX NdefX
/-! ### enumerate(t), t a tuple -/
set_option maxHeartbeats 1000000 in
theorem enum_new1 {u : Value} {ob : Obj} {G : Heap → Prop} (B : Begins u ob G) :
    Meets (Builtin.«enumerate.__new__» ⟨[.type "enumerate", u], []⟩) (fun _ R z => G z.heap ∧
      R (.ok (.ret (.ref (z.heap.push ob).objs.size)))
        { z with heap := (z.heap.push ob).push { cls := .type "enumerate", data := .fields #[.none, .bool false, .ref z.heap.objs.size, rawInt 0, .none, .none] } }) :=
  .of_wp fun pr wo Ar R z q => by
    obtain ⟨x1, x2, x3, x4, x5⟩ := z
    obtain ⟨g, q⟩ := q
    have sb := sub_enumerate
    have it : ∀ {A2 : Around} {E2 : Value → Shared → Prop} {Q2 : Value → Shared → Prop}, Q2 (.ref x1.objs.size) ⟨x1.push ob, x2, x3, x4, x5⟩ → wpAny (model pr wo) A2 (pyIter u) Q2 E2 ⟨x1, x2, x3, x4, x5⟩ :=
      fun y => B.iter pr wo _ _ ⟨x1, x2, x3, x4, x5⟩ _ g y
    wp_walk using it
    refine wpAny_stack_any fun _ => wpAny_pure ?_
    split
    · rename_i cc _ _ _ _ _
      cases (cc == Value.type "enumerate") <;> (wp_walk using it; exact ⟨_, rfl, q⟩)
    · wp_walk using it
      exact ⟨_, rfl, q⟩
theorem enum_call {pr : Program} {wo : World} {Ar : Around} {E : Value → Shared → Prop} {z : Shared} {u : Value} {ob : Obj} {G : Heap → Prop} {Q : Value → Shared → Prop} (B : Begins u ob G) (g : G z.heap)
    (q : ∀ h2, IsEnum h2 (z.heap.objs.size + 1) z.heap.objs.size 0 .none → h2.get? z.heap.objs.size = some ob → (∀ b y, z.heap.get? b = some y → h2.get? b = some y) → Q (.ref (z.heap.objs.size + 1)) { z with heap := h2 }) :
    wpAny (model pr wo) Ar (call (.type "enumerate") [u]) Q E z := by
  have sz : (z.heap.push ob).objs.size = z.heap.objs.size + 1 := Heap.size_push ..
  refine callType_new F.called_enumerate (by decide) (F.typeCall_enumerate_1 _) (F.newCall_enumerate_1 _) (fun y => F.args_object_init_2 y _) F.entry_enumerate_new (enum_new1 B) ⟨g, ?_⟩
  show _ ∧ _
  rw [sz]
  have he : IsEnum ((z.heap.push ob).push { cls := .type "enumerate", data := .fields #[.none, .bool false, .ref z.heap.objs.size, rawInt 0, .none, .none] }) (z.heap.objs.size + 1) z.heap.objs.size 0 .none := by
    rw [← sz]
    exact Heap.get?_push_size _ rfl
  exact ⟨⟨_, he, rfl⟩, q _ he (Heap.get?_push_of_some _ (Heap.get?_push_size _ B.free)) fun b y x => Heap.get?_push_of_some _ (Heap.get?_push_of_some _ x)⟩
/-- the tuple at a, each item in a new pair with its number -/
def Iet (K : PySem.W.Frag) (a : Addr) : It :=
  ⟨fun i H => ∃ (xs : List V) (x : V), SqT K H a xs ∧ xs[i]? = some x,
   fun i H v H' => ∃ T x, v = .ref T ∧ H T = none ∧ H' = upd H T (.tup [.int (i : Nat), x]) ∧ ∀ xs, SqT K H a xs → xs[i]? = some x,
   fun i H => ∃ xs : List V, SqT K H a xs ∧ xs.length ≤ i⟩
theorem apart_it {h : Heap} {a it : Addr} {i : Nat} {its : Array Value} (x : h.IsTupleIter it a i) (y : h.IsTuple a its) : a ≠ it := fun z => by
  obtain ⟨o, e, c, _⟩ := x
  obtain ⟨o', e', c', _⟩ := y
  rw [z, e] at e'
  cases e'
  rw [c] at c'
  exact absurd c' (by decide)
theorem turn_enumT {P : Program} {w : World} {K : PySem.W.Frag} {els : List Expr} {kk : Nat} {tp : Pos} (a e it : Addr) :
    Turn P w K (.Tuple els kk tp) (Iet K a) [e, it] e (fun i h => (∃ old, IsEnum h e it ((i : Nat) : Int) old) ∧ h.IsTupleIter it a i ∧ e ≠ it) where
  mem := by simp
  obj := fun i h st b hb => by
    obtain ⟨⟨old, he⟩, ⟨o, ho, hc, hd⟩, _⟩ := st
    rcases List.mem_cons.mp hb with z | z
    · subst z
      exact ⟨_, he, fun _ y => nomatch y⟩
    · exact ⟨o, List.mem_singleton.mp z ▸ ho, fun v q => by rw [hd] at q; cases q⟩
  keep := fun i h h' st k => ⟨st.1.elim fun old he => ⟨old, k e (by simp) _ he⟩, st.2.1.at fun o q => k it (by simp) o q, st.2.2⟩
  item := by
    intro X hP hw hK hc i pins s σ H E I hf st hg
    subst hP hw hK
    obtain ⟨⟨old, he⟩, hit, hne⟩ := st
    obtain ⟨xs, x, hq, hx⟩ := hg
    obtain ⟨its, rv, p, hz⟩ := I.tuple hq
    obtain ⟨u, hu, ru⟩ := rv.get hx
    have pt : s.heap.IsTuple a its.toArray := p
    have el : e < s.heap.objs.size := Heap.lt_size he
    have il : it < s.heap.objs.size := by obtain ⟨_, q, _⟩ := hit; exact Heap.lt_size q
    have nea : e ≠ a := fun z => by
      obtain ⟨o', e', c', _⟩ := pt
      rw [← z] at e'
      have := he.symm.trans e'
      cases this
      exact absurd (show Value.type "enumerate" = Value.type "tuple" from c') (by decide)
    have D := Draws.tuple (prog := X.prog) (w := X.w) (A := X.A.in1) (show X.A.in1.handled = none from I.ok.hd hc) it a (apart_it hit pt) its.toArray
    have hi : i < its.toArray.size := by
      have := (List.getElem?_eq_some_iff.mp hu).1
      simpa using this
    refine wpAny_pyNext_enum_itemD D he ⟨hit, pt⟩ hi hne (by simp [hne, nea]) fun y h1 tk hy ho st1 hT hsz hk => ?_
    have ey : y = u := by
      have : its.toArray[i]? = some u := by simpa using hu
      rw [this] at hy
      exact (Option.some.inj hy).symm
    subst ey
    refine ⟨_, rfl, wpAny_letOwnedTupleGo_enum (s := { s with heap := h1, toks := tk + 1 }) ho fun h2 he2 sb => ?_⟩
    have hT2 : h2.get? s.heap.objs.size = some { cls := .type "tuple", data := .seq #[.int i tk, y] } := (sb.2 _ (Nat.ne_of_gt el)).trans hT
    have new : ObjOk X.prog X.w (upd H s.heap.objs.size (.tup [.int (i : Nat), x])) h2 s.heap.objs.size (.tup [.int (i : Nat), x]) :=
      ⟨by show 2 ≤ sizeLine; decide, [.int i tk, y], .cons ⟨_, rfl⟩ (.cons ru .nil), ⟨_, hT2, rfl, _, rfl⟩⟩
    have I1 : Inv X pins σ (upd H s.heap.objs.size (.tup [.int (i : Nat), x])) { s with heap := h2, toks := tk + 1 } :=
      I.turnedNew (ch := [e, it]) (fun b ob hb q => (sb.2 b (fun z => hb (by simp [z]))).trans (hk b ob (fun z => hb (by simp [z])) (fun z => hb (by simp [z])) q)) hf (Nat.le_refl _) new
    refine ⟨.ref s.heap.objs.size, _, I1, rfl, ⟨_, x, rfl, I.hok.fresh (Nat.le_refl _), rfl, fun ys hy => by rw [I.tuple_inj hy hq]; exact hx⟩, ⟨⟨y, ?_⟩, st1.1.at fun o q => (sb.2 it (Ne.symm hne)).trans q, hne⟩, fun b hb => ?_⟩
    · rw [show ((i + 1 : Nat) : Int) = (i : Int) + 1 by omega]
      exact he2
    · have lt : b < s.heap.objs.size := by
        rcases List.mem_cons.mp hb with z | z
        · rw [z]; exact el
        · rw [List.mem_singleton.mp z]; exact il
      rw [upd_ne (Nat.ne_of_lt lt)]
      exact (hf b hb).1
  done := by
    intro X hP hw hK hc i pins s σ H E I hf st hg
    subst hP hw hK
    obtain ⟨⟨old, he⟩, hit, hne⟩ := st
    obtain ⟨xs, hq, hx⟩ := hg
    obtain ⟨its, rv, p, hz⟩ := I.tuple hq
    obtain ⟨f0, f1, f2, f3, f4, f5⟩ := hf it (by simp)
    have hl := rv.length
    have pt : s.heap.IsTuple a its.toArray := p
    have D : Draws X.prog X.w X.A.in1 it [it, a] i (fun _ _ => True) (fun j h => j = i ∧ h.IsTupleIter it a i ∧ h.IsTuple a its.toArray) :=
      ⟨fun _ _ y => let ⟨o, ho, _⟩ := y.2.1; ⟨o, ho⟩, fun _ _ _ y k => ⟨y.1, y.2.1.at fun o q => k it (by simp) o q, y.2.2.at fun o q => k a (by simp) o q⟩,
       fun j _ _ _ lt y _ => absurd y.1 (Nat.ne_of_lt lt), fun z _ _ y q => wpAny_nextOf_tuple_end (show X.A.in1.handled = none from I.ok.hd hc) y.2.1 y.2.2 (by simp; omega) q⟩
    exact wpAny_pyNext_enum_endD D he ⟨rfl, hit, pt⟩ fun h2 eb => ⟨rfl, I.turned (t' := s.toks) (fun b o hb q => eb b o hb q) f0 f1 f3 f4 f5⟩
  self := fun A i s Q E st h => st.1.elim fun _ he => wpAny_pyIter_enum he h
def iEnumT (K : PySem.W.Frag) (ta : TA) : TI := fun σ H R => ta σ H fun vs H1 => ∃ a xs, vs = [.ref a] ∧ SqT K H1 a xs ∧ R (Iet K a) H1
theorem pi_enumT {X : Cx} {e : Expr} {ta : TA} {p pos tp : Pos} {els : List Expr} {kk : Nat} (hg : Gl X "enumerate") (hm : X.mg "enumerate" = none) (ha : PA X [e] ta) (hs : starEach [e] X.env = [(false, eval e X.env)] := by rfl) :
    PI X (.Tuple els kk tp) (.Call (.Name "enumerate" p) [e] [] pos) (iEnumT X.K ta) := by
  refine ⟨fun pins s σ H R I h => Call_ (ld_blt I hg hm boot_enumerate (PyProof.Rows.callWith_type1 (thn (ha.run pos pins s σ H _ I h) fun us s1 ⟨vs, H1, I1, r1, q1⟩ => ?_) hs rfl))⟩
  obtain ⟨a, xs, rfl, hq, q⟩ := q1
  cases r1 with
  | cons r rr =>
    cases rr
    cases r
    obtain ⟨its, rv, pt, hz⟩ := I1.tuple hq
    refine enum_call (begins_tuple a its.toArray) (show s1.heap.IsTuple a its.toArray from pt) fun h2 he ho hk => wpAny_pyIter_enum he ?_
    refine ⟨s1.heap.objs.size + 1, [s1.heap.objs.size + 1, s1.heap.objs.size], _, _, H1, rfl, I1.kept (t' := s1.toks) hk, turn_enumT a (s1.heap.objs.size + 1) s1.heap.objs.size, ⟨⟨.none, he⟩, ⟨_, ho, rfl, rfl⟩, Nat.succ_ne_self _⟩, fun b hb => ?_, q⟩
    have le : s1.heap.objs.size ≤ b := by
      rcases List.mem_cons.mp hb with z | z
      · rw [z]; exact Nat.le_add_right _ _
      · rw [List.mem_singleton.mp z]; exact Nat.le_refl _
    exact I1.fpOk le (I1.hok.fresh le)
end Any
namespace Any
open L2 PySem PySem.Spec PyProof.Rows LamX NdefX
theorem cut_from (xs : List V) (i : Nat) : cutV xs (some (i : Int)) none = xs.drop i := by
  unfold cutV
  rw [HT.sIx_none, HT.sIx_nat]
  by_cases h : i ≤ xs.length
  · rw [Nat.min_eq_left h, List.take_of_length_le (by rw [List.length_drop]; exact Nat.le_refl _)]
  · rw [Nat.min_eq_right (by omega), List.drop_length, List.drop_of_length_le (by omega), List.take_nil]
theorem walk_enumT {K : PySem.W.Frag} {a : Addr} {xs : List V} : Walk (Iet K a) xs.length (fun H => SqT K H a xs) (YPair (fun i => some (.int (i : Nat))) (fun i => xs[i]?)) := by
  refine ⟨fun i _ hi q => ⟨xs, xs[i], q, by simp [hi]⟩, fun _ q => ⟨xs, q, Nat.le_refl _⟩, fun i H v H' _ q y => ?_⟩
  obtain ⟨T, x, h1, h2, h3, h4⟩ := y
  exact ⟨T, .int (i : Nat), x, h1, h2, h3, rfl, h4 xs q⟩
theorem addB_nil (ps : List Pl) (j : Int) : addB ps j .nil = ps := by rw [addB]
theorem addB_cons (ps : List Pl) (j : Int) (s : Sg) (b : Bd) : addB ps j (.cons s b) = addB (addS ps (begI b (ps.length + s.sz) j) s) j b := by rw [addB]
abbrev sABody : Stmt := top 40
abbrev nmAB : List Str := ["found", "body", "behind", "number", "step", "after"]
abbrev psAB : List Str := ["found", "body", "behind"]
theorem scAB : FnScope nmAB psAB (defScope sABody) := ⟨rfl, rfl, rfl, by decide +kernel, rfl, by decide +kernel, by decide +kernel⟩
theorem no_ab {P : Program} {w : World} {K : PySem.W.Frag} {mg : Str → Option Value} {base : Heap} {f : Addr} {fd : FuncData} {k : Nat} : FnOk P w K mg base CX0 k f fd psAdd (spAS 0) := by
  have no : ∀ vs H Q E, ¬ spAS 0 vs H Q E := fun vs H Q E h => by
    obtain ⟨a, v, j, s, ps, xs, ws, rs, _, _, _, hd, _⟩ := h
    exact absurd hd (Nat.not_le.mpr (Sg.dp_pos s))
  exact ⟨fun vs H Q E h => absurd h (no vs H Q E), fun A outer s H args us vs Q E _ _ _ _ h => absurd h (no vs H Q E)⟩
section
variable {P : Program} {w : World} {K : PySem.W.Frag} {mg : Str → Option Value} {base : Heap} {f g1 g2 g3 : Addr} {fd d1 d2 d3 : FuncData}
theorem ok_abody {n k : Nat} (O : Own mg) (men : mg "enumerate" = none) (F : Fun K "add_body" "add_body" sABody f fd) (GB : FnOk P w K mg base CX0 k g1 d1 ["body", "at", "behind"] spBeg) (bB : Binds K d1 ["body", "at", "behind"] []) (kB : PySem.W.keepIn K (.ref g1) = true) (mB : mg "begin_of" = some (.ref g1))
    (GS : FnOk P w K mg base CX0 k g2 d2 ["step"] (spSSz n)) (bS : Binds K d2 ["step"] []) (kS : PySem.W.keepIn K (.ref g2) = true) (mS : mg "step_size" = some (.ref g2))
    (GA : FnOk P w K mg base CX0 k g3 d3 psAdd (spAS n)) (bA : Binds K d3 psAdd []) (kA : PySem.W.keepIn K (.ref g3) = true) (mA : mg "add_step" = some (.ref g3)) :
    FnOk P w K mg base CX0 (k + 1) f fd psAB (spAB n) := by
  refine F.ok scAB (fun vs H Q E h => ?_) (fun cdv A outer s H vs Q E hr h => ?_)
  · obtain ⟨a, c, j, b, ps, xs, ws, rs, rfl, _⟩ := h
    rfl
  obtain ⟨a, c, j, b, ps, xs, ws, rs, rfl, hF, ⟨us, hc, hu⟩, hd, ho, hlen, hz, q⟩ := h
  have hs : sizeLine = 16777216 := sizeLine_eq
  have tupsOf : ∀ {Hc : Hp}, Kept a H Hc → Tups H Hc := fun k => hF.tups k
  refine ⟨_, pss_one (ps_for PassesOwn.never rfl (pi_enumT rfl men (pa_cons (pv 1) pa_nil)) (pg_tup rfl (pgs_cons (pg_name (i := 3) scAB.nd rfl (Or.inl rfl)) (pgs_cons (pg_name (i := 4) scAB.nd rfl (Or.inl rfl)) pgs_nil)))
    (pss_cons (ps_set (i := 5) scAB.nd rfl (Or.inl rfl) (pe_op op_add (pe_callB call_len_seq rfl O.len PySem.boot_len (pa_cons (pv 0) pa_nil)) (pe_call GS hr rfl mS kS bS .nil pass0 (pa_cons (pv 4) pa_nil))))
    (pss_one (ps_expr (pe_call GA hr rfl mA kA bA .nil pass0 (pa_cons (pv 0) (pa_cons (pv 4) (pa_cons (pe_call GB hr rfl mB kB bB .nil pass0 (pa_cons (pe_slice sl_tup (pv 1) (po_some (pe_op op_add (pv 3) pe_int)) po_none) (pa_cons (pv 5) (pa_cons (pv 2) pa_nil)))) pa_nil)))))))), ?_⟩
  refine ⟨_, rfl, c, us, rfl, SqT.of hc, ?_⟩
  refine for_it (walk_enumT (K := K) (a := c) (xs := us)) (fun i σ Hc => ∃ (x y z : Option V) (r : Bd) (ps2 : List Pl), σ = [some (.ref a), some (.ref c), some (.int j), x, y, z] ∧ Kept a H Hc ∧ FoundAt Hc a ps2 ∧ BdL Hc (us.drop i) r ∧ r.dp ≤ n ∧ r.ok xs ws rs ∧ ps2.length + r.sz ≤ 1000 ∧ addB ps2 j r = addB ps j b) ?_ ?_ ?_ ?_
  · exact ⟨_, _, _, b, ps, rfl, .refl, hF, hu, hd, ho, hz, rfl⟩
  · rintro i σ Hc _ ⟨x, y, z, r, ps2, _, k2, _⟩
    exact SqT.of (tupsOf k2 _ _ hc)
  · rintro i x σ Hc H' hi ⟨o1, o2, o3, r, ps2, rfl, k2, hF2, hr2, hd2, ho2, hz2, he⟩ ⟨T, x1, st, rfl, hT, rfl, hx1, hst⟩
    cases hx1
    have dr : us.drop i = st :: us.drop (i + 1) := by
      rw [List.getElem?_eq_some_iff] at hst
      obtain ⟨lt, e⟩ := hst
      rw [← e]
      exact List.drop_eq_getElem_cons lt
    rw [dr] at hr2
    cases r with
    | nil =>
      unfold BdL at hr2
      cases hr2
    | cons sg r =>
      unfold BdL at hr2
      obtain ⟨v, us2, e2, hsg, hr2⟩ := hr2
      cases e2
      unfold Bd.dp at hd2
      unfold Bd.ok at ho2
      unfold Bd.sz at hz2
      rw [addB_cons] at he
      have s1 := same_new hT (.tup [.int (i : Nat), st])
      refine ⟨T, _, rfl, SqT.of upd_same, rfl, _, _, rfl, _, _, rfl, rfl, ?_⟩
      have F1 := hF2.keep s1
      have k1 : Kept a H _ := k2.trans (Kept.of s1)
      have g1 := SgAt.keep (Same.tups s1) sg hsg
      have r1 := BdL.keep (Same.tups s1) r hr2
      generalize upd Hc T (.tup [.int (i : Nat), st]) = H1 at *
      obtain ⟨vs, ha, hp⟩ := id F1
      have hl := paired_len hp
      refine ⟨_, rfl, a, _, rfl, .inl (SqL.of ha), _, rfl, st, sg, xs, ws, rs, rfl, g1, by omega, ho2.1, fun H2 s2 => ⟨_, _, rfl, rfl, ?_⟩⟩
      rw [hl]
      have c2 := s2 _ _ (tupsOf k1 _ _ hc)
      refine ⟨_, rfl, _, rfl, _, rfl, _, rfl, _, _, rfl, rfl, _, rfl, c, us, rfl, SqT.of c2, ?_, fun p3 n3 => ?_⟩
      · rw [show ((i : Int) + 1) = ((i + 1 : Nat) : Int) by omega, HT.sIx_nat]
        omega
      rw [show ((i : Int) + 1) = ((i + 1 : Nat) : Int) by omega, cut_from]
      have s3 := s2.trans (same_new n3 (.tup (us.drop (i + 1))))
      refine ⟨_, rfl, _, rfl, p3, us.drop (i + 1), _, _, rfl, upd_same, ?_⟩
      rw [beg_eq (BdL.keep (Same.tups s3) r r1)]
      refine ⟨a, st, _, sg, ps2, xs, ws, rs, rfl, F1.keep s3, SgAt.keep (Same.tups s3) sg g1, by omega, ho2.1, by omega, fun H4 k4 F4 => ?_⟩
      refine ⟨_, _, _, r, _, rfl, k1.trans ((Kept.of s3).trans k4), F4, BdL.keep ((F1.keep s3).tups k4) r (BdL.keep (Same.tups s3) r r1), by omega, ho2.2, by rw [addS_len]; omega, he⟩
  · rintro σ Hc ⟨x, y, z, r, ps2, rfl, k2, hF2, hr2, hd2, ho2, hz2, he⟩
    rw [List.drop_length] at hr2
    cases r with
    | nil =>
      rw [addB_nil] at he
      rw [← he] at q
      exact q Hc k2 hF2
    | cons sg r =>
      unfold BdL at hr2
      obtain ⟨v, us2, e2, _⟩ := hr2
      cases e2
end
end Any
namespace Any
open L2 PySem PySem.Spec PyProof.Rows LamX NdefX
mutual
theorem Sg.sz_tot : ∀ s : Sg, s.sz ≤ 3 * s.tot
  | .ifs _ a b => by
    have h1 := a.sz_tot
    have h2 := b.sz_tot
    unfold Sg.sz Sg.tot
    omega
  | .fors _ _ a => by
    have h1 := a.sz_tot
    unfold Sg.sz Sg.tot
    omega
  | .call _ _ _ => by unfold Sg.sz Sg.tot; omega
  | .set _ _ => by unfold Sg.sz Sg.tot; omega
  | .say _ _ => by unfold Sg.sz Sg.tot; omega
  | .hear _ => by unfold Sg.sz Sg.tot; omega
theorem Bd.sz_tot : ∀ b : Bd, b.sz ≤ 3 * b.tot
  | .nil => by unfold Bd.sz; omega
  | .cons s b => by
    have h1 := s.sz_tot
    have h2 := b.sz_tot
    unfold Bd.sz Bd.tot
    omega
end
section
variable {P : Program} {w : World} {K : PySem.W.Frag} {mg : Str → Option Value} {base : Heap}
/-- the places of bodies that stand within one another n deep -/
theorem all_ab (O : Own mg) (men : mg "enumerate" = none) (NB : Nd K mg "add_body" sABody psAB) (NS : Nd K mg "add_step" sAStep psAdd) (NI : Nd K mg "add_if" sAIf psAdd) (NF : Nd K mg "add_for" sAFor psAdd) (NC : Nd K mg "add_call" sACall psAdd)
    (NG : Nd K mg "begin_of" sBeg ["body", "at", "behind"]) (NZ : Nd K mg "body_size" sBSz ["body"]) (NY : Nd K mg "step_size" sSSz ["step"]) (n : Nat) :
    Df P w K mg base (3 * n + 2) "add_body" psAB (spAB n) ∧ Df P w K mg base (2 * n + 1) "body_size" ["body"] (spBSz n) ∧ Df P w K mg base 1 "begin_of" ["body", "at", "behind"] spBeg := by
  obtain ⟨fB, dB, mB, FB, bB⟩ := NB
  obtain ⟨fS, dS, mS, FS, bS⟩ := NS
  obtain ⟨fI, dI, mI, FI, bI⟩ := NI
  obtain ⟨fF, dF, mF, FF, bF⟩ := NF
  obtain ⟨fC, dC, mC, FC, bC⟩ := NC
  obtain ⟨fG, dG, mG, FG, bG⟩ := NG
  obtain ⟨fZ, dZ, mZ, FZ, bZ⟩ := NZ
  obtain ⟨fY, dY, mY, FY, bY⟩ := NY
  have SZ : ∀ n, FnOk P w K mg base CX0 (2 * n) fY dY ["step"] (spSSz n) := all_ssz O FY bY mY FZ bZ mZ
  have BZ : ∀ n, FnOk P w K mg base CX0 (2 * n + 1) fZ dZ ["body"] (spBSz n) := fun n => ok_bsz O FZ (SZ n) bY FY.kp mY
  have BG : FnOk P w K mg base CX0 1 fG dG ["body", "at", "behind"] spBeg := ok_beg O FG
  have AC : FnOk P w K mg base CX0 1 fC dC psAdd spACall := ok_acall O FC
  have body : ∀ n, FnOk P w K mg base CX0 (3 * n + 1) fS dS psAdd (spAS n) → FnOk P w K mg base CX0 (3 * n + 2) fB dB psAB (spAB n) := fun n h =>
    ok_abody O men FB (BG.mono (by omega)) bG FG.kp mG ((SZ n).mono (by omega)) bY FY.kp mY h bS FS.kp mS
  have step : ∀ n, FnOk P w K mg base CX0 (3 * n + 1) fS dS psAdd (spAS n) := fun n => by
    induction n with
    | zero => exact no_ab
    | succ n ih =>
      have b := body n ih
      have i := ok_aif O FI (BG.mono (show 1 ≤ 3 * n + 2 by omega)) bG FG.kp mG ((BZ n).mono (show 2 * n + 1 ≤ 3 * n + 2 by omega)) bZ FZ.kp mZ b bB FB.kp mB
      have f := ok_afor O FF (BG.mono (show 1 ≤ 3 * n + 2 by omega)) bG FG.kp mG b bB FB.kp mB
      exact (ok_astep FS i bI FI.kp mI f bF FF.kp mF (AC.mono (show 1 ≤ 3 * n + 2 + 1 by omega)) bC FC.kp mC).mono (by omega)
  exact ⟨⟨fB, dB, mB, FB.kp, body n (step n), bB⟩, ⟨fZ, dZ, mZ, FZ.kp, BZ n, bZ⟩, ⟨fG, dG, mG, FG.kp, BG, bG⟩⟩
end
/-! ### room_places -/
def Rm.behind (r : Rm) : Int := if r.above = "" then 0 else r.body.sz + 1
/-- what a room's places are (point 9) -/
def Rm.places (r : Rm) : List Pl :=
  let ps := addB [.home (begI r.body 1 r.behind)] r.behind r.body
  if r.above = "" then ps else match r.told with
    | some (b, e) => ps ++ [.tell b e (r.behind + 1)] ++ [.told 0]
    | none => ps
/-- what is asked of a room whose places are laid -/
structure Rm.lays (r : Rm) : Prop where
  ok : ∃ xs ws rs, r.body.ok xs ws rs
  len : r.body.len ≤ 12
  dp : r.body.dp ≤ 4
  sz : r.body.sz ≤ 900
  told : r.above ≠ "" → ∃ i e, r.told = some (i, e)
def spRP (C : Addr) : Sp := fun vs H Q _ => ∃ x r, vs = [.ref x] ∧ RmAt C H x r ∧ r.lays ∧ ∀ p H', H p = none → Same H H' → FoundAt H' p r.places → Q (.ref p) H'
abbrev sRP : Stmt := top 36
abbrev nmRP : List Str := ["room", "many", "behind", "found", "bound", "expression"]
theorem scRP : FnScope nmRP ["room"] (defScope sRP) := ⟨rfl, rfl, rfl, by decide +kernel, rfl, by decide +kernel, by decide +kernel⟩
section
variable {P : Program} {w : World} {K : PySem.W.Frag} {mg : Str → Option Value} {base : Heap} {f C : Addr} {fd : FuncData}
theorem ok_rp (T : RoomC K C) (F : Fun K "room_places" "room_places" sRP f fd) (DB : Df P w K mg base 14 "add_body" psAB (spAB 4)) (DZ : Df P w K mg base 9 "body_size" ["body"] (spBSz 4)) (DG : Df P w K mg base 1 "begin_of" ["body", "at", "behind"] spBeg) :
    FnOk P w K mg base CX0 15 f fd ["room"] (spRP C) := by
  refine F.ok scRP (fun vs H Q E h => ?_) (fun cdv A outer s H vs Q E hr h => ?_)
  · obtain ⟨x, r, rfl, _⟩ := h
    rfl
  obtain ⟨x, r, rfl, hx, ⟨⟨xs, ws, rs, ho⟩, hl, hd, hz, ht⟩, q⟩ := h
  obtain ⟨dx, n, a, b, s', k, t, p, y, h1, h2⟩ := id hx
  have ha := h2.above
  subst ha
  obtain ⟨c, rfl, hc⟩ := h2.body
  have hs : sizeLine = 16777216 := sizeLine_eq
  have hr9 := hr.mono (show 9 ≤ 14 by decide)
  have hr1 := hr.mono (show 1 ≤ 14 by decide)
  obtain ⟨t1, ht1, leaf⟩ : ∃ t1, PSs (cxOf CX0 P w K mg base nmRP "room_places" (defScope sRP) f cdv A outer s H E).nox ((defBody sRP).drop 2) t1 ∧
      ∀ (m : V) (H1 : Hp), Same H H1 → t1 { nx := fun _ H' => Q .non H', rt := Q } [some (.ref x), some m, some (.int r.behind), none, none, none] H1 := by
    refine ⟨_, pss_cons (ps_set (i := 3) scRP.nd rfl (Or.inl rfl) (pe_lst (pa_cons (pe_tup (pa_cons pe_str (pa_cons (pe_D DG hr1 rfl (pa_cons (pe_fld (pv 0) rfl) (pa_cons pe_int (pa_cons (pv 2) pa_nil)))) pa_nil))) pa_nil)))
      (pss_cons (ps_expr (pe_D DB hr rfl (pa_cons (pv 3) (pa_cons (pe_fld (pv 0) rfl) (pa_cons (pv 2) pa_nil)))))
      (pss_cons (ps_if (pt_cmpR op_ne (pe_fld (pv 0) rfl) pe_str (nomark _))
        (pss_cons (ps_asg (pe_fld (pv 0) rfl) (pg_tup rfl (pgs_cons (pg_name (i := 4) scRP.nd rfl (Or.inl rfl)) (pgs_cons (pg_name (i := 5) scRP.nd rfl (Or.inl rfl)) pgs_nil))))
        (pss_cons (ps_expr (pe_bm PySem.F.plainAttrs_list PySem.F.slot_list_append PySem.F.type_list_append mt_append (pv 3) (pa_cons (pe_tup (pa_cons pe_str (pa_cons (pv 4) (pa_cons (pv 5) (pa_cons (pe_op op_add (pv 2) pe_int) pa_nil))))) pa_nil)))
        (pss_one (ps_expr (pe_bm PySem.F.plainAttrs_list PySem.F.slot_list_append PySem.F.type_list_append mt_append (pv 3) (pa_cons (pe_tup (pa_cons pe_str (pa_cons pe_int pa_nil))) pa_nil)))))) pss_nil)
      (pss_one (ps_ret (pv 3))))), ?_⟩
    intro m H1 s1
    obtain ⟨us, e1, e2⟩ := hc.keep (Same.tups s1)
    refine ⟨_, rfl, x, C, dx, _, _, rfl, s1 _ _ h1, T.cl, T.n8, rf_body, _, rfl, c, us, _, _, rfl, e1, ?_⟩
    rw [beg_eq e2]
    refine ⟨(by show 2 ≤ sizeLine; omega), fun p2 n2 => ⟨(by show 1 ≤ sizeLine; omega), fun p3 n3 => ?_⟩⟩
    have s2 := same_new n2 (.tup [.str "home", .int (begI r.body 1 r.behind)])
    have s3 := s1.trans (s2.trans (same_new n3 (.lst [.ref p2])))
    have f3 : FoundAt (upd (upd H1 p2 (.tup [.str "home", .int (begI r.body 1 r.behind)])) p3 (.lst [.ref p2])) p3 [.home (begI r.body 1 r.behind)] := ⟨[.ref p2], upd_same, .cons (.home (same_new n3 _ _ _ upd_same)) .nil⟩
    have np3 : H p3 = none := s1.free (s2.free n3)
    clear s2
    generalize upd (upd H1 p2 (.tup [.str "home", .int (begI r.body 1 r.behind)])) p3 (.lst [.ref p2]) = H3 at *
    refine ⟨_, rfl, _, rfl, x, C, dx, _, _, rfl, s3 _ _ h1, T.cl, T.n8, rf_body, _, rfl, p3, c, r.behind, r.body, _, xs, ws, rs, rfl, f3, hc.keep (Same.tups s3), hd, ho, hl, (by show 1 + r.body.sz ≤ 1000; omega), fun H4 k4 f4 => ?_⟩
    have s4 := kept_same s3 np3 k4
    refine ⟨_, rfl, x, C, dx, _, _, rfl, s4 _ _ h1, T.cl, T.n2, rf_above, rfl, _, rfl, itN (fun c1 => ?_) (fun c1 => ?_)⟩
    · have c1 : r.above ≠ "" := fun z => c1 (by rw [z])
      obtain ⟨i, e, et⟩ := ht c1
      have h2t := h2.told
      rw [et] at h2t
      obtain ⟨u, v, rfl, hu, hv⟩ := h2t
      refine ⟨_, rfl, x, C, dx, _, _, rfl, s4 _ _ h1, T.cl, T.n6, rf_told, u, _, rfl, SqT.of (s4 _ _ hu), rfl, _, _, rfl, _, _, rfl, rfl, ?_⟩
      obtain ⟨vs, hv4, hp4⟩ := f4
      have l4 := paired_len hp4
      rw [addB_len, List.length_singleton] at l4
      refine ⟨_, rfl, .inl ⟨rfl, _, SqL.of hv4⟩, _, rfl, _, rfl, _, rfl, _, _, rfl, rfl, (by show 4 ≤ sizeLine; omega), fun p5 n5 => ?_⟩
      have s5 := same_new n5 (.tup [.str "tell", .int i, v, .int (r.behind + 1)])
      refine ⟨p3, _, _, rfl, rfl, s5 _ _ hv4, by omega, ?_⟩
      have f5 := FoundAt.more (s5 _ _ hv4) (paired_imp (fun _ _ z => z.keep (Same.tups s5)) hp4) (.tell upd_same (hv.keep (Same.tups (s4.trans s5))))
      have k5 : Kept p3 H4 _ := (Kept.of s5).trans (Kept.put (b := p3) (.lst (vs ++ [.ref p5])))
      generalize upd (upd H4 p5 (.tup [.str "tell", .int i, v, .int (r.behind + 1)])) p3 (.lst (vs ++ [.ref p5])) = H5 at *
      obtain ⟨v5, hv5, hp5⟩ := f5
      have l5 := paired_len hp5
      rw [List.length_append, addB_len, List.length_singleton, List.length_singleton] at l5
      refine ⟨_, rfl, .inl ⟨rfl, _, SqL.of hv5⟩, (by show 2 ≤ sizeLine; omega), fun p6 n6 => ?_⟩
      have s6 := same_new n6 (.tup [.str "told", .int 0])
      refine ⟨p3, _, _, rfl, rfl, s6 _ _ hv5, by omega, ?_⟩
      have f6 := FoundAt.more (s6 _ _ hv5) (paired_imp (fun _ _ z => z.keep (Same.tups s6)) hp5) (.told upd_same)
      refine ⟨_, rfl, q p3 _ np3 (kept_same s4 np3 (k5.trans ((Kept.of s6).trans (Kept.put _)))) ?_⟩
      unfold Rm.places
      rw [if_neg c1, et]
      exact f6
    · have c1 : r.above = "" := V.str.inj c1
      refine ⟨_, rfl, q p3 H4 np3 s4 ?_⟩
      unfold Rm.places
      rw [if_pos c1]
      exact f4
  refine ⟨_, pss_cons (ps_set (i := 1) scRP.nd rfl (Or.inl rfl) (pe_D DZ hr9 rfl (pa_cons (pe_fld (pv 0) rfl) pa_nil)))
    (pss_cons (ps_set (i := 2) scRP.nd rfl (Or.inl rfl) (pe_ifExp (pt_cmpR op_eq (pe_fld (pv 0) rfl) pe_str (nomark _)) pe_int (pe_op op_add (pv 1) pe_int))) ht1), ?_⟩
  refine ⟨_, rfl, x, C, dx, _, _, rfl, h1, T.cl, T.n8, rf_body, c, r.body, xs, ws, rs, rfl, hc, hd, ho, hl, fun H1 s1 => ?_⟩
  refine ⟨_, rfl, x, C, dx, _, _, rfl, s1 _ _ h1, T.cl, T.n2, rf_above, rfl, _, rfl, itD (fun c1 => ?_) (fun c1 => ?_)⟩
  · have e0 : r.behind = 0 := if_pos (V.str.inj c1)
    have z := leaf (.int r.body.sz) H1 s1
    rw [e0] at z
    exact z
  · have e0 : r.behind = r.body.sz + 1 := if_neg fun z => c1 (by rw [z])
    have z := leaf (.int r.body.sz) H1 s1
    rw [e0] at z
    exact ⟨_, rfl, _, _, rfl, rfl, z⟩
end
end Any
set_option pp.maxSteps 600
namespace PySem.SeqAt
open PySem
theorem dict_eq_declines_str (l : Addr) (es : Array DictEntry) (n : Nat) (dd : Option Addr) (sl : Array (Option Value)) (b : Str) (u : Tok) :
    Meets (Builtin.«dict.__eq__» ⟨[.ref l, .str b u], []⟩) (fun _ R s => s.heap.get? l = some { cls := .type "dict", dict := dd, data := .dict es n, slots := sl } ∧ R (.ok (.ret .notImplemented)) s) :=
  .of_wp fun prog w A R s h => by obtain ⟨hp, g, d, tk, os⟩ := s; obtain ⟨hl, h⟩ := h; have f1 := F.sub_str_dict; wp_walk using wpAny_loadPart' hl; exact ⟨_, rfl, h⟩
theorem str_eq_declines_dict (b : Str) (u : Tok) (l : Addr) (es : Array DictEntry) (n : Nat) (dd : Option Addr) (sl : Array (Option Value)) :
    Meets (Builtin.«str.__eq__» ⟨[.str b u, .ref l], []⟩) (fun _ R s => s.heap.get? l = some { cls := .type "dict", dict := dd, data := .dict es n, slots := sl } ∧ R (.ok (.ret .notImplemented)) s) :=
  .of_wp fun prog w A R s h => by obtain ⟨hp, g, d, tk, os⟩ := s; obtain ⟨hl, h⟩ := h; wp_walk using wpAny_loadPart' hl, wpAny_load hl; exact ⟨_, rfl, h⟩
theorem RcAt.str_dict {A : Around} {s : Shared} {l : Addr} {o : Obj} {es : Array DictEntry} {n : Nat} (b : Str) (u : Tok) (ho : s.heap.get? l = some o) (hc : o.cls = .type "dict") (hd : o.data = .dict es n) (hu : A.units < cLine) : RcAt A s (.str b u) (.ref l) false := fun prog w E Q h => by
  obtain ⟨cls, dd, data, sl⟩ := o
  simp only at hc hd
  subst hc hd
  exact rc_eq_decline_or (k := false) (typeIs_str s b u) ⟨_, ho, rfl⟩ (by decide) F.sub_dict_str F.slot_str_eq F.slot_dict_eq_refl
    (fun _ hq => call_meets F.slot_str_eq (typeIs_str s b u) F.entry_str_eq (F.args_str_eq_2 _ _) (str_eq_declines_dict b u l es n dd sl) ⟨ho, hq⟩)
    (fun _ hq => call_meets F.slot_dict_eq_refl ⟨_, ho, rfl⟩ F.entry_dict_eq (F.args_dict_eq_2 _ _) (dict_eq_declines_str l es n dd sl b u) ⟨ho, hq⟩)
    (fun _ hq => wpAny_of_eq (rfl : isSame (.str b u) (.ref l) = pure false) hq) (.inr hu) h
end PySem.SeqAt
namespace Any
open L2 PySem PySem.Spec PyProof.Rows LamX NdefX
/-- a text that is not this thing -/
def NeV (K : PySem.W.Frag) (H : Hp) (x : Str) (v : V) : Prop := (∃ d, Dp K H v d ∧ SeqAt.shaped (.str x) = true ∧ SeqAt.shaped d = true ∧ PyData.eqv (.str x) d = false) ∨ ∃ p kvs, v = .ref p ∧ H p = some (.dK kvs)
def rNeX (K : PySem.W.Frag) : R2 := fun x y H Q => ∃ z, x = .str z ∧ NeV K H z y ∧ Q (.bl false) H
theorem op_eqX {X : Cx} (hu : X.A.units + 64 < cLine) : OpR X (compareOp .Eq) (rNeX X.K) := by
  intro pins s σ H x y v u Q I rx ry h
  obtain ⟨z, rfl, h, q⟩ := h
  rcases h with ⟨d, h1, h2, h3, h4⟩ | ⟨p, kvs, rfl, hp⟩
  · refine op_eqD hu pins s σ H (.str z) y v u Q I rx ry ⟨.str z, d, .str z, h1, h2, h3, ?_⟩
    rw [h4]
    exact q
  · obtain ⟨t, rfl⟩ := rx
    cases (show u = Value.ref p from ry)
    obtain ⟨_, _, vs, rel, o, es, ep, e1, e2, e3, _⟩ := I.hok p _ hp
    exact SeqAt.RcAt.str_dict z t e1 e2.1 e3 (by omega) _ _ _ _ ⟨.bl false, H, I, rfl, q⟩
end Any
set_option pp.maxSteps 600
namespace Any
open L2 PySem PySem.Spec PyProof.Rows LamX NdefX
/-! ### NoRoom, room_of -/
abbrev sNR : Stmt := inClass (top 59) 0
theorem scNR : FnScope ["self", "name"] ["self", "name"] (defScope sNR) := ⟨rfl, rfl, rfl, by decide +kernel, rfl, by decide +kernel, by decide +kernel⟩
structure NoRoomC (K : PySem.W.Frag) (mg : Str → Option Value) (CN : Addr) : Prop where
  ox : OxC K CN "LookupError" "LookupError.__new__" "LookupError.__init__" tLookup
  no : PySem.W.findIn K (.ref CN) "name" = some none
  xf : XfC K CN
  ex : ExcC K CN
  le : PySem.W.kitOne K (.ref CN) (.type "LookupError") = some true
  me : PySem.W.exmOne K (.ref CN) (.ref CN) = some true
  mL : mg "LookupError" = none
  vL : PySem.W.findCls K (.type "LookupError") (.type "type") "__init__" = some (.val (.builtin "LookupError.__init__"))
  mN : mg "NoRoom" = some (.ref CN)
section
variable {P : Program} {w : World} {K : PySem.W.Frag} {mg : Str → Option Value} {base : Heap} {f C D CN : Addr} {fd : FuncData}
theorem ok_noroom (Z : NoRoomC K mg CN) (F : Fun K "__init__" "NoRoom.__init__" sNR f fd) : FnG P w K mg base CX0 1 f fd ["self", "name"] (spX1 CN "name" (Small K)) := by
  refine fun_g F scNR (fun vs H Q E h => ?_) (fun cdv A outer s H vs Q E hG hr h => ?_)
  · obtain ⟨a, y, rfl, _⟩ := h
    rfl
  obtain ⟨a, y, rfl, ⟨z, hz, hl⟩, ha, q⟩ := h
  have hG' : (A.deeper (envOfC "NoRoom.__init__" (defScope sNR) s.heap.objs.size f cdv)).guards = some [] := hG
  have hu : (A.deeper (envOfC "NoRoom.__init__" (defScope sNR) s.heap.objs.size f cdv)).units + 70 < cLine := by have := hr.un; omega
  have hs : sizeLine = 16777216 := sizeLine_eq
  refine ⟨_, PSs.nox (pss_cons (ps_expr (pe_xinit (Bs := "LookupError") (nw := "LookupError.__new__") (T := tLookup) rfl Z.mL Z.vL (pa_cons (pv 0) (pa_cons (pe_joined (.cons pe_str (.cons (pe_fmtA hG' hu (pv 1)) .nil))) pa_nil)))) (pss_one (ps_xset (B := "LookupError") (nw := "LookupError.__new__") (ini := "LookupError.__init__") (T := tLookup) (pv 0) (pv 1)))), ?_⟩
  have c0 : (Str.empty : Str).length = 0 := rfl
  have c1 : ("no room of the program is called " : Str).length = 33 := by decide +kernel
  refine ⟨_, rfl, ?_⟩
  refine ⟨_, rfl, by rw [Str.length_append, c0, c1]; omega, _, rfl, z, hz, by omega, ?_⟩
  refine ⟨_, rfl, by rw [Str.length_append, Str.length_append, c0, c1]; omega, ?_⟩
  refine ⟨a, CN, _, rfl, by show 1 ≤ 1000; decide, Z.ox, ha, ?_⟩
  exact ⟨_, rfl, _, rfl, a, CN, rfl, Z.ox, Z.no, .inl ⟨ha, fun dx h1 h2 => q dx h1 h2⟩⟩
end
/-- a program that holds these rooms -/
def HeldAt (D : Addr) (H : Hp) (x R : Addr) : Prop := ∃ dx v, H x = some (.ins D dx [("held", .ref R), ("drawn", v)])
theorem HeldAt.keep {D : Addr} {H H' : Hp} {x R : Addr} (h : HeldAt D H x R) (s : Same H H') : HeldAt D H' x R := by
  obtain ⟨dx, v, h1⟩ := h
  exact ⟨dx, v, s _ _ h1⟩
theorem pf_held {a b : V} : ([("held", a), ("drawn", b)] : List (Str × V)).lookup ("held" : Str) = some a := lk_hit
theorem pf_none {a b : V} {x : Str} (h1 : (x == ("held" : Str)) = false) (h2 : (x == ("drawn" : Str)) = false) : ([("held", a), ("drawn", b)] : List (Str × V)).lookup x = none := (lk_skip h1).trans ((lk_skip h2).trans rfl)
abbrev sRO : Stmt := inClass (top 75) 2
theorem scRO : FnScope ["self", "name", "room"] ["self", "name"] (defScope sRO) := ⟨rfl, rfl, rfl, by decide +kernel, rfl, by decide +kernel, by decide +kernel⟩
def spRO (C D : Addr) : Sp := fun vs H Q _ => ∃ (x R : Addr) (n : Str) (rs : List Rm) (i : Nat) (r : Rm), vs = [.ref x, .str n] ∧ HeldAt D H x R ∧ RsAt C H R rs ∧ rs[i]? = some r ∧ r.name = n ∧ (∀ j r', j < i → rs[j]? = some r' → r'.name ≠ n) ∧
  ∀ a, RmAt C H a r → Q (.ref a) H
/-- .. of a thing that is no room's name -/
def spROX (K : PySem.W.Frag) (C D CN : Addr) : Sp := fun vs H _ E => ∃ (x R : Addr) (v : V) (rs : List Rm), vs = [.ref x, v] ∧ HeldAt D H x R ∧ RsAt C H R rs ∧ (∀ r ∈ rs, NeV K H r.name v) ∧
  (∀ H', Same H H' → Small K H' v) ∧ ∀ b H', Same H H' → H' b = some (.xd [("name", v)]) → E (.ref CN) (some b) H'
/-- what is known of Program's held -/
structure HeldC (K : PySem.W.Frag) (D : Addr) : Prop where
  cl : Cls K D
  held : NoAttr K D "held"
section
variable {P : Program} {w : World} {K : PySem.W.Frag} {mg : Str → Option Value} {base : Heap} {f C D CN nf : Addr} {fd nd : FuncData}
theorem ok_ro (T : RoomC K C) (TP : HeldC K D) (F : Fun K "room_of" "Program.room_of" sRO f fd) : FnOk P w K mg base CX0 1 f fd ["self", "name"] (spRO C D) := by
  refine F.ok scRO (fun vs H Q E h => ?_) (fun cdv A outer s H vs Q E hr h => ?_)
  · obtain ⟨x, R, n, rs, i, r, rfl, _⟩ := h
    rfl
  obtain ⟨x, R, n, rs, i, r, rfl, ⟨dx, v, hx⟩, ⟨as, hR, hp⟩, hi, hn, hno, q⟩ := h
  have hl := paired_len hp
  have hlt : i < rs.length := (List.getElem?_eq_some_iff.mp hi).1
  refine ⟨_, pss_cons (ps_for PassesOwn.never rfl (pi_tup (pe_fld (pv 0) rfl)) (pg_name (i := 2) scRO.nd rfl (Or.inl rfl)) (pss_one (ps_if (pt_cmpR op_eq (pe_fld (pv 2) rfl) (pv 1) (nomark _)) (pss_one (ps_ret (pv 2))) pss_nil))) (pss_one ps_never), ?_⟩
  refine ⟨_, rfl, x, D, dx, _, _, rfl, hx, TP.cl, TP.held, pf_held, R, rfl, ⟨_, SqT.of hR⟩, ?_⟩
  refine for_tup (K := K) (a := R) (xs := as.map V.ref) (fun j σ Hc => ∃ y, σ = [some (.ref x), some (.str n), y] ∧ Hc = H ∧ j ≤ i) ⟨_, rfl, rfl, Nat.zero_le _⟩ ?_ ?_ ?_
  · rintro j σ Hc _ ⟨y, rfl, rfl, _⟩
    exact SqT.of hR
  · rintro j z σ Hc hz ⟨y, rfl, rfl, hj⟩
    obtain ⟨e, he, rfl⟩ := refs_at hz
    obtain ⟨r', hr', hat⟩ := paired_get hp he
    obtain ⟨dx', n', a', b', s'', k', t', p', y', h1', h2'⟩ := id hat
    have hn' := h2'.name
    subst hn'
    refine ⟨_, rfl, e, C, dx', _, _, rfl, h1', T.cl, T.n1, rf_name, _, rfl, rfl, _, rfl, itD (fun c => ?_) (fun c => ?_)⟩
    · have c := V.str.inj c
      by_cases hji : j = i
      · subst hji
        rw [hi] at hr'
        cases hr'
        exact ⟨_, rfl, q e hat⟩
      · exact absurd c (hno j r' (by omega) hr')
    · refine ⟨_, rfl, rfl, ?_⟩
      by_cases hji : j = i
      · subst hji
        rw [hi] at hr'
        cases hr'
        exact absurd (by rw [hn]) c
      · omega
  · rintro σ Hc ⟨y, rfl, rfl, hj⟩
    rw [List.length_map] at hj
    omega
theorem ok_rox (T : RoomC K C) (TP : HeldC K D) (Z : NoRoomC K mg CN) (iN : PySem.W.findIn K (.ref CN) "__init__" = some (some (.ref nf))) (tN : PySem.W.typeIn K (.ref nf) = some (.type "function")) (GN : FnG P w K mg base CX0 1 nf nd ["self", "name"] (spX1 CN "name" (Small K))) (bN : Binds K nd ["self", "name"] [])
    (F : Fun K "room_of" "Program.room_of" sRO f fd) : FnG P w K mg base (L2.CX P w) 3 f fd ["self", "name"] (spROX K C D CN) := by
  refine fun_gX F scRO (fun vs H Q E h => ?_) (fun cdv A outer s H vs Q E hG hr h => ?_)
  · obtain ⟨x, R, v, rs, rfl, _⟩ := h
    rfl
  obtain ⟨x, R, v, rs, rfl, ⟨dx, v2, hx⟩, ⟨as, hR, hp⟩, hne, hsm, q⟩ := h
  have hG' : (A.deeper (envOfC "Program.room_of" (defScope sRO) s.heap.objs.size f cdv)).guards = some [] := hG
  let X := cxOf (L2.CX P w) P w K mg base ["self", "name", "room"] "Program.room_of" (defScope sRO) f cdv A outer s H E
  have tk : Takes X (fun cls d _ H => E cls d H) := takes_of rfl rfl rfl rfl
  have hr2 : Room 2 X.A := hr
  refine ⟨_, pss_cons (ps_for (passes_of rfl) rfl (pi_tup (pe_fld (pv 0) rfl)) (pg_name (i := 2) scRO.nd rfl (Or.inl rfl)) (pss_one (ps_if (pt_cmpR (op_eqX hr.units) (pe_fld (pv 2) rfl) (pv 1) (nomark _)) (pss_one (ps_ret (pv 2))) pss_nil)))
    (pss_one (ps_raise rfl tk (pmk_xex Z.ox iN tN hG' GN hr2 bN pass0 rfl Z.mN (pa_cons (pv 1) pa_nil)))), ?_⟩
  refine ⟨_, rfl, x, D, dx, _, _, rfl, hx, TP.cl, TP.held, pf_held, R, rfl, ⟨_, SqT.of hR⟩, ?_⟩
  refine for_tup (K := K) (a := R) (xs := as.map V.ref) (fun j σ Hc => ∃ y, σ = [some (.ref x), some v, y] ∧ Hc = H) ⟨_, rfl, rfl⟩ ?_ ?_ ?_
  · rintro j σ Hc _ ⟨y, rfl, rfl⟩
    exact SqT.of hR
  · rintro j z σ Hc hz ⟨y, rfl, rfl⟩
    obtain ⟨e, he, rfl⟩ := refs_at hz
    obtain ⟨r', hr', hat⟩ := paired_get hp he
    obtain ⟨dx', n', a', b', s'', k', t', p', y', h1', h2'⟩ := id hat
    have hn' := h2'.name
    subst hn'
    refine ⟨_, rfl, e, C, dx', _, _, rfl, h1', T.cl, T.n1, rf_name, _, rfl, _, rfl, hne r' (List.mem_of_getElem? hr'), _, rfl, itF rfl ⟨_, rfl, rfl⟩⟩
  · rintro σ Hc ⟨y, rfl, rfl⟩
    exact ⟨_, rfl, x1_made hsm q⟩
end
end Any
set_option pp.maxSteps 600
namespace PySem.W
open PySem
/-- max(a list of ints, default=d) -/
theorem max_intsD {prog : Program} {w : World} {A : Around} {E : Value → Shared → Prop} {s : Shared} {l : Addr} {xs : Array (Int × Tok)} {d : Value} {Q : Value → Shared → Prop} (hh : A.handled = none) (hl : s.heap.IsList l (intItems xs))
    (h0 : xs.size = 0 → ∀ h' tk, (∀ b o, s.heap.get? b = some o → h'.get? b = some o) → Q d { s with heap := h', toks := tk })
    (h : 0 < xs.size → ∀ v h' tk, (intItems xs)[argBest (fun i j => decide (numAt xs i > numAt xs j)) (xs.size - 1)]? = some v → (∀ b o, s.heap.get? b = some o → h'.get? b = some o) → Q v { s with heap := h', toks := tk }) :
    wpAny (model prog w) A (call (.builtin "max") [.ref l] [(Str.ofString "default", d)]) Q E s := by
  have es : (intItems xs).size = xs.size := by simp [intItems]
  refine call_max_walkD (iter_listW (A := A.in1) hh hl fun s₂ e W st hfp hw hk => ?_)
  refine ⟨_, _, _, _, _, _, _, s.heap, (fun i j => decide (numAt xs i > numAt xs j)), rfl, W, st, hfp, hw, hk, fun hz s' m => ?_, fun hp => ⟨?_, fun v s' hP m => ?_⟩⟩
  · obtain ⟨h', tk, rfl, hk'⟩ := moved_old e rfl m
    exact h0 (by omega) h' tk hk'
  · intro i j vi vj s Q E _ h1 h2 h3
    exact CmpOf.ints_gt (numAt xs) (fun _ _ => intItems_at) i j vi vj s Q E h1 h2 h3
  · obtain ⟨h', tk, rfl, hk'⟩ := moved_old e rfl m
    rw [es] at hP hp
    exact h hp v h' tk hP hk'
end PySem.W
namespace Any
open L2 PySem PySem.Spec PyProof.Rows LamX NdefX
/-- max(xs, default=0), xs a list of ints -/
def rMaxD0 (K : PySem.W.Frag) : List V → List V → Hp → VK → Prop := fun vs zs H Q => ∃ (a : Addr) (ns : List Int) (d : Int), vs = [V.ref a] ∧ zs = [.int d] ∧ SqL K H a (ns.map V.int) ∧ (ns = [] → Q (.int d) H) ∧ ∀ m, m ∈ ns → (∀ y, y ∈ ns → y ≤ m) → Q (.int m) H
theorem cr_maxD0 {X : Cx} (hc : X.calm = true) : CallRK X (.builtin "max") [Str.ofString "default"] (rMaxD0 X.K) := by
  intro pins s σ H vs zs us ws Q I r rz h
  obtain ⟨a, ns, d, rfl, rfl, hs, q0, q⟩ := h
  obtain ⟨its, rv, hl, _⟩ := I.list hs
  rw [Vals.ref1 r]
  cases rz with
  | cons r1 r2 =>
  cases r2
  obtain ⟨t, rfl⟩ := r1
  have hi := rv.ints
  obtain ⟨xs, e⟩ := hi.allInts.items
  have hn : numsOf (intItems xs).toList = ns := by rw [← e]; exact hi.numsOf
  rw [nums_intItems] at hn
  subst hn
  have hl2 := hl.isList
  rw [e] at hl2
  refine PySem.W.max_intsD (I.ok.hd hc) hl2 (fun hz h' tk hk => ⟨.int _, H, I.kept hk, ⟨_, rfl⟩, q0 ?_⟩) fun hsz v h' tk hv hk => ?_
  · exact List.eq_nil_of_length_eq_zero (by rw [List.length_map, Array.length_toList]; exact hz)
  obtain ⟨t2, rfl⟩ := intItems_at hv
  obtain ⟨h1, h2⟩ := argBest_gt (numAt xs) (xs.size - 1)
  refine ⟨.int _, H, I.kept hk, ⟨_, rfl⟩, q _ ?_ fun y ha => ?_⟩
  · rw [numAt_eq]; exact PySem.getD_mem (by rw [List.length_map, Array.length_toList]; omega)
  · obtain ⟨j, hj, rfl⟩ := mem_getD ha
    rw [List.length_map, Array.length_toList] at hj
    rw [← numAt_eq]; exact h2 j (by omega)
end Any
set_option pp.maxSteps 600
namespace Any
open L2 PySem PySem.Spec PyProof.Rows LamX NdefX
/-! ### what bodies weigh (bounds.py) -/
def mx (i j : Int) : Int := if j > i then j else i
mutual
/-- W: what the bodies of the rooms weigh -/
def Sg.wt (W : Str → Int) : Sg → Int
  | .ifs _ a b => 1 + mx (a.wt W) (b.wt W)
  | .fors _ m a => 1 + (m + 1) * (1 + a.wt W)
  | .call _ r _ => 8 + 2 * (1 + W r)
  | .set _ _ => 1
  | .say _ _ => 1
  | .hear _ => 1
def Bd.wt (W : Str → Int) : Bd → Int
  | .nil => 0
  | .cons s b => s.wt W + b.wt W
end
theorem Bd.wt_eq (W : Str → Int) : ∀ b : Bd, b.wt W = (b.toL.map (Sg.wt W)).sum
  | .nil => by unfold Bd.wt Bd.toL; rfl
  | .cons s b => by
    unfold Bd.wt Bd.toL
    rw [List.map_cons, List.sum_cons, Bd.wt_eq W b]
theorem Bd.okm {xs ws rs : List Str} : ∀ {b : Bd} {s : Sg}, b.ok xs ws rs → s ∈ b.toL → s.ok xs ws rs
  | .nil, s, _, h => by unfold Bd.toL at h; cases h
  | .cons t b, s, h, m => by
    unfold Bd.ok at h
    unfold Bd.toL at m
    rcases List.mem_cons.mp m with e | m
    · rw [e]
      exact h.1
    · exact Bd.okm h.2 m
mutual
/-- what the rooms called weigh is all that matters -/
theorem Sg.wt_of {xs ws rs : List Str} {V W : Str → Int} (h : ∀ r ∈ rs, V r = W r) : ∀ s : Sg, s.ok xs ws rs → s.wt V = s.wt W
  | .ifs _ a b, ho => by
    unfold Sg.ok at ho
    unfold Sg.wt
    rw [Bd.wt_of h a ho.2.1.1, Bd.wt_of h b ho.2.2.1]
  | .fors _ _ a, ho => by
    unfold Sg.ok at ho
    unfold Sg.wt
    rw [Bd.wt_of h a ho.2.2.1]
  | .call _ r _, ho => by
    unfold Sg.ok at ho
    unfold Sg.wt
    rw [h r ho.2.1]
  | .set _ _, _ => by unfold Sg.wt; rfl
  | .say _ _, _ => by unfold Sg.wt; rfl
  | .hear _, _ => by unfold Sg.wt; rfl
theorem Bd.wt_of {xs ws rs : List Str} {V W : Str → Int} (h : ∀ r ∈ rs, V r = W r) : ∀ b : Bd, b.ok xs ws rs → b.wt V = b.wt W
  | .nil, _ => by unfold Bd.wt; rfl
  | .cons s b, ho => by
    unfold Bd.ok at ho
    unfold Bd.wt
    rw [Sg.wt_of h s ho.1, Bd.wt_of h b ho.2]
end
mutual
theorem Sg.wt_nn {xs ws rs : List Str} {W : Str → Int} (h : ∀ r ∈ rs, 0 ≤ W r) : ∀ s : Sg, s.ok xs ws rs → 0 ≤ s.wt W
  | .ifs _ a b, ho => by
    unfold Sg.ok at ho
    unfold Sg.wt mx
    have h1 := Bd.wt_nn h a ho.2.1.1
    have h2 := Bd.wt_nn h b ho.2.2.1
    split <;> omega
  | .fors _ m a, ho => by
    unfold Sg.ok at ho
    unfold Sg.wt
    have h1 := Bd.wt_nn h a ho.2.2.1
    have h2 : 0 ≤ (m + 1) * (1 + a.wt W) := Int.mul_nonneg (by omega) (by omega)
    omega
  | .call _ r _, ho => by
    unfold Sg.ok at ho
    unfold Sg.wt
    have := h r ho.2.1
    omega
  | .set _ _, _ => by unfold Sg.wt; decide
  | .say _ _, _ => by unfold Sg.wt; decide
  | .hear _, _ => by unfold Sg.wt; decide
theorem Bd.wt_nn {xs ws rs : List Str} {W : Str → Int} (h : ∀ r ∈ rs, 0 ≤ W r) : ∀ b : Bd, b.ok xs ws rs → 0 ≤ b.wt W
  | .nil, _ => by unfold Bd.wt; decide
  | .cons s b, ho => by
    unfold Bd.ok at ho
    unfold Bd.wt
    have h1 := Sg.wt_nn h s ho.1
    have h2 := Bd.wt_nn h b ho.2
    omega
end
/-- a name's number, 0 where it has none -/
def lk (kvs : List (Str × Int)) (x : Str) : Int := (look kvs x).getD 0
abbrev sBW : Stmt := top 47
abbrev sSW : Stmt := top 48
abbrev sTW : Stmt := top 49
abbrev sCW : Stmt := top 50
theorem scBW : FnScope ["body", "weights", "step"] ["body", "weights"] (defScope sBW) := ⟨rfl, rfl, rfl, by decide +kernel, rfl, by decide +kernel, by decide +kernel⟩
theorem scSW : FnScope ["step", "weights", "kind"] ["step", "weights"] (defScope sSW) := ⟨rfl, rfl, rfl, by decide +kernel, rfl, by decide +kernel, by decide +kernel⟩
theorem scTW : FnScope ["step", "weights"] ["step", "weights"] (defScope sTW) := ⟨rfl, rfl, rfl, by decide +kernel, rfl, by decide +kernel, by decide +kernel⟩
theorem scCW : FnScope ["weight"] ["weight"] (defScope sCW) := ⟨rfl, rfl, rfl, by decide +kernel, rfl, by decide +kernel, by decide +kernel⟩
/-- a dict of the weights of these rooms, at least -/
structure WtsAt (H : Hp) (D : Addr) (kvs : List (Str × Int)) (rs : List Str) : Prop where
  at_ : H D = some (.dK (bx kvs))
  all : ∀ r ∈ rs, ∃ n, look kvs r = some n
theorem WtsAt.keep {H H' : Hp} {D : Addr} {kvs : List (Str × Int)} {rs : List Str} (h : WtsAt H D kvs rs) (s : Same H H') : WtsAt H' D kvs rs := ⟨s _ _ h.at_, h.all⟩
def spSW (n : Nat) : Sp := fun vs H Q _ => ∃ (v : V) (s : Sg) (D : Addr) (kvs : List (Str × Int)) (xs ws rs : List Str), vs = [v, .ref D] ∧ SgAt H v s ∧ s.dp ≤ n ∧ s.ok xs ws rs ∧ WtsAt H D kvs rs ∧ ∀ H', Same H H' → Q (.int (s.wt (lk kvs))) H'
def spBW (n : Nat) : Sp := fun vs H Q _ => ∃ (a : Addr) (b : Bd) (D : Addr) (kvs : List (Str × Int)) (xs ws rs : List Str), vs = [.ref a, .ref D] ∧ BdAt H a b ∧ b.dp ≤ n ∧ b.ok xs ws rs ∧ b.len ≤ 12 ∧ WtsAt H D kvs rs ∧ ∀ H', Same H H' → Q (.int (b.wt (lk kvs))) H'
def spTW (n : Nat) : Sp := fun vs H Q _ => ∃ (v u : V) (m : Int) (p c : Addr) (a : Bd) (D : Addr) (kvs : List (Str × Int)) (xs ws rs : List Str), vs = [v, .ref D] ∧ v = .ref p ∧ H p = some (.tup [.str "for", u, .int m, .ref c]) ∧ BdAt H c a ∧ a.dp ≤ n ∧ a.ok xs ws rs ∧ a.len ≤ 12 ∧ WtsAt H D kvs rs ∧ ∀ H', Same H H' → Q (.int (1 + a.wt (lk kvs))) H'
def spCW : Sp := fun vs H Q _ => ∃ i : Int, vs = [.int i] ∧ Q (.int (8 + 2 * (1 + i))) H
section
variable {P : Program} {w : World} {K : PySem.W.Frag} {mg : Str → Option Value} {base : Heap} {f g : Addr} {fd gd : FuncData}
theorem ok_cw (F : Fun K "call_weight" "call_weight" sCW f fd) : FnOk P w K mg base CX0 1 f fd ["weight"] spCW := by
  refine F.ok scCW (fun vs H Q E h => ?_) (fun cdv A outer s H vs Q E hr h => ?_)
  · obtain ⟨i, rfl, _⟩ := h
    rfl
  obtain ⟨i, rfl, q⟩ := h
  refine ⟨_, pss_one (ps_ret (pe_op op_add pe_int (pe_op op_mul pe_int (pe_op op_add pe_int (pv 0))))), ?_⟩
  exact ⟨_, rfl, _, _, rfl, rfl, _, _, rfl, rfl, .inl ⟨by decide, by decide⟩, _, _, rfl, rfl, q⟩
theorem ok_tw {n k : Nat} (F : Fun K "turn_weight" "turn_weight" sTW f fd) (G : Df P w K mg base k "body_weight" ["body", "weights"] (spBW n)) : FnOk P w K mg base CX0 (k + 1) f fd ["step", "weights"] (spTW n) := by
  refine F.ok scTW (fun vs H Q E h => ?_) (fun cdv A outer s H vs Q E hr h => ?_)
  · obtain ⟨v, u, m, p, c, a, D, kvs, xs, ws, rs, rfl, _⟩ := h
    rfl
  obtain ⟨v, u, m, p, c, a, D, kvs, xs, ws, rs, rfl, rfl, hp, hc, hd, ho, hl, hD, q⟩ := h
  refine ⟨_, pss_one (ps_ret (pe_op op_add pe_int (pe_D G hr rfl (pa_cons (pe_ix ix_tup (pv 0) pe_int (fun _ _ => rfl)) (pa_cons (pv 1) pa_nil))))), ?_⟩
  exact ⟨_, rfl, _, _, _, _, rfl, rfl, SqT.of hp, atI_nat (j := 3) rfl, _, rfl, c, a, D, kvs, xs, ws, rs, rfl, hc, hd, ho, hl, hD, fun H2 s2 => ⟨_, _, rfl, rfl, q H2 s2⟩⟩
theorem no_sw {k : Nat} : FnOk P w K mg base CX0 k f fd ["step", "weights"] (spSW 0) := by
  have no : ∀ vs H Q E, ¬ spSW 0 vs H Q E := fun vs H Q E h => by
    obtain ⟨v, s, D, kvs, xs, ws, rs, _, _, hd, _⟩ := h
    exact absurd hd (Nat.not_le.mpr (Sg.dp_pos s))
  exact ⟨fun vs H Q E h => absurd h (no vs H Q E), fun A outer s H args us vs Q E _ _ _ _ h => absurd h (no vs H Q E)⟩
theorem ok_bw {n k : Nat} (O : Own mg) (F : Fun K "body_weight" "body_weight" sBW f fd) (G : Df P w K mg base k "step_weight" ["step", "weights"] (spSW n)) : FnOk P w K mg base CX0 (k + 1) f fd ["body", "weights"] (spBW n) := by
  refine F.ok scBW (fun vs H Q E h => ?_) (fun cdv A outer s H vs Q E hr h => ?_)
  · obtain ⟨a, b, D, kvs, xs, ws, rs, rfl, _⟩ := h
    rfl
  obtain ⟨a, b, D, kvs, xs, ws, rs, rfl, ⟨us, ha, hu⟩, hd, ho, hl, hD, q⟩ := h
  have hs : sizeLine = 16777216 := sizeLine_eq
  have hn := hu.len
  have hp := hu.paired
  refine ⟨_, pss_one (ps_ret (pe_callB (cr_sum rfl) rfl O.sum (by decide +kernel) (pa_cons (pe_lc (own := [("step", 2)]) (g := gName 2) (tt := tYes) rfl scBW.nd (pi_tup (pv 0)) (blkOk_by (N := ["body", "weights", "step"]) (sc := defScope sBW) (by decide +kernel))
    (fun _ _ _ _ _ => pg_name (i := 2) scBW.nd rfl (Or.inl rfl)) (fun _ _ _ _ _ => pts_nil) (fun _ _ _ _ _ => pe_D G hr rfl (pa_cons (pv 2) (pa_cons (pv 1) pa_nil)))) pa_nil))), ?_⟩
  refine ⟨_, rfl, a, rfl, ⟨_, SqT.of ha⟩, fun C hC => ?_⟩
  refine lc_tup (K := K) (a := a) (xs := us) (fun i Hc => Hc C = some (.lst ((((b.toL.take i).map (Sg.wt (lk kvs)))).map V.int)) ∧ Same H Hc) ⟨upd_same, same_new hC _⟩ (fun i Hc _ z => SqT.of (z.2 _ _ ha)) ?_ ?_
  · rintro i v Hc hv ⟨hc, sm⟩
    obtain ⟨st, hst, hat⟩ := paired_get hp hv
    have hi : i < us.length := (List.getElem?_eq_some_iff.mp hv).1
    have dn : st.dp ≤ n := Nat.le_trans (Bd.dp_mem (List.mem_of_getElem? hst)) hd
    have ok2 : st.ok xs ws rs := Bd.okm ho (List.mem_of_getElem? hst)
    refine ⟨rfl, _, rfl, _, rfl, v, st, D, kvs, xs, ws, rs, rfl, SgAt.keep (Same.tups sm) st hat, dn, ok2, hD.keep sm, fun H4 s4 => ⟨_, s4 _ _ hc, ?_, ?_, fun c o hco => ?_⟩⟩
    · rw [List.length_map, List.length_map, List.length_take]
      omega
    · rw [upd_same, List.take_add_one, hst, List.map_append, List.map_append]
      rfl
    · rw [upd_ne (ne_of_none hco hC)]
      exact s4 _ _ (sm _ _ hco)
  · rintro Hc ⟨hc, sm⟩
    have hl2 : us.length = b.toL.length := paired_len hp
    rw [hl2, List.take_length] at hc
    refine ⟨C, _, rfl, SqL.of hc, ?_⟩
    rw [← Bd.wt_eq]
    exact q Hc sm
theorem ok_sw {n k : Nat} (mm : mg "max" = none) (F : Fun K "step_weight" "step_weight" sSW f fd) (G : Df P w K mg base (k + 1) "body_weight" ["body", "weights"] (spBW n)) (GT : Df P w K mg base (k + 2) "turn_weight" ["step", "weights"] (spTW n)) (GC : Df P w K mg base 1 "call_weight" ["weight"] spCW) :
    FnOk P w K mg base CX0 (k + 3) f fd ["step", "weights"] (spSW (n + 1)) := by
  refine F.ok scSW (fun vs H Q E h => ?_) (fun cdv A outer s H vs Q E hr h => ?_)
  · obtain ⟨v, st, D, kvs, xs, ws, rs, rfl, _⟩ := h
    rfl
  obtain ⟨v, st, D, kvs, xs, ws, rs, rfl, hv, hd, ho, hD, q⟩ := h
  have hr1 := hr.mono (show k + 1 ≤ k + 2 by omega)
  have hr2 := hr.mono (show 1 ≤ k + 2 by omega)
  refine ⟨_, pss_cons (ps_set (i := 2) scSW.nd rfl (Or.inl rfl) (pe_ix ix_tup (pv 0) pe_int (fun _ _ => rfl)))
    (pss_cons (ps_if (pt_cmpR op_eq (pv 2) pe_str (nomark _)) (pss_one (ps_ret (pe_op op_add pe_int (pe_callB (call_max2 rfl) rfl mm (by decide +kernel) (pa_cons (pe_D G hr1 rfl (pa_cons (pe_ix ix_tup (pv 0) pe_int (fun _ _ => rfl)) (pa_cons (pv 1) pa_nil))) (pa_cons (pe_D G hr1 rfl (pa_cons (pe_ix ix_tup (pv 0) pe_int (fun _ _ => rfl)) (pa_cons (pv 1) pa_nil))) pa_nil)))))) pss_nil)
    (pss_cons (ps_if (pt_cmpR op_eq (pv 2) pe_str (nomark _)) (pss_one (ps_ret (pe_op op_add pe_int (pe_op op_mul (pe_op op_add (pe_ix ix_tup (pv 0) pe_int (fun _ _ => rfl)) pe_int) (pe_D GT hr rfl (pa_cons (pv 0) (pa_cons (pv 1) pa_nil))))))) pss_nil)
    (pss_cons (ps_if (pt_cmpR op_eq (pv 2) pe_str (nomark _)) (pss_one (ps_ret (pe_D GC hr2 rfl (pa_cons (pe_dget (Nat.lt_of_le_of_lt (Nat.add_le_add_left (show 1 ≤ 64 by decide) _) hr.units) (pv 1) (pe_ix ix_tup (pv 0) pe_int (fun _ _ => rfl)) (fun _ _ => rfl)) pa_nil)))) pss_nil) (pss_one (ps_ret pe_int))))), ?_⟩
  cases st with
  | ifs t a b =>
    unfold SgAt at hv
    unfold Sg.ok at ho
    unfold Sg.dp at hd
    obtain ⟨p, u, pb, pc, bs, cs, rfl, h1, h2, h3, h4, h5, h6⟩ := hv
    refine ⟨_, rfl, _, _, _, _, rfl, rfl, SqT.of h1, atI_nat (j := 0) rfl, _, rfl, rfl, _, rfl, itT eq_str ?_⟩
    refine ⟨_, rfl, _, _, _, _, rfl, rfl, SqT.of h1, atI_nat (j := 2) rfl, _, rfl, pb, a, D, kvs, xs, ws, rs, rfl, ⟨_, h3, h4⟩, by omega, ho.2.1.1, ho.2.1.2, hD, fun H2 s2 => ?_⟩
    refine ⟨_, rfl, _, _, _, _, rfl, rfl, SqT.of (s2 _ _ h1), atI_nat (j := 3) rfl, _, rfl, pc, b, D, kvs, xs, ws, rs, rfl, ⟨_, s2 _ _ h5, BdL.keep (Same.tups s2) b h6⟩, by omega, ho.2.2.1, ho.2.2.2, hD.keep s2, fun H3 s3 => ⟨_, _, rfl, _, _, rfl, rfl, ?_⟩⟩
    have z := q H3 (s2.trans s3)
    unfold Sg.wt mx at z
    exact z
  | fors e m a =>
    unfold SgAt at hv
    unfold Sg.ok at ho
    unfold Sg.dp at hd
    obtain ⟨p, u, pb, bs, rfl, h1, h2, h3, h4⟩ := hv
    refine ⟨_, rfl, _, _, _, _, rfl, rfl, SqT.of h1, atI_nat (j := 0) rfl, _, rfl, rfl, _, rfl, itF (ne_str (by decide)) ?_⟩
    refine ⟨_, rfl, rfl, _, rfl, itT eq_str ?_⟩
    refine ⟨_, rfl, _, _, _, _, rfl, rfl, SqT.of h1, atI_nat (j := 2) rfl, _, _, rfl, rfl, _, rfl, _, rfl, _, u, m, p, pb, a, D, kvs, xs, ws, rs, rfl, rfl, h1, ⟨_, h3, h4⟩, by omega, ho.2.2.1, ho.2.2.2, hD, fun H2 s2 => ⟨_, _, rfl, rfl, .inl ⟨by omega, by omega⟩, _, _, rfl, rfl, ?_⟩⟩
    have z := q H2 s2
    unfold Sg.wt at z
    exact z
  | call x r e =>
    unfold SgAt at hv
    unfold Sg.ok at ho
    obtain ⟨p, u, rfl, h1, h2⟩ := hv
    obtain ⟨i, hi⟩ := hD.all r ho.2.1
    refine ⟨_, rfl, _, _, _, _, rfl, rfl, SqT.of h1, atI_nat (j := 0) rfl, _, rfl, rfl, _, rfl, itF (ne_str (by decide)) ?_⟩
    refine ⟨_, rfl, rfl, _, rfl, itF (ne_str (by decide)) ⟨_, rfl, rfl, _, rfl, itT eq_str ?_⟩⟩
    refine ⟨_, rfl, _, rfl, _, _, _, _, rfl, rfl, SqT.of h1, atI_nat (j := 2) rfl, D, .int i, rfl, ?_, i, rfl, ?_⟩
    · have z := DGet.k (k := Sum.inr r) hD.at_
      rw [bx_val, hi] at z
      exact z
    have z := q H same_refl
    unfold Sg.wt lk at z
    rw [hi] at z
    exact z
  | set x e =>
    unfold SgAt at hv
    obtain ⟨p, u, rfl, h1, h2⟩ := hv
    refine ⟨_, rfl, _, _, _, _, rfl, rfl, SqT.of h1, atI_nat (j := 0) rfl, _, rfl, rfl, _, rfl, itF (ne_str (by decide)) ?_⟩
    refine ⟨_, rfl, rfl, _, rfl, itF (ne_str (by decide)) ⟨_, rfl, rfl, _, rfl, itF (ne_str (by decide)) ?_⟩⟩
    have z := q H same_refl
    unfold Sg.wt at z
    exact z
  | say x e =>
    unfold SgAt at hv
    obtain ⟨p, u, rfl, h1, h2⟩ := hv
    refine ⟨_, rfl, _, _, _, _, rfl, rfl, SqT.of h1, atI_nat (j := 0) rfl, _, rfl, rfl, _, rfl, itF (ne_str (by decide)) ?_⟩
    refine ⟨_, rfl, rfl, _, rfl, itF (ne_str (by decide)) ⟨_, rfl, rfl, _, rfl, itF (ne_str (by decide)) ?_⟩⟩
    have z := q H same_refl
    unfold Sg.wt at z
    exact z
  | hear x =>
    unfold SgAt at hv
    obtain ⟨p, rfl, h1⟩ := hv
    refine ⟨_, rfl, _, _, _, _, rfl, rfl, SqT.of h1, atI_nat (j := 0) rfl, _, rfl, rfl, _, rfl, itF (ne_str (by decide)) ?_⟩
    refine ⟨_, rfl, rfl, _, rfl, itF (ne_str (by decide)) ⟨_, rfl, rfl, _, rfl, itF (ne_str (by decide)) ?_⟩⟩
    have z := q H same_refl
    unfold Sg.wt at z
    exact z
/-- bodies n deep -/
theorem all_sw (O : Own mg) (mm : mg "max" = none) (NS : Nd K mg "step_weight" sSW ["step", "weights"]) (NB : Nd K mg "body_weight" sBW ["body", "weights"]) (NT : Nd K mg "turn_weight" sTW ["step", "weights"]) (GC : Df P w K mg base 1 "call_weight" ["weight"] spCW) :
    ∀ n : Nat, Df P w K mg base (3 * n) "step_weight" ["step", "weights"] (spSW n)
  | 0 => by
    obtain ⟨f, fd, h1, h2, h3⟩ := NS
    exact ⟨f, fd, h1, h2.kp, no_sw, h3⟩
  | n + 1 => by
    have S := all_sw O mm NS NB NT GC n
    have B : Df P w K mg base (3 * n + 1) "body_weight" ["body", "weights"] (spBW n) := by
      obtain ⟨f, fd, h1, h2, h3⟩ := NB
      exact ⟨f, fd, h1, h2.kp, ok_bw O h2 S, h3⟩
    have T : Df P w K mg base (3 * n + 2) "turn_weight" ["step", "weights"] (spTW n) := by
      obtain ⟨f, fd, h1, h2, h3⟩ := NT
      exact ⟨f, fd, h1, h2.kp, ok_tw h2 B, h3⟩
    obtain ⟨f, fd, h1, h2, h3⟩ := NS
    exact ⟨f, fd, h1, h2.kp, ok_sw mm h2 B T GC, h3⟩
end
end Any
set_option pp.maxSteps 600
namespace Any
open L2 PySem PySem.Spec PyProof.Rows LamX NdefX
/-! ### tables that are filled from behind -/
def tabF (g : Rm → List (Str × Int) → Int) (l : List Rm) : List (Str × Int) := l.foldl (fun kvs r => kvs ++ [(r.name, g r kvs)]) []
section
variable {g : Rm → List (Str × Int) → Int}
theorem tabF_snoc (l : List Rm) (r : Rm) : tabF g (l ++ [r]) = tabF g l ++ [(r.name, g r (tabF g l))] := by
  unfold tabF
  rw [List.foldl_append]
  rfl
theorem tabF_take {l : List Rm} {i : Nat} {r : Rm} (h : l[i]? = some r) : tabF g (l.take (i + 1)) = tabF g (l.take i) ++ [(r.name, g r (tabF g (l.take i)))] := by
  rw [List.take_add_one, h]
  exact tabF_snoc _ _
theorem tabF_app (l : List Rm) : ∀ m : List Rm, ∃ more, tabF g (l ++ m) = tabF g l ++ more := fun m => by
  induction m generalizing l with
  | nil => exact ⟨[], by rw [List.append_nil, List.append_nil]⟩
  | cons x m ih =>
    obtain ⟨more, e⟩ := ih (l ++ [x])
    rw [List.append_assoc] at e
    rw [tabF_snoc, List.append_assoc] at e
    exact ⟨_, e⟩
theorem tabF_keys : ∀ l : List Rm, (tabF g l).map (·.1) = l.map (·.name) := fun l => by
  have main : ∀ (m l : List Rm), (tabF g l).map (·.1) = l.map (·.name) → (tabF g (l ++ m)).map (·.1) = (l ++ m).map (·.name) := fun m => by
    induction m with
    | nil => intro l h; rw [List.append_nil]; exact h
    | cons x m ih =>
      intro l h
      have := ih (l ++ [x]) (by rw [tabF_snoc, List.map_append, List.map_append, h]; rfl)
      rw [List.append_assoc] at this
      exact this
  exact main l [] rfl
theorem look_app {kvs more : List (Str × Int)} {x : Str} {n : Int} (h : look kvs x = some n) : look (kvs ++ more) x = some n := by
  unfold look at h ⊢
  rw [List.find?_append]
  cases e : kvs.find? fun kv => decide (kv.1 = x) with
  | none => rw [e] at h; cases h
  | some p => rw [e] at h; exact h
theorem look_new {kvs : List (Str × Int)} {x : Str} {n : Int} (h : x ∉ kvs.map (·.1)) : look (kvs ++ [(x, n)]) x = some n := by
  unfold look
  rw [List.find?_append, List.find?_eq_none.mpr fun p hp z => h (List.mem_map.mpr ⟨p, hp, of_decide_eq_true z⟩)]
  rw [List.find?_cons, decide_eq_true rfl]
  rfl
theorem look_some : ∀ {kvs : List (Str × Int)} {x : Str}, x ∈ kvs.map (·.1) → ∃ n, look kvs x = some n
  | [], x, h => by cases h
  | p :: r, x, h => by
    unfold look
    rw [List.find?_cons]
    by_cases e : p.1 = x
    · rw [decide_eq_true e]
      exact ⟨_, rfl⟩
    · rw [decide_eq_false e]
      rcases List.mem_cons.mp h with z | z
      · exact absurd z.symm e
      · exact look_some z
theorem lk_none {kvs : List (Str × Int)} {x : Str} (h : x ∉ kvs.map (·.1)) : lk kvs x = 0 := by
  unfold lk look
  rw [List.find?_eq_none.mpr fun p hp z => h (List.mem_map.mpr ⟨p, hp, of_decide_eq_true z⟩)]
  rfl
/-- what was found stays -/
theorem look_take {l : List Rm} {i : Nat} {x : Str} {n : Int} (h : look (tabF g (l.take i)) x = some n) : look (tabF g l) x = some n := by
  obtain ⟨more, e⟩ := tabF_app (g := g) (l.take i) (l.drop i)
  rw [List.take_append_drop] at e
  rw [e]
  exact look_app h
theorem tab_at {l : List Rm} {i : Nat} {r : Rm} (nd : (l.map (·.name)).Nodup) (h : l[i]? = some r) : look (tabF g l) r.name = some (g r (tabF g (l.take i))) := by
  have h2 : (l.map (·.name))[i]? = some r.name := by rw [List.getElem?_map, h]; rfl
  refine look_take (i := i + 1) ?_
  rw [tabF_take h]
  refine look_new ?_
  rw [tabF_keys, List.map_take]
  exact nd_take nd h2
end
/-! ### a right program's rooms from behind -/
theorem ben_behind {rs : List Rm} (h : Right rs) {i : Nat} {r : Rm} (hi : rs[i]? = some r) {n : Str} (hn : n ∈ ben rs r.name) : ∃ k o, i < k ∧ rs[k]? = some o ∧ o.name = n := by
  unfold ben at hn
  obtain ⟨o, h1, rfl⟩ := List.mem_map.mp hn
  obtain ⟨h2, h3⟩ := List.mem_filter.mp h1
  obtain ⟨k, hk⟩ := List.getElem?_of_mem h2
  have z := h.all k o hk
  have ha : o.above = r.name := of_decide_eq_true h3
  have ne : k ≠ 0 := fun e => by
    have e1 := z.above.1 e
    have e2 := (h.all i r hi).name.lo
    rw [← ha, e1] at e2
    exact absurd e2 (by decide)
  obtain ⟨q, hq, eq⟩ := List.mem_map.mp (z.above.2 ne).1
  obtain ⟨j, hj⟩ := List.getElem?_of_mem hq
  rw [List.getElem?_take] at hj
  by_cases jk : j < k
  · rw [if_pos jk] at hj
    rw [ha] at eq
    have e : i = j := by
      rcases Nat.lt_trichotomy i j with z1 | z1 | z1
      · exfalso
        refine (h.all j q hj).one ?_
        rw [eq]
        exact List.mem_map_of_mem (List.mem_of_getElem? (by rw [List.getElem?_take, if_pos z1]; exact hi))
      · exact z1
      · exfalso
        refine (h.all i r hi).one ?_
        rw [← eq]
        exact List.mem_map_of_mem (List.mem_of_getElem? (by rw [List.getElem?_take, if_pos z1]; exact hj))
    exact ⟨k, o, by omega, hk, rfl⟩
  · rw [if_neg jk] at hj
    cases hj
theorem right_nd {rs : List Rm} (h : Right rs) : (rs.map (·.name)).Nodup := by
  rw [List.nodup_iff_pairwise_ne, List.pairwise_iff_getElem]
  intro i j hi hj hij e
  rw [List.length_map] at hi hj
  rw [List.getElem_map, List.getElem_map] at e
  refine (h.all j rs[j] (List.getElem?_eq_getElem hj)).one ?_
  rw [← e]
  exact List.mem_map_of_mem (List.mem_of_getElem? (i := i) (by rw [List.getElem?_take, if_pos hij]; exact List.getElem?_eq_getElem hi))
theorem rev_at {rs : List Rm} {i : Nat} {r : Rm} (h : rs[i]? = some r) : rs.reverse[rs.length - 1 - i]? = some r := by
  have hi := (List.getElem?_eq_some_iff.mp h).1
  rw [List.getElem?_reverse (by omega), show rs.length - 1 - (rs.length - 1 - i) = i by omega]
  exact h
theorem at_rev {rs : List Rm} {i : Nat} {r : Rm} (h : rs.reverse[i]? = some r) : rs[rs.length - 1 - i]? = some r := by
  have hi := (List.getElem?_eq_some_iff.mp h).1
  rw [List.length_reverse] at hi
  rw [List.getElem?_reverse hi] at h
  exact h
theorem rev_nd {rs : List Rm} (h : Right rs) : (rs.reverse.map (·.name)).Nodup := by
  rw [List.map_reverse]
  exact (List.reverse_perm _).nodup_iff.mpr (right_nd h)
/-- the rooms beneath have been there, from behind -/
theorem ben_take {g : Rm → List (Str × Int) → Int} {rs : List Rm} (h : Right rs) {i : Nat} {r : Rm} (hi : rs.reverse[i]? = some r) {n : Str} (hn : n ∈ ben rs r.name) : ∃ v, look (tabF g (rs.reverse.take i)) n = some v := by
  have il := (List.getElem?_eq_some_iff.mp hi).1
  rw [List.length_reverse] at il
  obtain ⟨k, o, h1, h2, rfl⟩ := ben_behind h (at_rev hi) hn
  refine look_some ?_
  rw [tabF_keys]
  have h3 := rev_at h2
  have kl := (List.getElem?_eq_some_iff.mp h2).1
  exact List.mem_map_of_mem (List.mem_of_getElem? (i := rs.length - 1 - k) (by rw [List.getElem?_take, if_pos (by omega)]; exact h3))
theorem lk_take {g : Rm → List (Str × Int) → Int} {rs : List Rm} (h : Right rs) {i : Nat} {r : Rm} (hi : rs.reverse[i]? = some r) {n : Str} (hn : n ∈ ben rs r.name) : lk (tabF g (rs.reverse.take i)) n = lk (tabF g rs.reverse) n := by
  obtain ⟨v, hv⟩ := ben_take (g := g) h hi hn
  unfold lk
  rw [hv, look_take hv]
theorem body_of {rs : List Rm} (h : Right rs) {i : Nat} {r : Rm} (hi : rs[i]? = some r) : ∃ ws, r.body.right r.bn ws (ben rs r.name) := by
  have z := h.all i r hi
  by_cases c : i = 0
  · exact ⟨_, (z.first c).2⟩
  · exact ⟨_, (z.other c).2⟩
/-! ### weights -/
def gW : Rm → List (Str × Int) → Int := fun r kvs => r.body.wt (lk kvs)
def Wt (rs : List Rm) : Str → Int := lk (tabF gW rs.reverse)
theorem wt_take {rs : List Rm} (h : Right rs) {i : Nat} {r : Rm} (hi : rs.reverse[i]? = some r) : r.body.wt (lk (tabF gW (rs.reverse.take i))) = r.body.wt (Wt rs) := by
  obtain ⟨ws, b1, _⟩ := body_of h (at_rev hi)
  exact Bd.wt_of (fun n hn => lk_take h hi hn) _ b1
theorem wt_at {rs : List Rm} (h : Right rs) {i : Nat} {r : Rm} (hi : rs[i]? = some r) : Wt rs r.name = r.body.wt (Wt rs) := by
  rw [← wt_take h (rev_at hi)]
  unfold Wt lk
  rw [tab_at (rev_nd h) (rev_at hi)]
  rfl
theorem wt_nn {rs : List Rm} (h : Right rs) (n : Str) : 0 ≤ Wt rs n := by
  have main : ∀ i, i ≤ rs.length → ∀ n, 0 ≤ lk (tabF gW (rs.reverse.take i)) n := fun i => by
    induction i with
    | zero => intro _ n; exact Int.le_refl 0
    | succ i ih =>
      intro hi n
      obtain ⟨r, hr⟩ : ∃ r, rs.reverse[i]? = some r := ⟨_, List.getElem?_eq_getElem (by rw [List.length_reverse]; omega)⟩
      have z := ih (by omega)
      obtain ⟨ws, b1, _⟩ := body_of h (at_rev hr)
      have nn : 0 ≤ r.body.wt (lk (tabF gW (rs.reverse.take i))) := Bd.wt_nn (fun x _ => z x) _ b1
      rw [tabF_take hr]
      by_cases m : n ∈ (tabF gW (rs.reverse.take i)).map (·.1)
      · obtain ⟨v, hv⟩ := look_some m
        have z2 := z n
        unfold lk at z2 ⊢
        rw [hv] at z2
        rw [look_app hv]
        exact z2
      · by_cases e : r.name = n
        · subst e
          unfold lk
          rw [look_new m]
          exact nn
        · rw [lk_none]
          · exact Int.le_refl 0
          · rw [List.map_append]
            intro q
            rcases List.mem_append.mp q with q | q
            · exact m q
            · exact e (List.mem_singleton.mp q).symm
  have z := main rs.length (Nat.le_refl _) n
  rw [List.take_of_length_le (by rw [List.length_reverse]; exact Nat.le_refl _)] at z
  exact z
/-! ### beats to home, to right -/
def Rm.home (W : Str → Int) (r : Rm) : Int := (if r.above = "" then 1 else 4) + r.body.wt W
def gR (rs : List Rm) : Rm → List (Str × Int) → Int := fun r kvs => ((ben rs r.name).map (lk kvs)).foldl mx 0 + r.home (Wt rs)
def Rt (rs : List Rm) : Str → Int := lk (tabF (gR rs) rs.reverse)
theorem rt_take {rs : List Rm} (h : Right rs) {i : Nat} {r : Rm} (hi : rs.reverse[i]? = some r) : (ben rs r.name).map (lk (tabF (gR rs) (rs.reverse.take i))) = (ben rs r.name).map (Rt rs) := List.map_congr_left fun n hn => lk_take h hi hn
theorem rt_at {rs : List Rm} (h : Right rs) {i : Nat} {r : Rm} (hi : rs[i]? = some r) : Rt rs r.name = ((ben rs r.name).map (Rt rs)).foldl mx 0 + r.home (Wt rs) := by
  rw [← rt_take h (rev_at hi)]
  show (look (tabF (gR rs) rs.reverse) r.name).getD 0 = _
  rw [tab_at (rev_nd h) (rev_at hi)]
  rfl
theorem fold_mx : ∀ (l : List Int) (a : Int), a ≤ l.foldl mx a ∧ (∀ y ∈ l, y ≤ l.foldl mx a) ∧ (l.foldl mx a = a ∨ l.foldl mx a ∈ l)
  | [], a => ⟨Int.le_refl _, (fun y h => by cases h), .inl rfl⟩
  | x :: r, a => by
    obtain ⟨h1, h2, h3⟩ := fold_mx r (mx a x)
    have m : a ≤ mx a x ∧ x ≤ mx a x ∧ (mx a x = a ∨ mx a x = x) := by
      unfold mx
      split
      · exact ⟨by omega, by omega, .inr rfl⟩
      · exact ⟨by omega, by omega, .inl rfl⟩
    refine ⟨Int.le_trans m.1 h1, fun y hy => ?_, ?_⟩
    · rcases List.mem_cons.mp hy with e | e
      · rw [e]
        exact Int.le_trans m.2.1 h1
      · exact h2 y e
    · show (r.foldl mx (mx a x) = a ∨ r.foldl mx (mx a x) ∈ x :: r)
      rcases h3 with e | e
      · rw [e]
        rcases m.2.2 with e2 | e2
        · exact .inl e2
        · exact .inr (by rw [e2]; exact List.mem_cons_self)
      · exact .inr (List.mem_cons_of_mem _ e)
/-- a greatest one of numbers of 0 or more -/
theorem fold_is {l : List Int} {m : Int} (hm : m ∈ l) (h : ∀ y ∈ l, y ≤ m) (h0 : ∀ y ∈ l, 0 ≤ y) : l.foldl mx 0 = m := by
  obtain ⟨h1, h2, h3⟩ := fold_mx l 0
  have a1 := h2 m hm
  have a2 := h0 m hm
  rcases h3 with e | e
  · omega
  · have := h _ e
    omega
theorem home_nn {rs : List Rm} (h : Right rs) {i : Nat} {r : Rm} (hi : rs[i]? = some r) : 0 ≤ r.home (Wt rs) := by
  obtain ⟨ws, b1, _⟩ := body_of h hi
  have := Bd.wt_nn (fun n _ => wt_nn h n) _ b1
  unfold Rm.home
  split <;> omega
/-- each number found is 0 or more -/
theorem rt_nn {rs : List Rm} (h : Right rs) : ∀ i, i ≤ rs.length → ∀ n, 0 ≤ lk (tabF (gR rs) (rs.reverse.take i)) n
  | 0, _, n => Int.le_refl 0
  | i + 1, hi, n => by
    obtain ⟨r, hr⟩ : ∃ r, rs.reverse[i]? = some r := ⟨_, List.getElem?_eq_getElem (by rw [List.length_reverse]; omega)⟩
    have z := rt_nn h i (by omega)
    have nn : 0 ≤ gR rs r (tabF (gR rs) (rs.reverse.take i)) := by
      have a := (fold_mx ((ben rs r.name).map (lk (tabF (gR rs) (rs.reverse.take i)))) 0).1
      have b := home_nn h (at_rev hr)
      unfold gR at *
      omega
    rw [tabF_take hr]
    by_cases m : n ∈ (tabF (gR rs) (rs.reverse.take i)).map (·.1)
    · obtain ⟨v, hv⟩ := look_some m
      have z2 := z n
      unfold lk at z2 ⊢
      rw [hv] at z2
      rw [look_app hv]
      exact z2
    · by_cases e : r.name = n
      · subst e
        unfold lk
        rw [look_new m]
        exact nn
      · rw [lk_none]
        · exact Int.le_refl 0
        · rw [List.map_append]
          intro q
          rcases List.mem_append.mp q with q | q
          · exact m q
          · exact e (List.mem_singleton.mp q).symm
end Any
set_option pp.maxSteps 600
set_option maxHeartbeats 1000000
namespace Any
open L2 PySem PySem.Spec PyProof.Rows
/-! ### a tuple from behind: xs[::-1] -/
theorem fm_all {α β : Type} (f : α → Option β) : ∀ l : List α, (∀ a ∈ l, (f a).isSome = true) → (l.filterMap f).map some = l.map f
  | [], _ => rfl
  | x :: r, h => by
    have h1 := h x List.mem_cons_self
    cases e : f x with
    | none => rw [e] at h1; cases h1
    | some y =>
      rw [List.filterMap_cons, e]
      show some y :: _ = _
      rw [fm_all f r fun a ha => h a (List.mem_cons_of_mem _ ha), List.map_cons, e]
theorem somes_inj {β : Type} {a b : List β} (h : a.map some = b.map some) : a = b := by
  have := congrArg (List.filterMap id) h
  rwa [List.filterMap_map, List.filterMap_map, show (id ∘ some : β → Option β) = some from rfl, List.filterMap_some, List.filterMap_some] at this
theorem pick_rev (xs : Array Value) : ((List.range xs.size).filterMap fun (m : Nat) => xs[(((xs.size : Int) - 1) + (m : Int) * (-1)).toNat]?) = xs.toList.reverse := by
  refine somes_inj ?_
  rw [fm_all]
  · refine List.ext_getElem? fun i => ?_
    rw [List.getElem?_map, List.getElem?_map]
    by_cases hi : i < xs.size
    · rw [List.getElem?_range hi, List.getElem?_reverse (by rw [Array.length_toList]; exact hi), Array.length_toList, Array.getElem?_toList]
      show some (xs[_]?) = _
      rw [show (((xs.size : Int) - 1) + (i : Int) * (-1)).toNat = xs.size - 1 - i by omega, Array.getElem?_eq_getElem (show xs.size - 1 - i < xs.size by omega)]
      rfl
    · rw [List.getElem?_eq_none (by rw [List.length_range]; omega), List.getElem?_eq_none (by rw [List.length_reverse, Array.length_toList]; omega)]
      rfl
  · intro m hm
    have hm : m < xs.size := List.mem_range.mp hm
    rw [show (((xs.size : Int) - 1) + (m : Int) * (-1)).toNat = xs.size - 1 - m by omega, Array.getElem?_eq_getElem (show xs.size - 1 - m < xs.size by omega)]
    rfl
section
variable {prog : Program} {w : World} {A : Around} {E : Value → Shared → Prop} {s : Shared}
theorem rev_places (n : Nat) (h : 0 < n) : Builtin.Slice.slicePlaces ((n : Int) - 1) (-1) (-1) = n := by
  unfold Builtin.Slice.slicePlaces
  rw [if_neg (by decide), if_pos (by omega)]
  have : ((n : Int) - 1 - -1 - 1) / (- -1) + 1 = n := by
    rw [show (- -1 : Int) = 1 by decide, Int.ediv_one]
    omega
  rw [this]
  rfl
theorem getItem_tuple_rev {t sl : Addr} {items : Array Value} {vk : Value} {Q : Value → Shared → Prop} (ht : IsTup s.heap t items) (hs : s.heap.IsSliceOf sl .none .none vk) (pk : IsPart vk (some (-1))) (hn : 1 ≤ items.size)
    (h : Q (.ref s.heap.objs.size) { s with heap := s.heap.push { cls := .type "tuple", data := .seq items.toList.reverse.toArray } }) (hsz : items.size ≤ sizeLine) : wpAny (model prog w) A (getItem (.ref t) (.ref sl)) Q E s := by
  have htake : sizeOk (.seq items.toList.reverse.toArray) := by
    show items.toList.reverse.toArray.size ≤ sizeLine
    rw [List.size_toArray, List.length_reverse, Array.length_toList]
    exact hsz
  obtain ⟨os, hos, hcs, hds⟩ := id hs
  have hTs : s.TypeIs (.ref sl) "slice" := ⟨os, hos, hcs⟩
  have app : ∀ {A : Around} {E : Value → Shared → Prop} {Q : Int × Int × Nat → Shared → Prop}, Q ((items.size : Int) - 1, -1, items.size) s → wpAny (model prog w) A (Builtin.Slice.sliceApplied (.ref sl) (pure (items.size : Int))) Q E s := fun {A E Q} h => by
    unfold Builtin.Slice.sliceApplied Builtin.Slice.sliceFields
    refine wpAny_bind (wpAny_bind (wpAny_field hos hds (x := .none) rfl (wpAny_bind (wpAny_field hos hds (x := .none) rfl (wpAny_bind (wpAny_field hos hds (x := vk) rfl (wpAny_pure ?_)))))))
    refine wpAny_bind (HT.slicePart_ pk ?_)
    show wpAny _ _ (if ((-1 : Int) == 0) = true then _ else _) _ _ s
    rw [if_neg (by decide)]
    refine wpAny_bind (slicePart_none (wpAny_bind (slicePart_none (wpAny_bind (wpAny_pure ?_)))))
    show wpAny _ _ (pure ((items.size : Int) - 1, (-1 : Int), Builtin.Slice.slicePlaces ((items.size : Int) - 1) (-1) (-1))) _ _ s
    rw [rev_places _ (by omega)]
    exact wpAny_pure h
  unfold getItem
  try with_reducible refine wpAny_holding ?_
  first | refine wpAny_bind (wpAny_pure ?_) | skip
  refine wpAny_bind (wpAny_sequenceKey ht.typeIs (by decide) ?_)
  refine wpAny_bind (wpAny_callSpecial?_slot (name := Str.ofString "__getitem__") ht.typeIs PyProof.Rows.slot_tuple_getitem
    (wpAny_call_entry PyProof.Rows.slot_tuple_getitem ht.typeIs entry_tuple_getitem ?_ (args_tuple_getitem _ _)))
  show wpAny _ _ (Builtin.Tuple.tupleItemsOf (.ref t) >>= _) _ _ s
  refine wpAny_bind (tupleItemsOf_ ht ?_)
  refine wpAny_bind (wpAny_typeOf hTs ?_)
  rw [if_pos (by decide)]
  refine wpAny_bind (app ?_)
  show wpAny _ _ (if (((items.size : Int) - 1) == 0 && (-1 : Int) == 1 && items.size == items.size) = true then _ else _) _ _ s
  rw [if_neg (by simp), pick_rev]
  first
    | exact wpAny_bind (m := Builtin.Tuple.tupleExact _) (wpAny_newObj_type (wpAny_pure ⟨_, rfl, wpAny_pure h⟩) htake)
    | exact wpAny_bind (m := Builtin.Tuple.tupleExact _) (wpAny_newObj_type (wpAny_bind (wpAny_pure (wpAny_pure ⟨_, rfl, wpAny_pure h⟩))) htake)
    | exact wpAny_bind (wpAny_bind (m := Builtin.Tuple.tupleExact _) (wpAny_newObj_type (wpAny_pure (wpAny_pure ⟨_, rfl, wpAny_pure h⟩)) htake))
    | exact wpAny_bind (wpAny_bind (m := Builtin.Tuple.tupleExact _) (wpAny_newObj_type (wpAny_pure ⟨_, rfl, wpAny_pure h⟩) htake))
end
/-- of a tuple of one thing at least -/
def tRevT (K : PySem.W.Frag) (te ts : TE) : TE := fun σ H Q => te σ H fun x H1 => ts σ H1 fun y H2 => ∃ a xs, x = .ref a ∧ SqT K H2 a xs ∧ 1 ≤ xs.length ∧ y = .int (-1) ∧ ∀ p, H2 p = none → Q (.ref p) (upd H2 p (.tup xs.reverse))
theorem pe_revT {X : Cx} {e st : Expr} {te ts : TE} {p3 pos : Pos} (he : PE X e te) (hst : PE X st ts) : PE X (.Subscript e (.Slice none none (some st) p3) pos) (tRevT X.K te ts) := by
  refine ⟨fun pins s σ H Q I h => ?_⟩
  refine Subscript_ (thn (he.run pins s σ H _ I h) fun v s1 ⟨x, H1, I1, r1, q1⟩ => ?_)
  refine wpAny_Slice (thn (po_none.run pins s1 σ H1 (fun o H2 => o = none ∧ H2 = H1) I1 ⟨rfl, rfl⟩) fun vl s2 ⟨l, H2, I2, pl, el, e2⟩ => ?_)
  subst el e2
  refine thn (po_none.run pins s2 σ H2 (fun o H3 => o = none ∧ H3 = H2) I2 ⟨rfl, rfl⟩) fun vu s3 ⟨u, H3, I3, pu, eu, e3⟩ => ?_
  subst eu e3
  rw [evalPart_some]
  refine thn (hst.run pins s3 σ H3 _ I3 q1) fun vs s4 ⟨y, H4, I4, r4, a, xs, ex, hx, hl, ey, q⟩ => ?_
  subst ex
  cases r1
  cases pl
  cases pu
  subst ey
  obtain ⟨t, rfl⟩ := (show ∃ t, vs = Value.int (-1) t from r4)
  have I5 : Inv X pins σ H4 { s4 with heap := s4.heap.push { cls := .type "slice", data := .fields #[.none, .none, .int (-1) t] } } := I4.kept (t' := s4.toks) fun b ob q => Heap.get?_push_of_some _ q
  obtain ⟨its, r, ht, hz⟩ := I5.tuple hx
  have hlen := r.length
  show wpAny (model X.prog X.w) X.A (subscriptTail e (.Slice none none (some st) p3) (.ref a) (.ref s4.heap.objs.size)) (EP X pins σ Q) X.xe _
  refine tail_any (ops := [.ref a, .ref s4.heap.objs.size]) ht.typeIs (PyProof.Rows.slot_tuple_getitem.lookup) ?_ (by with_unfolding_all rfl)
  refine getItem_tuple_rev ht (Heap.IsSliceOf.new _ .none .none (.int (-1) t)) (IsPart.int (-1) t) (by rw [List.size_toArray]; omega) ?_ (by rw [List.size_toArray]; omega)
  refine ⟨.ref _, _, I5.laid (t' := s4.toks) (o := .tup xs.reverse) (fun b ob q => Heap.get?_push_of_some _ q) (Nat.le_refl _) ?_, rfl, q _ (I5.hok.fresh (Nat.le_refl _))⟩
  exact ⟨by rw [List.length_reverse]; exact hz, its.reverse, r.reverse, ⟨_, Heap.get?_push_size _ rfl, rfl, _, rfl⟩⟩
end Any
set_option pp.maxSteps 600
namespace Any
open L2 PySem PySem.Spec PyProof.Rows LamX NdefX
/-! ### a program's rooms, and those beneath one; home_beats, body_weights -/
theorem pe_Mz {X : Cx} {k : Nat} {m : Str} {C : Addr} {sp : Sp} {pos apos : Pos} {o : Expr} {ta : TE} {pl : Sem Bool} (D : Mf X.prog X.w X.K X.mg X.base C k m ["self"] sp) (c : Cls X.K C) (he : PE X o ta) (hr : Room k X.A)
    (ht : eval (.Call (.Attribute o m apos) [] [] pos) X.env = (do
      let ov ← eval o X.env
      standAt apos.atName
      let (f, first) ← holding [ov] (getMethod ov m pl)
      callWith pos f first (backTo pos (starEach [] X.env)) (backToKw pos (keywordEach [] X.env))) := by rfl) :
    PE X (.Call (.Attribute o m apos) [] [] pos) (tMeth C m sp [] E0 ta tNil) := by
  obtain ⟨f, fd, hm, F, hb⟩ := D
  exact pe_meth0 he c hm F hr hb .nil pass0 ht
abbrev sRms : Stmt := inClass (top 75) 1
abbrev sBen : Stmt := inClass (top 75) 3
abbrev sBWs : Stmt := top 46
theorem scRms : FnScope ["self"] ["self"] (defScope sRms) := ⟨rfl, rfl, rfl, by decide +kernel, rfl, by decide +kernel, by decide +kernel⟩
theorem scBen : FnScope ["self", "name", "above", "room"] ["self", "name"] (defScope sBen) := ⟨rfl, rfl, rfl, by decide +kernel, rfl, by decide +kernel, by decide +kernel⟩
theorem scBWs : FnScope ["program", "found", "room"] ["program"] (defScope sBWs) := ⟨rfl, rfl, rfl, by decide +kernel, rfl, by decide +kernel, by decide +kernel⟩
/-- a program of these rooms -/
def PgOk (C D : Addr) (H : Hp) (x : Addr) (rs : List Rm) : Prop := ∃ R, HeldAt D H x R ∧ RsAt C H R rs
theorem RsAt.keepS {C : Addr} {H H' : Hp} (s : Same H H') {R : Addr} {rs : List Rm} (h : RsAt C H R rs) : RsAt C H' R rs := by
  obtain ⟨as, h1, h2⟩ := h
  exact ⟨as, s _ _ h1, paired_imp (fun _ _ q => q.keep s) h2⟩
theorem PgOk.keep {C D : Addr} {H H' : Hp} {x : Addr} {rs : List Rm} (h : PgOk C D H x rs) (s : Same H H') : PgOk C D H' x rs := by
  obtain ⟨R, h1, h2⟩ := h
  exact ⟨R, h1.keep s, h2.keepS s⟩
def spRms (D : Addr) : Sp := fun vs H Q _ => ∃ x R : Addr, vs = [.ref x] ∧ HeldAt D H x R ∧ Q (.ref R) H
def spBen (C D : Addr) : Sp := fun vs H Q _ => ∃ (x : Addr) (rs : List Rm) (i : Nat) (r : Rm), vs = [.ref x, .str r.name] ∧ PgOk C D H x rs ∧ Right rs ∧ rs[i]? = some r ∧
  ∀ p H', H p = none → Same H H' → H' p = some (.lst ((ben rs r.name).map V.str)) → Q (.ref p) H'
def spBWs (C D : Addr) : Sp := fun vs H Q _ => ∃ (x : Addr) (rs : List Rm), vs = [.ref x] ∧ PgOk C D H x rs ∧ Right rs ∧ ∀ p H', H p = none → Same H H' → H' p = some (.dK (bx (tabF gW rs.reverse))) → Q (.ref p) H'
theorem right_uno {rs : List Rm} (h : Right rs) {i : Nat} {r : Rm} (hi : rs[i]? = some r) : ∀ (j : Nat) (r' : Rm), j < i → rs[j]? = some r' → r'.name ≠ r.name := fun j r' hj h' e => by
  refine (h.all i r hi).one ?_
  rw [← e]
  exact List.mem_map_of_mem (List.mem_of_getElem? (by rw [List.getElem?_take, if_pos hj]; exact h'))
section
variable {P : Program} {w : World} {K : PySem.W.Frag} {mg : Str → Option Value} {base : Heap} {f C D : Addr} {fd : FuncData}
theorem ok_rms (TP : HeldC K D) (F : Fun K "rooms" "Program.rooms" sRms f fd) : FnOk P w K mg base CX0 1 f fd ["self"] (spRms D) := by
  refine F.ok scRms (fun vs H Q E h => ?_) (fun cdv A outer s H vs Q E hr h => ?_)
  · obtain ⟨x, R, rfl, _⟩ := h
    rfl
  obtain ⟨x, R, rfl, ⟨dx, v, hx⟩, q⟩ := h
  exact ⟨_, pss_one (ps_ret (pe_fld (pv 0) rfl)), _, rfl, x, D, dx, _, _, rfl, hx, TP.cl, TP.held, pf_held, q⟩
theorem ok_ben (T : RoomC K C) (TP : HeldC K D) (MO : Mf P w K mg base D 1 "room_of" ["self", "name"] (spRO C D)) (F : Fun K "beneath" "Program.beneath" sBen f fd) : FnOk P w K mg base CX0 2 f fd ["self", "name"] (spBen C D) := by
  refine F.ok scBen (fun vs H Q E h => ?_) (fun cdv A outer s H vs Q E hr h => ?_)
  · obtain ⟨x, rs, i, r, rfl, _⟩ := h
    rfl
  obtain ⟨x, rs, i, r, rfl, ⟨R, ⟨dx, v, hx⟩, as, hR, hp⟩, ok, hi, q⟩ := h
  have hs : sizeLine = 16777216 := sizeLine_eq
  have hl := paired_len hp
  have z8 := ok.hi
  refine ⟨_, pss_cons (ps_set (i := 2) scBen.nd rfl (Or.inr rfl) (pe_M MO TP.cl (pv 0) hr (pa_cons (pv 1) pa_nil)))
    (pss_one (ps_ret (pe_lc (own := [("room", 3)]) (g := gName 3) (tt := tTest (tOp rEq (tFld K (tVar 3) "above") (tFld K (tVar 2) "name"))) (te := tFld K (tVar 3) "name") rfl scBen.nd (pi_tup (pe_fld (pv 0) rfl)) (blkOk_by (N := ["self", "name", "above", "room"]) (sc := defScope sBen) (by decide +kernel))
          (fun _ _ _ _ _ => pg_name (i := 3) scBen.nd rfl (Or.inl rfl)) (fun _ _ _ _ _ => pts_one (pt_cmpR op_eq (pe_fld (pv 3) rfl) (pe_fld (pv 2) rfl) (nomark _))) (fun _ _ _ _ _ => pe_fld (pv 3) rfl)))), ?_⟩
  refine ⟨_, rfl, x, dx, _, rfl, hx, pf_none (by decide +kernel) (by decide +kernel), _, rfl, x, R, r.name, rs, i, r, rfl, ⟨dx, v, hx⟩, ⟨as, hR, hp⟩, hi, rfl, right_uno ok hi, fun e hat => ?_⟩
  obtain ⟨dy, n, a, b, s', k, t, p, y, h1, h2⟩ := hat
  have hn := h2.name
  subst hn
  refine ⟨_, rfl, x, D, dx, _, _, rfl, hx, TP.cl, TP.held, pf_held, R, rfl, ⟨_, SqT.of hR⟩, fun L hL => ?_⟩
  refine turns_tup (K := K) (a := R) (xs := as.map V.ref) (rs.map fun o => if o.above = r.name then some (V.str o.name) else none) hL (fun Hc sm => SqT.of (sm _ _ hR)) (by rw [List.length_map, List.length_map]; exact hl.symm) (by rw [List.length_map]; omega) ?_ ?_
  · intro j z o Hc Y N hz2 ho sm hY hN
    obtain ⟨e', he', rfl⟩ := refs_at hz2
    obtain ⟨r', hr', dx', n', a', b', s'', k', t', p', y', h1', h2'⟩ := paired_get hp he'
    rw [List.getElem?_map, hr'] at ho
    have ho : o = if r'.above = r.name then some (V.str r'.name) else none := (Option.some.inj ho).symm
    have hn' := h2'.name
    have ha' := h2'.above
    subst hn' ha'
    refine ⟨rfl, _, rfl, e', C, dx', _, _, rfl, sm _ _ h1', T.cl, T.n2, rf_above, _, rfl, e, C, dy, _, _, rfl, sm _ _ h1, T.cl, T.n1, rf_name, rfl, _, rfl, ite2 (fun c1 => ?_) (fun c1 => ?_)⟩
    · have e9 : r'.above = r.name := V.str.inj (of_decide_eq_true c1)
      rw [if_pos e9] at ho
      exact ⟨_, rfl, e', C, dx', _, _, rfl, sm _ _ h1', T.cl, T.n1, rf_name, hY _ ho Hc same_refl⟩
    · have e9 : ¬ r'.above = r.name := fun z => c1 (decide_eq_true (by rw [z]))
      rw [if_neg e9] at ho
      exact hN ho Hc same_refl
  · intro Hc hc2 sm
    rw [fm_ben] at hc2
    exact q L Hc hL sm hc2
theorem same_put {H H1 : Hp} {p : Addr} {o : HO} (s : Same H H1) (n : H p = none) : Same H (upd H1 p o) := fun a ob ha => by
  rw [upd_ne (ne_of_none ha n)]
  exact s a ob ha
theorem ok_bws (T : RoomC K C) (TP : HeldC K D) (MR : Mf P w K mg base D 1 "rooms" ["self"] (spRms D)) (B : Df P w K mg base 13 "body_weight" ["body", "weights"] (spBW 4)) (F : Fun K "body_weights" "body_weights" sBWs f fd) : FnOk P w K mg base CX0 14 f fd ["program"] (spBWs C D) := by
  refine F.ok scBWs (fun vs H Q E h => ?_) (fun cdv A outer s H vs Q E hr h => ?_)
  · obtain ⟨x, rs, rfl, _⟩ := h
    rfl
  obtain ⟨x, rs, rfl, ⟨R, ⟨dx, v, hx⟩, as, hR, hp⟩, ok, q⟩ := h
  have hs : sizeLine = 16777216 := sizeLine_eq
  have hl := paired_len hp
  have z1 := ok.lo
  have z8 := ok.hi
  have hr1 := hr.mono (show 1 ≤ 13 by decide)
  have hu := Nat.lt_of_le_of_lt (Nat.add_le_add_left (show 1 ≤ 64 by decide) _) hr.units
  have hpr : Paired (RmAt C H) as.reverse rs.reverse := by
    have z := paired_rev hp .nil
    rw [List.append_nil, List.append_nil] at z
    exact z
  refine ⟨_, pss_cons (ps_set (i := 1) scBWs.nd rfl (Or.inl rfl) pe_dnewK)
    (pss_cons (ps_for PassesOwn.never rfl (pi_tup (pe_revT (pe_Mz MR TP.cl (pv 0) hr1) (pe_un un_neg pe_int))) (pg_name (i := 2) scBWs.nd rfl (Or.inl rfl))
      (pss_one (ps_asg (pe_D B hr rfl (pa_cons (pe_fld (pv 2) rfl) (pa_cons (pv 1) pa_nil))) (pg_sub (pv 1) (pe_fld (pv 2) rfl) (set_dict hu)))))
    (pss_one (ps_ret (pv 1)))), ?_⟩
  refine fun L hL => ?_
  have s1 := same_new hL (.dK [])
  refine ⟨_, rfl, x, dx, _, rfl, s1 _ _ hx, pf_none (by decide +kernel) (by decide +kernel), x, R, rfl, ⟨dx, v, s1 _ _ hx⟩, ?_⟩
  refine ⟨_, rfl, R, as.map V.ref, rfl, SqT.of (s1 _ _ hR), by rw [List.length_map]; omega, rfl, fun p2 hp2 => ?_⟩
  have Lp : L ≠ p2 := ne_of_none upd_same hp2
  refine ⟨p2, rfl, ⟨_, SqT.of upd_same⟩, ?_⟩
  have erev : (as.map V.ref).reverse = as.reverse.map V.ref := List.map_reverse.symm
  rw [erev]
  have s2 := s1.trans (same_new hp2 (.tup (as.reverse.map V.ref)))
  refine for_tup (K := K) (a := p2) (xs := as.reverse.map V.ref) (fun i σ Hc => ∃ y, σ = [some (.ref x), some (.ref L), y] ∧ Same H Hc ∧ Hc p2 = some (.tup (as.reverse.map V.ref)) ∧ Hc L = some (.dK (bx (tabF gW (rs.reverse.take i))))) ⟨_, rfl, s2, upd_same, by rw [upd_ne Lp]; exact upd_same⟩ ?_ ?_ ?_
  · rintro i σ Hc _ ⟨y, rfl, sm, hp3, hL3⟩
    exact SqT.of hp3
  · rintro i z σ Hc hz ⟨y, rfl, sm, hp3, hL3⟩
    obtain ⟨e, he, rfl⟩ := refs_at hz
    obtain ⟨r, hir, hat⟩ := paired_get hpr he
    obtain ⟨dy, n, a, b, s', k, t, p, bd, h1, h2⟩ := hat
    obtain ⟨c, rfl, hc⟩ := h2.body
    have hn := h2.name
    subst hn
    obtain ⟨ws, b1, b2, b3, b4⟩ := body_of ok (at_rev hir)
    refine ⟨_, rfl, e, C, dy, _, _, rfl, sm _ _ h1, T.cl, T.n8, rf_body, _, rfl, c, r.body, L, _, r.bn, ws, ben rs r.name, rfl, hc.keep (Same.tups sm), b3, b1, b2, ⟨hL3, fun n hn => ben_take ok hir hn⟩, fun H4 s4 => ?_⟩
    have hL4 := s4 _ _ hL3
    refine ⟨_, rfl, _, rfl, e, C, dy, _, _, rfl, s4 _ _ (sm _ _ h1), T.cl, T.n1, rf_name, L, _, rfl, DPut.k (k := Sum.inr r.name) hL4 ?_, ?_⟩
    · unfold bx
      have e1 := congrArg List.length (tabF_keys (g := gW) (rs.reverse.take i))
      rw [List.length_map, List.length_map, List.length_take] at e1
      rw [List.length_map, e1]
      rw [List.length_reverse]
      omega
    have nk : r.name ∉ (tabF gW (rs.reverse.take i)).map (·.1) := by
      rw [tabF_keys, List.map_take]
      exact nd_take (rev_nd ok) (by rw [List.getElem?_map, hir]; rfl)
    refine ⟨_, rfl, same_put (sm.trans s4) hL, by rw [upd_ne Lp.symm]; exact s4 _ _ hp3, ?_⟩
    rw [upd_same, bx_new nk, tabF_take hir]
    rfl
  · rintro σ Hc ⟨y, rfl, sm, hp3, hL3⟩
    rw [List.length_map, List.length_reverse, hl, ← List.length_reverse, List.take_length] at hL3
    exact ⟨_, rfl, q L Hc hL sm hL3⟩
end
end Any
set_option pp.maxSteps 600
namespace Any
open L2 PySem PySem.Spec PyProof.Rows LamX NdefX
/-! ### right_beats, beats_home, beats_right, beats_of -/
def vHome (rs : List Rm) (r : Rm) : Int := r.home (Wt rs)
theorem look_wt {rs : List Rm} (h : Right rs) {i : Nat} {r : Rm} (hi : rs[i]? = some r) : look (tabF gW rs.reverse) r.name = some (r.body.wt (Wt rs)) := by
  rw [← wt_take h (rev_at hi)]
  exact tab_at (rev_nd h) (rev_at hi)
theorem get_str {H : Hp} {L : Addr} {kvs : List (Str × Int)} {x : Str} {n : Int} (h : H L = some (.dK (bx kvs))) (e : look kvs x = some n) : DGet H L (.str x) (some (.int n)) := by
  have z := DGet.k (k := Sum.inr x) h
  rw [bx_val, e] at z
  exact z
end Any
set_option pp.maxSteps 600
namespace Any
open L2 PySem PySem.Spec PyProof.Rows LamX NdefX
/-! ### measures as mathematics -/
/-- xs stands in ys at p -/
def Seg {α : Type} (ys : List α) (p : Nat) (xs : List α) : Prop := ∀ (t : Nat) (x : α), xs[t]? = some x → ys[p + t]? = some x
theorem Seg.head {α : Type} {ys : List α} {p : Nat} {x : α} {xs : List α} (h : Seg ys p (x :: xs)) : ys[p]? = some x := h 0 x rfl
theorem Seg.tail {α : Type} {ys : List α} {p : Nat} {x : α} {xs : List α} (h : Seg ys p (x :: xs)) : Seg ys (p + 1) xs := fun t y e => by
  have := h (t + 1) y (by rw [List.getElem?_cons_succ]; exact e)
  rw [show p + 1 + t = p + (t + 1) by omega]
  exact this
theorem Seg.left {α : Type} {ys : List α} {p : Nat} {xs zs : List α} (h : Seg ys p (xs ++ zs)) : Seg ys p xs := fun t y e => h t y (by
  rw [List.getElem?_append_left (List.getElem?_eq_some_iff.mp e).1]
  exact e)
theorem Seg.right {α : Type} {ys : List α} {p : Nat} {xs zs : List α} (h : Seg ys p (xs ++ zs)) : Seg ys (p + xs.length) zs := fun t y e => by
  have := h (xs.length + t) y (by rw [List.getElem?_append_right (Nat.le_add_right _ _), Nat.add_sub_cancel_left]; exact e)
  rw [Nat.add_assoc]
  exact this
theorem Seg.self {α : Type} (as xs bs : List α) : Seg (as ++ xs ++ bs) as.length xs := fun t y e => by
  have ht := (List.getElem?_eq_some_iff.mp e).1
  rw [List.append_assoc, List.getElem?_append_right (Nat.le_add_right _ _), Nat.add_sub_cancel_left, List.getElem?_append_left ht]
  exact e
/-- the number at a place -/
def Ni (Ns : List Int) (i x : Int) : Prop := ∃ t : Nat, i = (t : Int) ∧ Ns[t]? = some x
theorem Seg.ni {Ns : List Int} {p : Nat} {x : Int} {xs : List Int} (h : Seg Ns p (x :: xs)) : Ni Ns (p : Int) x := ⟨p, rfl, h.head⟩
mutual
/-- how many fors a step has -/
def Sg.nf : Sg → Nat
  | .ifs _ a b => a.nf + b.nf
  | .fors _ _ a => 1 + a.nf
  | _ => 0
def Bd.nf : Bd → Nat
  | .nil => 0
  | .cons s b => s.nf + b.nf
end
mutual
/-- the places that a step adds where p stand, f of them fors -/
def Sg.pls : Sg → Nat → Nat → Int → List Pl
  | .ifs t a b, p, f, j => .ifp t (begI a ((p : Int) + 1) j) (begI b ((p : Int) + 1 + a.sz) j) :: (a.pls (p + 1) f j ++ b.pls (p + 1 + a.sz) (f + a.nf) j)
  | .fors e m a, p, f, j => .forp f e m ((p : Int) + 1) :: .chk f (begI a ((p : Int) + 1 + 1) ((p : Int) + 1)) j :: a.pls (p + 2) (f + 1) ((p : Int) + 1)
  | .call x r e, p, f, j => [.ask x r e ((p : Int) + 1) ((p : Int) + 2), .clear r j, .again r p]
  | .set x e, _, _, j => [.set x e j]
  | .say x e, _, _, j => [.say x e j]
  | .hear x, _, _, j => [.hear x j]
def Bd.pls : Bd → Nat → Nat → Int → List Pl
  | .nil, _, _, _ => []
  | .cons s b, p, f, j => s.pls p f (begI b ((p : Int) + s.sz) j) ++ b.pls (p + s.sz) (f + s.nf) j
end
mutual
/-- what is left at each place of a step where l is left at the first -/
def Sg.nums (W : Str → Int) : Sg → Int → List Int
  | .ifs t a b, l => l :: (a.nums W (l - Sg.wt W (.ifs t a b)) ++ b.nums W (l - Sg.wt W (.ifs t a b)))
  | .fors e m a, l => l :: (l - Sg.wt W (.fors e m a) + 1) :: a.nums W (l - Sg.wt W (.fors e m a) + 1)
  | .call x r e, l => [l, l - Sg.wt W (.call x r e) + 2, l]
  | _, l => [l]
/-- .. of a body behind which k is left -/
def Bd.nums (W : Str → Int) : Bd → Int → List Int
  | .nil, _ => []
  | .cons s b, k => s.nums W (k + Bd.wt W (.cons s b)) ++ b.nums W k
end
mutual
/-- what a turn of each for weighs -/
def Sg.turns (W : Str → Int) : Sg → List Int
  | .ifs _ a b => a.turns W ++ b.turns W
  | .fors _ _ a => (1 + a.wt W) :: a.turns W
  | _ => []
def Bd.turns (W : Str → Int) : Bd → List Int
  | .nil => []
  | .cons s b => s.turns W ++ b.turns W
end
mutual
theorem Sg.nums_len (W : Str → Int) : ∀ (s : Sg) (l : Int), (s.nums W l).length = s.sz
  | .ifs t a b, l => by
    unfold Sg.nums Sg.sz
    rw [List.length_cons, List.length_append, Bd.nums_len W a, Bd.nums_len W b]
    omega
  | .fors e m a, l => by
    unfold Sg.nums Sg.sz
    rw [List.length_cons, List.length_cons, Bd.nums_len W a]
    omega
  | .call _ _ _, l => by unfold Sg.nums Sg.sz; rfl
  | .set _ _, l => by unfold Sg.nums Sg.sz; rfl
  | .say _ _, l => by unfold Sg.nums Sg.sz; rfl
  | .hear _, l => by unfold Sg.nums Sg.sz; rfl
theorem Bd.nums_len (W : Str → Int) : ∀ (b : Bd) (k : Int), (b.nums W k).length = b.sz
  | .nil, k => by unfold Bd.nums Bd.sz; rfl
  | .cons s b, k => by
    unfold Bd.nums Bd.sz
    rw [List.length_append, Sg.nums_len W s, Bd.nums_len W b]
end
mutual
theorem Sg.turns_len (W : Str → Int) : ∀ s : Sg, (s.turns W).length = s.nf
  | .ifs t a b => by
    unfold Sg.turns Sg.nf
    rw [List.length_append, Bd.turns_len W a, Bd.turns_len W b]
  | .fors e m a => by
    unfold Sg.turns Sg.nf
    rw [List.length_cons, Bd.turns_len W a]
    omega
  | .call _ _ _ => by unfold Sg.turns Sg.nf; rfl
  | .set _ _ => by unfold Sg.turns Sg.nf; rfl
  | .say _ _ => by unfold Sg.turns Sg.nf; rfl
  | .hear _ => by unfold Sg.turns Sg.nf; rfl
theorem Bd.turns_len (W : Str → Int) : ∀ b : Bd, (b.turns W).length = b.nf
  | .nil => by unfold Bd.turns Bd.nf; rfl
  | .cons s b => by
    unfold Bd.turns Bd.nf
    rw [List.length_append, Sg.turns_len W s, Bd.turns_len W b]
end
mutual
theorem Sg.pls_len : ∀ (s : Sg) (p f : Nat) (j : Int), (s.pls p f j).length = s.sz
  | .ifs t a b, p, f, j => by
    unfold Sg.pls Sg.sz
    rw [List.length_cons, List.length_append, Bd.pls_len a, Bd.pls_len b]
    omega
  | .fors e m a, p, f, j => by
    unfold Sg.pls Sg.sz
    rw [List.length_cons, List.length_cons, Bd.pls_len a]
    omega
  | .call _ _ _, p, f, j => by unfold Sg.pls Sg.sz; rfl
  | .set _ _, p, f, j => by unfold Sg.pls Sg.sz; rfl
  | .say _ _, p, f, j => by unfold Sg.pls Sg.sz; rfl
  | .hear _, p, f, j => by unfold Sg.pls Sg.sz; rfl
theorem Bd.pls_len : ∀ (b : Bd) (p f : Nat) (j : Int), (b.pls p f j).length = b.sz
  | .nil, p, f, j => by unfold Bd.pls Bd.sz; rfl
  | .cons s b, p, f, j => by
    unfold Bd.pls Bd.sz
    rw [List.length_append, Sg.pls_len s, Bd.pls_len b]
end
theorem Sg.nums_head (W : Str → Int) : ∀ (s : Sg) (l : Int), ∃ r, s.nums W l = l :: r
  | .ifs t a b, l => by unfold Sg.nums; exact ⟨_, rfl⟩
  | .fors e m a, l => by unfold Sg.nums; exact ⟨_, rfl⟩
  | .call _ _ _, l => by unfold Sg.nums; exact ⟨_, rfl⟩
  | .set _ _, l => by unfold Sg.nums; exact ⟨_, rfl⟩
  | .say _ _, l => by unfold Sg.nums; exact ⟨_, rfl⟩
  | .hear _, l => by unfold Sg.nums; exact ⟨_, rfl⟩
/-- what is left where a body begins -/
theorem beg_num {W : Str → Int} {Ns : List Int} {b : Bd} {p : Nat} {i j k : Int} (hi : i = (p : Int)) (hj : Ni Ns j k) (h : Seg Ns p (b.nums W k)) : Ni Ns (begI b i j) (k + b.wt W) := by
  cases b with
  | nil =>
    unfold begI Bd.wt
    rw [Int.add_zero]
    exact hj
  | cons s b =>
    unfold Bd.nums at h
    obtain ⟨r, e⟩ := Sg.nums_head W s (k + Bd.wt W (.cons s b))
    have := h.left
    rw [e] at this
    rw [hi]
    exact this.ni
theorem fors_app (ps qs : List Pl) : fors (ps ++ qs) = fors ps + fors qs := by
  unfold fors
  rw [List.filter_append, List.length_append]
  omega
mutual
theorem Sg.pls_fors : ∀ (s : Sg) (p f : Nat) (j : Int), fors (s.pls p f j) = s.nf
  | .ifs t a b, p, f, j => by
    unfold Sg.pls Sg.nf
    rw [show ∀ x (l : List Pl), fors (x :: l) = fors [x] + fors l from fun x l => fors_app [x] l, fors_app, Bd.pls_fors a, Bd.pls_fors b]
    show (0 : Int) + _ = _
    omega
  | .fors e m a, p, f, j => by
    unfold Sg.pls Sg.nf
    have z := Bd.pls_fors a (p + 2) (f + 1) ((p : Int) + 1)
    have z1 := fors_app [Pl.forp f e m ((p : Int) + 1)] (Pl.chk f (begI a ((p : Int) + 1 + 1) ((p : Int) + 1)) j :: a.pls (p + 2) (f + 1) ((p : Int) + 1))
    have z2 := fors_app [Pl.chk f (begI a ((p : Int) + 1 + 1) ((p : Int) + 1)) j] (a.pls (p + 2) (f + 1) ((p : Int) + 1))
    have e1 : fors [Pl.forp f e m ((p : Int) + 1)] = 1 := rfl
    have e2 : fors [Pl.chk f (begI a ((p : Int) + 1 + 1) ((p : Int) + 1)) j] = 0 := rfl
    rw [List.singleton_append] at z1 z2
    rw [z1, z2, e1, e2, z]
    omega
  | .call _ _ _, p, f, j => by unfold Sg.pls Sg.nf; rfl
  | .set _ _, p, f, j => by unfold Sg.pls Sg.nf; rfl
  | .say _ _, p, f, j => by unfold Sg.pls Sg.nf; rfl
  | .hear _, p, f, j => by unfold Sg.pls Sg.nf; rfl
theorem Bd.pls_fors : ∀ (b : Bd) (p f : Nat) (j : Int), fors (b.pls p f j) = b.nf
  | .nil, p, f, j => by unfold Bd.pls Bd.nf; rfl
  | .cons s b, p, f, j => by
    unfold Bd.pls Bd.nf
    rw [fors_app, Sg.pls_fors s, Bd.pls_fors b]
    omega
end
theorem fors_one {x : Pl} : fors [x] = if x.isFor = true then 1 else 0 := by
  cases x <;> rfl
mutual
/-- places as add_step lays them -/
theorem addS_pls : ∀ (s : Sg) (ps : List Pl) (f : Nat) (j : Int), fors ps = (f : Int) → addS ps j s = ps ++ s.pls ps.length f j
  | .ifs t a b, ps, f, j, hf => by
    unfold addS Sg.pls
    rw [addB_pls a _ f j (by rw [fors_app, hf]; show (f : Int) + 0 = _; omega), addB_pls b _ (f + a.nf) j (by rw [fors_app, fors_app, hf, Bd.pls_fors a]; show (f : Int) + 0 + _ = _; omega)]
    simp only [List.length_append, List.length_singleton, Bd.pls_len, List.append_assoc]
    rw [← Nat.add_assoc]
    rfl
  | .fors e m a, ps, f, j, hf => by
    unfold addS Sg.pls
    rw [addB_pls a _ (f + 1) _ (by rw [fors_app, fors_app, hf]; show (f : Int) + 1 + 0 = _; omega)]
    rw [List.length_append, List.length_append, List.length_singleton, List.length_singleton, List.append_assoc, List.append_assoc, hf]
    rfl
  | .call x r e, ps, f, j, hf => by
    unfold addS Sg.pls
    rw [List.append_assoc, List.append_assoc]
    rfl
  | .set x e, ps, f, j, hf => by unfold addS Sg.pls; rfl
  | .say x e, ps, f, j, hf => by unfold addS Sg.pls; rfl
  | .hear x, ps, f, j, hf => by unfold addS Sg.pls; rfl
theorem addB_pls : ∀ (b : Bd) (ps : List Pl) (f : Nat) (j : Int), fors ps = (f : Int) → addB ps j b = ps ++ b.pls ps.length f j
  | .nil, ps, f, j, hf => by unfold addB Bd.pls; rw [List.append_nil]
  | .cons s b, ps, f, j, hf => by
    unfold addB Bd.pls
    rw [addS_pls s ps f _ hf, addB_pls b _ (f + s.nf) j (by rw [fors_app, hf, Sg.pls_fors s]; omega), List.length_append, Sg.pls_len, List.append_assoc]
end
end Any
set_option pp.maxSteps 600
namespace Any
open L2 PySem PySem.Spec PyProof.Rows LamX NdefX
/-! ### every number falls -/
/-- what is asked of the number n of a place -/
def fallP (L : List Pl) (W : Str → Int) (N T : List Int) (n : Int) : Pl → Prop
  | .home _ => n = 0
  | .ifp _ y z => ∃ a b, Ni N y a ∧ Ni N z b ∧ a < n ∧ b < n
  | .forp k _ m c => ∃ a u, Ni N c a ∧ Ni T k u ∧ a + m * u < n
  | .chk k b o => ∃ x y u, Ni N o x ∧ Ni N b y ∧ Ni T k u ∧ x < n ∧ y < n + u
  | .ask _ r _ i _ => ∃ (r' : Str) (b a : Int) (t : Nat), i = (t : Int) ∧ L[t]? = some (.clear r' b) ∧ Ni N b a ∧ a + (8 + 2 * (1 + W r)) ≤ n
  | .clear _ i => ∃ a, Ni N i a ∧ a + 2 ≤ n
  | .again _ i => ∃ a, Ni N i a ∧ a ≤ n
  | .told _ => 2 ≤ n
  | .set _ _ i => ∃ a, Ni N i a ∧ a < n
  | .say _ _ i => ∃ a, Ni N i a ∧ a < n
  | .hear _ i => ∃ a, Ni N i a ∧ a < n
  | .tell _ _ i => ∃ a, Ni N i a ∧ a < n
/-- all of these places, the first at p -/
def AllF (L : List Pl) (W : Str → Int) (N T : List Int) (p : Nat) (xs : List Pl) : Prop := ∀ (t : Nat) (x : Pl), xs[t]? = some x → ∃ n, N[p + t]? = some n ∧ fallP L W N T n x
section
variable {L : List Pl} {W : Str → Int} {N T : List Int} {p : Nat}
theorem AllF.nil : AllF L W N T p [] := fun t x e => by simp at e
theorem AllF.cons {x : Pl} {xs : List Pl} {n : Int} (h1 : N[p]? = some n) (h2 : fallP L W N T n x) (h3 : AllF L W N T (p + 1) xs) : AllF L W N T p (x :: xs) := fun t y e => by
  cases t with
  | zero =>
    cases e
    exact ⟨n, h1, h2⟩
  | succ t =>
    rw [List.getElem?_cons_succ] at e
    obtain ⟨m, g1, g2⟩ := h3 t y e
    exact ⟨m, by rw [show p + (t + 1) = p + 1 + t by omega]; exact g1, g2⟩
theorem AllF.app {xs ys : List Pl} (h1 : AllF L W N T p xs) (h2 : AllF L W N T (p + xs.length) ys) : AllF L W N T p (xs ++ ys) := fun t y e => by
  by_cases ht : t < xs.length
  · rw [List.getElem?_append_left ht] at e
    exact h1 t y e
  · rw [List.getElem?_append_right (by omega)] at e
    obtain ⟨m, g1, g2⟩ := h2 _ y e
    exact ⟨m, by rw [show p + t = p + xs.length + (t - xs.length) by omega]; exact g1, g2⟩
mutual
theorem Sg.fall {xs ws rs : List Str} (hW : ∀ r ∈ rs, 0 ≤ W r) : ∀ (s : Sg), s.ok xs ws rs → ∀ (p f : Nat) (j l : Int), Seg N p (s.nums W l) → Seg T f (s.turns W) → Seg L p (s.pls p f j) → Ni N j (l - s.wt W) → AllF L W N T p (s.pls p f j)
  | .ifs t a b, ho, p, f, j, l, h1, h2, h3, h4 => by
    unfold Sg.ok at ho
    have w1 := Bd.wt_nn hW a ho.2.1.1
    have w2 := Bd.wt_nn hW b ho.2.2.1
    have e : Sg.wt W (.ifs t a b) = 1 + mx (a.wt W) (b.wt W) := by unfold Sg.wt; rfl
    have mm : a.wt W ≤ mx (a.wt W) (b.wt W) ∧ b.wt W ≤ mx (a.wt W) (b.wt W) := by
      unfold mx
      split <;> constructor <;> omega
    unfold Sg.nums at h1
    unfold Sg.turns at h2
    unfold Sg.pls at h3 ⊢
    obtain ⟨k, hk⟩ : ∃ k, k = l - Sg.wt W (.ifs t a b) := ⟨_, rfl⟩
    rw [← hk] at h1 h4
    rw [e] at hk
    have n1 := h1.tail
    have na := n1.left
    have nb := n1.right
    rw [Bd.nums_len] at nb
    have pa := h3.tail.left
    have pb := h3.tail.right
    rw [Bd.pls_len] at pb
    have tb := h2.right
    rw [Bd.turns_len] at tb
    refine .cons h1.head ?_ (.app (Bd.fall hW a ho.2.1.1 _ _ _ _ na h2.left pa h4) ?_)
    · exact ⟨_, _, beg_num (p := p + 1) (by omega) h4 na, beg_num (p := p + 1 + a.sz) (by omega) h4 nb, by omega, by omega⟩
    · rw [Bd.pls_len]
      exact Bd.fall hW b ho.2.2.1 _ _ _ _ nb tb pb h4
  | .fors e m a, ho, p, f, j, l, h1, h2, h3, h4 => by
    unfold Sg.ok at ho
    have w1 := Bd.wt_nn hW a ho.2.2.1
    have ew : Sg.wt W (.fors e m a) = 1 + (m + 1) * (1 + a.wt W) := by unfold Sg.wt; rfl
    unfold Sg.nums at h1
    unfold Sg.turns at h2
    unfold Sg.pls at h3 ⊢
    obtain ⟨k, hk⟩ : ∃ k, k = l - Sg.wt W (.fors e m a) := ⟨_, rfl⟩
    rw [← hk] at h1 h4
    rw [ew, Int.add_mul, Int.one_mul] at hk
    have nc : Ni N ((p : Int) + 1) (k + 1) := ⟨p + 1, by omega, h1.tail.head⟩
    have nt := h2.ni
    have na := h1.tail.tail
    refine .cons h1.head ⟨_, _, nc, nt, by omega⟩ (.cons h1.tail.head ⟨_, _, _, h4, beg_num (p := p + 1 + 1) (by omega) nc na, nt, by omega, by omega⟩ ?_)
    exact Bd.fall hW a ho.2.2.1 _ _ _ _ na h2.tail h3.tail.tail nc
  | .call x r e, ho, p, f, j, l, h1, h2, h3, h4 => by
    have ew : Sg.wt W (.call x r e) = 8 + 2 * (1 + W r) := by unfold Sg.wt; rfl
    unfold Sg.nums at h1
    unfold Sg.pls at h3 ⊢
    obtain ⟨k, hk⟩ : ∃ k, k = l - Sg.wt W (.call x r e) := ⟨_, rfl⟩
    rw [← hk] at h1 h4
    rw [ew] at hk
    exact .cons h1.head ⟨r, j, k, p + 1, by omega, h3.tail.head, h4, by omega⟩ (.cons h1.tail.head ⟨k, h4, by omega⟩ (.cons h1.tail.tail.head ⟨l, h1.ni, by omega⟩ .nil))
  | .set x e, ho, p, f, j, l, h1, h2, h3, h4 => by
    have ew : Sg.wt W (.set x e) = 1 := by unfold Sg.wt; rfl
    unfold Sg.nums at h1
    unfold Sg.pls at h3 ⊢
    rw [ew] at h4
    exact .cons h1.head ⟨_, h4, by omega⟩ .nil
  | .say x e, ho, p, f, j, l, h1, h2, h3, h4 => by
    have ew : Sg.wt W (.say x e) = 1 := by unfold Sg.wt; rfl
    unfold Sg.nums at h1
    unfold Sg.pls at h3 ⊢
    rw [ew] at h4
    exact .cons h1.head ⟨_, h4, by omega⟩ .nil
  | .hear x, ho, p, f, j, l, h1, h2, h3, h4 => by
    have ew : Sg.wt W (.hear x) = 1 := by unfold Sg.wt; rfl
    unfold Sg.nums at h1
    unfold Sg.pls at h3 ⊢
    rw [ew] at h4
    exact .cons h1.head ⟨_, h4, by omega⟩ .nil
theorem Bd.fall {xs ws rs : List Str} (hW : ∀ r ∈ rs, 0 ≤ W r) : ∀ (b : Bd), b.ok xs ws rs → ∀ (p f : Nat) (j k : Int), Seg N p (b.nums W k) → Seg T f (b.turns W) → Seg L p (b.pls p f j) → Ni N j k → AllF L W N T p (b.pls p f j)
  | .nil, ho, p, f, j, k, h1, h2, h3, h4 => by
    unfold Bd.pls
    exact .nil
  | .cons s b, ho, p, f, j, k, h1, h2, h3, h4 => by
    unfold Bd.ok at ho
    unfold Bd.nums at h1
    unfold Bd.turns at h2
    unfold Bd.pls at h3 ⊢
    have n1 := h1.right
    rw [Sg.nums_len] at n1
    have p1 := h3.right
    rw [Sg.pls_len] at p1
    have t1 := h2.right
    rw [Sg.turns_len] at t1
    have e : Bd.wt W (.cons s b) = s.wt W + b.wt W := by rw [Bd.wt]
    refine .app (Sg.fall hW s ho.1 _ _ _ _ h1.left h2.left h3.left ?_) ?_
    · have := beg_num (W := W) (b := b) (i := (p : Int) + s.sz) (p := p + s.sz) (by omega) h4 n1
      rw [e, show k + (s.wt W + b.wt W) - s.wt W = k + b.wt W by omega]
      exact this
    · rw [Sg.pls_len]
      exact Bd.fall hW b ho.2 _ _ _ _ n1 t1 p1 h4
end
end
end Any
set_option pp.maxSteps 600
namespace Any
open L2 PySem PySem.Spec PyProof.Rows LamX NdefX
/-! ### a room's measure; the fors around each place -/
def Rm.kB (r : Rm) : Int := if r.above = "" then 0 else 3
def Rm.tl (r : Rm) : List Int := if r.above = "" then [] else [3, 2]
def Rm.numsR (W : Str → Int) (r : Rm) : List Int := [0] ++ r.body.nums W r.kB ++ r.tl
theorem room_fall {W : Str → Int} {r : Rm} {xs ws rs : List Str} (hW : ∀ x ∈ rs, 0 ≤ W x) (ho : r.body.ok xs ws rs) (ht : r.above ≠ "" → ∃ i e, r.told = some (i, e)) :
    r.places.length = (r.numsR W).length ∧ AllF r.places W (r.numsR W) (r.body.turns W) 0 r.places := by
  have hT : Seg (r.body.turns W) 0 (r.body.turns W) := fun t x e => by rw [Nat.zero_add]; exact e
  have hN : Seg (r.numsR W) 1 (r.body.nums W r.kB) := Seg.self [0] _ _
  by_cases ha : r.above = ""
  · have eP : r.places = [.home (begI r.body 1 0)] ++ r.body.pls 1 0 0 ++ [] := by
      unfold Rm.places Rm.behind
      rw [if_pos ha, if_pos ha, addB_pls r.body _ 0 _ rfl, List.append_nil]
      rfl
    have ek : r.kB = 0 := if_pos ha
    have et : r.tl = [] := if_pos ha
    have hP : Seg r.places 1 (r.body.pls 1 0 0) := by rw [eP]; exact Seg.self _ _ _
    refine ⟨?_, ?_⟩
    · rw [eP]
      unfold Rm.numsR
      rw [et, List.length_append, List.length_append, List.length_append, List.length_append, Bd.pls_len, Bd.nums_len]
      rfl
    have n0 : Ni (r.numsR W) 0 r.kB := ⟨0, rfl, by rw [ek]; rfl⟩
    have z := Bd.fall (L := r.places) (T := r.body.turns W) hW r.body ho 1 0 0 r.kB hN hT hP n0
    generalize hL : r.places = L at *
    rw [show AllF L W (r.numsR W) (r.body.turns W) 0 L = AllF L W (r.numsR W) (r.body.turns W) 0 (Pl.home (begI r.body 1 0) :: r.body.pls 1 0 0) by rw [eP, List.append_nil]; rfl]
    exact .cons (n := 0) rfl rfl z
  · obtain ⟨i, e, hte⟩ := ht ha
    have eP : r.places = [.home (begI r.body 1 (r.body.sz + 1))] ++ r.body.pls 1 0 (r.body.sz + 1) ++ [.tell i e ((r.body.sz : Int) + 1 + 1), .told 0] := by
      unfold Rm.places Rm.behind
      rw [if_neg ha, if_neg ha, hte, addB_pls r.body _ 0 _ rfl]
      show _ ++ [_] ++ [_] = _
      rw [List.append_assoc]
      rfl
    have ek : r.kB = 3 := if_neg ha
    have et : r.tl = [3, 2] := if_neg ha
    have hP : Seg r.places 1 (r.body.pls 1 0 (r.body.sz + 1)) := by rw [eP]; exact Seg.self _ _ _
    have hl : r.places.length = (r.numsR W).length := by
      rw [eP]
      unfold Rm.numsR
      rw [et, List.length_append, List.length_append, List.length_append, List.length_append, Bd.pls_len, Bd.nums_len]
      rfl
    refine ⟨hl, ?_⟩
    have hE : Seg (r.numsR W) (1 + r.body.sz) [3, 2] := by
      have q : Seg (r.numsR W) 0 (r.numsR W) := fun t x h => by rw [Nat.zero_add]; exact h
      have q2 : Seg (r.numsR W) 0 ([0] ++ r.body.nums W r.kB ++ [3, 2]) := by
        have e2 : r.numsR W = [0] ++ r.body.nums W r.kB ++ [3, 2] := by
          unfold Rm.numsR
          rw [et]
        rw [← e2]
        exact q
      have := q2.right
      rw [List.length_append, Bd.nums_len, Nat.zero_add] at this
      exact this
    have n0 : Ni (r.numsR W) ((r.body.sz : Int) + 1) r.kB := ⟨1 + r.body.sz, by omega, by rw [ek]; exact hE.head⟩
    have z := Bd.fall (L := r.places) (T := r.body.turns W) hW r.body ho 1 0 _ r.kB hN hT hP n0
    generalize hL : r.places = L at *
    rw [show AllF L W (r.numsR W) (r.body.turns W) 0 L = AllF L W (r.numsR W) (r.body.turns W) 0 (Pl.home (begI r.body 1 (r.body.sz + 1)) :: (r.body.pls 1 0 (r.body.sz + 1) ++ [.tell i e ((r.body.sz : Int) + 1 + 1), .told 0])) by rw [eP]; rfl]
    refine .cons (n := 0) rfl rfl (.app z ?_)
    rw [Bd.pls_len]
    refine .cons (n := 3) hE.head ⟨2, ⟨1 + r.body.sz + 1, by omega, hE.tail.head⟩, by decide⟩ (.cons (n := 2) hE.tail.head ?_ .nil)
    show (2 : Int) ≤ 2
    decide
mutual
/-- the fors around each place of a step: f stand before it, R are around it -/
def Sg.rgs : Sg → Nat → List (Int × Int) → List (List (Int × Int))
  | .ifs _ a b, f, R => R :: (a.rgs f R ++ b.rgs (f + a.nf) R)
  | .fors _ m a, f, R => R :: (R ++ [((f : Int), m)]) :: a.rgs (f + 1) (R ++ [((f : Int), m)])
  | .call _ _ _, _, R => [R, R, R]
  | _, _, R => [R]
def Bd.rgs : Bd → Nat → List (Int × Int) → List (List (Int × Int))
  | .nil, _, _ => []
  | .cons s b, f, R => s.rgs f R ++ b.rgs (f + s.nf) R
end
mutual
theorem Sg.rgs_len : ∀ (s : Sg) (f : Nat) (R : List (Int × Int)), (s.rgs f R).length = s.sz
  | .ifs t a b, f, R => by
    unfold Sg.rgs Sg.sz
    rw [List.length_cons, List.length_append, Bd.rgs_len a, Bd.rgs_len b]
    omega
  | .fors e m a, f, R => by
    unfold Sg.rgs Sg.sz
    rw [List.length_cons, List.length_cons, Bd.rgs_len a]
    omega
  | .call _ _ _, f, R => by unfold Sg.rgs Sg.sz; rfl
  | .set _ _, f, R => by unfold Sg.rgs Sg.sz; rfl
  | .say _ _, f, R => by unfold Sg.rgs Sg.sz; rfl
  | .hear _, f, R => by unfold Sg.rgs Sg.sz; rfl
theorem Bd.rgs_len : ∀ (b : Bd) (f : Nat) (R : List (Int × Int)), (b.rgs f R).length = b.sz
  | .nil, f, R => by unfold Bd.rgs Bd.sz; rfl
  | .cons s b, f, R => by
    unfold Bd.rgs Bd.sz
    rw [List.length_append, Sg.rgs_len s, Bd.rgs_len b]
end
/-- what the fors around weigh -/
def ringV (T : List Int) (R : List (Int × Int)) : Int := (R.map fun q => q.2 * (T[q.1.toNat]?.getD 0)).sum
def RingOk (T : List Int) (R : List (Int × Int)) : Prop := ∀ q ∈ R, ∃ x, Ni T q.1 x
theorem ringV_snoc {T : List Int} {R : List (Int × Int)} {f : Nat} {m u : Int} (h : T[f]? = some u) : ringV T (R ++ [((f : Int), m)]) = ringV T R + m * u := by
  unfold ringV
  rw [List.map_append, List.sum_append, List.map_singleton, List.sum_singleton, Int.toNat_natCast, h]
  rfl
theorem RingOk.snoc {T : List Int} {R : List (Int × Int)} {f : Nat} {m u : Int} (h : RingOk T R) (hu : T[f]? = some u) : RingOk T (R ++ [((f : Int), m)]) := fun q hq => by
  rcases List.mem_append.mp hq with z | z
  · exact h q z
  · rw [List.mem_singleton.mp z]
    exact ⟨u, f, rfl, hu⟩
/-- none of these is above M -/
def AllR (N T : List Int) (M : Int) (p : Nat) (xs : List (List (Int × Int))) : Prop := ∀ (t : Nat) (R : List (Int × Int)), xs[t]? = some R → RingOk T R ∧ ∃ n, N[p + t]? = some n ∧ n + ringV T R ≤ M
section
variable {N T : List Int} {M M' : Int} {p : Nat}
theorem AllR.nil : AllR N T M p [] := fun t x e => by simp at e
theorem AllR.cons {R : List (Int × Int)} {xs : List (List (Int × Int))} {n : Int} (h1 : N[p]? = some n) (h0 : RingOk T R) (h2 : n + ringV T R ≤ M) (h3 : AllR N T M (p + 1) xs) : AllR N T M p (R :: xs) := fun t y e => by
  cases t with
  | zero =>
    cases e
    exact ⟨h0, n, h1, h2⟩
  | succ t =>
    rw [List.getElem?_cons_succ] at e
    obtain ⟨g0, m, g1, g2⟩ := h3 t y e
    exact ⟨g0, m, by rw [show p + (t + 1) = p + 1 + t by omega]; exact g1, g2⟩
theorem AllR.app {xs ys : List (List (Int × Int))} (h1 : AllR N T M p xs) (h2 : AllR N T M (p + xs.length) ys) : AllR N T M p (xs ++ ys) := fun t y e => by
  by_cases ht : t < xs.length
  · rw [List.getElem?_append_left ht] at e
    exact h1 t y e
  · rw [List.getElem?_append_right (by omega)] at e
    obtain ⟨g0, m, g1, g2⟩ := h2 _ y e
    exact ⟨g0, m, by rw [show p + t = p + xs.length + (t - xs.length) by omega]; exact g1, g2⟩
theorem AllR.mono {xs : List (List (Int × Int))} (h : AllR N T M p xs) (hm : M ≤ M') : AllR N T M' p xs := fun t y e => by
  obtain ⟨g0, m, g1, g2⟩ := h t y e
  exact ⟨g0, m, g1, by omega⟩
mutual
theorem Sg.ring {W : Str → Int} {xs ws rs : List Str} (hW : ∀ r ∈ rs, 0 ≤ W r) : ∀ (s : Sg), s.ok xs ws rs → ∀ (p f : Nat) (l : Int) (R : List (Int × Int)), Seg N p (s.nums W l) → Seg T f (s.turns W) → RingOk T R → AllR N T (l + ringV T R) p (s.rgs f R)
  | .ifs t a b, ho, p, f, l, R, h1, h2, h3 => by
    unfold Sg.ok at ho
    have w1 := Bd.wt_nn hW a ho.2.1.1
    have w2 := Bd.wt_nn hW b ho.2.2.1
    have e : Sg.wt W (.ifs t a b) = 1 + mx (a.wt W) (b.wt W) := by unfold Sg.wt; rfl
    have mm : a.wt W ≤ mx (a.wt W) (b.wt W) ∧ b.wt W ≤ mx (a.wt W) (b.wt W) := by
      unfold mx
      split <;> constructor <;> omega
    unfold Sg.nums at h1
    unfold Sg.turns at h2
    unfold Sg.rgs
    obtain ⟨k, hk⟩ : ∃ k, k = l - Sg.wt W (.ifs t a b) := ⟨_, rfl⟩
    rw [← hk] at h1
    rw [e] at hk
    have nb := h1.tail.right
    rw [Bd.nums_len] at nb
    have tb := h2.right
    rw [Bd.turns_len] at tb
    refine .cons h1.head h3 (by omega) (.app ((Bd.ring hW a ho.2.1.1 _ _ _ _ h1.tail.left h2.left h3).mono (by omega)) ?_)
    rw [Bd.rgs_len]
    exact (Bd.ring hW b ho.2.2.1 _ _ _ _ nb tb h3).mono (by omega)
  | .fors e m a, ho, p, f, l, R, h1, h2, h3 => by
    unfold Sg.ok at ho
    have w1 := Bd.wt_nn hW a ho.2.2.1
    have ew : Sg.wt W (.fors e m a) = 1 + (m + 1) * (1 + a.wt W) := by unfold Sg.wt; rfl
    unfold Sg.nums at h1
    unfold Sg.turns at h2
    unfold Sg.rgs
    obtain ⟨k, hk⟩ : ∃ k, k = l - Sg.wt W (.fors e m a) := ⟨_, rfl⟩
    rw [← hk] at h1
    rw [ew, Int.add_mul, Int.one_mul] at hk
    have er := ringV_snoc (R := R) (m := m) h2.head
    have h4 := h3.snoc (m := m) h2.head
    refine .cons h1.head h3 (by omega) (.cons h1.tail.head h4 (by rw [er]; omega) ?_)
    have z := Bd.ring hW a ho.2.2.1 _ _ _ _ h1.tail.tail h2.tail h4
    rw [er] at z
    exact z.mono (by omega)
  | .call x r e, ho, p, f, l, R, h1, h2, h3 => by
    unfold Sg.ok at ho
    have hr := hW r ho.2.1
    have ew : Sg.wt W (.call x r e) = 8 + 2 * (1 + W r) := by unfold Sg.wt; rfl
    unfold Sg.nums at h1
    unfold Sg.rgs
    rw [ew] at h1
    exact .cons h1.head h3 (by omega) (.cons h1.tail.head h3 (by omega) (.cons h1.tail.tail.head h3 (by omega) .nil))
  | .set x e, ho, p, f, l, R, h1, h2, h3 => by
    unfold Sg.nums at h1
    unfold Sg.rgs
    exact .cons h1.head h3 (by omega) .nil
  | .say x e, ho, p, f, l, R, h1, h2, h3 => by
    unfold Sg.nums at h1
    unfold Sg.rgs
    exact .cons h1.head h3 (by omega) .nil
  | .hear x, ho, p, f, l, R, h1, h2, h3 => by
    unfold Sg.nums at h1
    unfold Sg.rgs
    exact .cons h1.head h3 (by omega) .nil
theorem Bd.ring {W : Str → Int} {xs ws rs : List Str} (hW : ∀ r ∈ rs, 0 ≤ W r) : ∀ (b : Bd), b.ok xs ws rs → ∀ (p f : Nat) (k : Int) (R : List (Int × Int)), Seg N p (b.nums W k) → Seg T f (b.turns W) → RingOk T R → AllR N T (k + b.wt W + ringV T R) p (b.rgs f R)
  | .nil, ho, p, f, k, R, h1, h2, h3 => by
    unfold Bd.rgs
    exact .nil
  | .cons s b, ho, p, f, k, R, h1, h2, h3 => by
    unfold Bd.ok at ho
    unfold Bd.nums at h1
    unfold Bd.turns at h2
    unfold Bd.rgs
    have w1 := Sg.wt_nn hW s ho.1
    have n1 := h1.right
    rw [Sg.nums_len] at n1
    have t1 := h2.right
    rw [Sg.turns_len] at t1
    have e : Bd.wt W (.cons s b) = s.wt W + b.wt W := by rw [Bd.wt]
    refine .app (Sg.ring hW s ho.1 _ _ _ _ h1.left h2.left h3) ?_
    rw [Sg.rgs_len]
    exact (Bd.ring hW b ho.2 _ _ _ _ n1 t1 h3).mono (by omega)
end
end
end Any
set_option pp.maxSteps 600
set_option maxHeartbeats 1000000
namespace L2
open PySem PySem.Spec PyProof.Rows HT
section
variable {prog : Program} {w : World} {A : Around} {E : Value → Shared → Prop} {s : Shared}
/-- the tail of a list gives way to another list: xs[lo:] = ys, lo of any sign -/
theorem tail_in {ls nw sc : Addr} {old more : Array Value} {k1 k2 a : Nat} {lv : Value} {lo : Int} {Q : Unit → Shared → Prop} (e1 : s.heap.get? ls = some { cls := .type "list", data := .seq old k1 }) (e2 : s.heap.get? nw = some { cls := .type "list", data := .seq more k2 }) (un : ls ≠ nw)
    (hs : s.heap.IsSliceOf sc lv .none .none) (pl : IsPart lv (some lo)) (bd : sliceBounds (some lo) none none old.size = ((a : Int), (old.size : Int), 1)) (ha : a ≤ old.size) (hz : old.size + more.size ≤ sizeLine)
    (h : Q () { s with heap := s.heap.update ls (Obj.mapSeq fun xs => xs.extract 0 a ++ more ++ xs.extract old.size xs.size) }) : wpAny (model prog w) A (setItem (.ref ls) (.ref sc) (.ref nw)) Q E s := by
  have i1 := PySem.IsL.isList e1
  have i2 := PySem.IsL.isList e2
  obtain ⟨so, so1, so2, so3⟩ := id hs
  have ts : s.TypeIs (.ref sc) "slice" := ⟨so, so1, so2⟩
  have st : ¬ ((rawPart none == rawInt 0) = true) := by intro z; cases z
  have df : Builtin.List.listSameRef (.ref ls) (.ref nw) = false := by
    show (_ == _) = false
    exact beq_eq_false_iff_ne.mpr un
  have mxe : (max (a : Int) (old.size : Int)).toNat = old.size := by omega
  have fz : ((fun xs : Array Value => xs.extract 0 a ++ more ++ xs.extract old.size xs.size) old).size ≤ sizeLine + 1 := by
    simp only [Array.size_append, Array.size_extract]; omega
  unfold setItem
  try with_reducible refine wpAny_holding ?_
  first
  | refine wpAny_bind (wpAny_pure ?_)
  | skip
  refine wpAny_bind (wpAny_sequenceKey i1.typeIs (by decide) ?_)
  refine wpAny_bind (wpAny_callSpecial?_slot (name := Str.ofString "__setitem__") i1.typeIs slot_list_setitem (wpAny_call_entry slot_list_setitem i1.typeIs entry_list_setitem ?_ (args_list_setitem _ _ _)))
  show wpAny _ _ (Builtin.List.listSubscript? (.ref sc) >>= _) _ _ s
  refine wpAny_bind ?_
  unfold Builtin.List.listSubscript?
  refine wpAny_bind (wpAny_specialOf ts slice_no_index ?_)
  simp only [Option.isNone_none, if_true]
  refine wpAny_pure ?_
  show wpAny _ _ (typeOf (.ref sc) >>= _) _ _ s
  refine wpAny_bind (wpAny_typeOf ts ?_)
  first
  | rw [if_neg (by decide)]
  | refine PySem.W.KFB.if_not (by decide) ?_
  rw [listSliceParts_eq]
  refine wpAny_bind (wpAny_bind (wpAny_field so1 so3 (x := .none) rfl (wpAny_bind (wpAny_listPart .none ?_))))
  rw [if_neg st]
  refine wpAny_bind (wpAny_field so1 so3 (x := lv) rfl (wpAny_bind (wpAny_listPart pl ?_)))
  refine wpAny_bind (wpAny_field so1 so3 (x := .none) rfl (wpAny_bind (wpAny_listPart .none (wpAny_pure ?_))))
  first
  | simp only [df, Bool.false_eq_true, if_false]
  | refine PySem.W.KFB.if_not df ?_
  | (dsimp only
     rw [if_neg (by rw [df]; exact Bool.false_ne_true)])
  refine wpAny_bind (m := Builtin.List.listAllItems (.ref nw) "must assign iterable to extended slice") ?_
  unfold Builtin.List.listAllItems
  refine wpAny_bind (wpAny_typeOf i2.typeIs ?_)
  first
  | refine PySem.W.KFB.if_so (by decide) ?_
  | rw [if_pos (by decide)]
  | simp only [beq_self_eq_true, Bool.true_or, if_true]
  unfold Builtin.List.listItems
  refine wpAny_bind (wpAny_seqItems e2 rfl (wpAny_pure ?_))
  refine wpAny_bind (wpAny_bind (wpAny_seqItems e1 rfl (wpAny_pure ?_)))
  refine wpAny_bind (wpAny_of_eq ((sliceIndices_raw (some lo) none none old.size (by simp)).trans (congrArg (pure : Int × Int × Int → Sem (Int × Int × Int)) bd)) ?_)
  show wpAny _ _ (if ((1 : Int) == 1) = true then _ else _) _ _ s
  rw [if_pos (by decide)]
  refine wpAny_bind (wpAny_rule ?_)
  first
  | simp only [notLongL hz, Bool.false_eq_true, if_false]
  | refine PySem.W.KFB.if_not (notLongL hz) ?_
  first
  | refine wpAny_bind (wpAny_pure ?_)
  | skip
  show wpAny _ _ (updateSeq ls (fun xs => xs.extract 0 ((a : Int)).toNat ++ more ++ xs.extract (max (a : Int) (old.size : Int)).toNat xs.size) >>= _) _ _ s
  rw [mxe, Int.toNat_natCast]
  refine wpAny_bind (wpAny_updateSeq (hz := Nat.le_trans (Nat.le_add_right _ _) hz) (_hz' := fz) e1 rfl ?_)
  refine wpAny_bind (wpAny_letGo ?_)
  first
  | exact wpAny_bind (wpAny_pure (wpAny_pure ⟨.none, rfl, wpAny_pure h⟩))
  | exact wpAny_pure ⟨.none, rfl, wpAny_pure h⟩
end
/-- xs[lo:] = ys -/
def gTail (to tl : TE) : TG := fun v σ H Q => to σ H fun o H1 => tPart tl σ H1 fun i H2 => ∃ (l b : Addr) (xs ys : List V) (k : Int) (a : Nat), o = .ref l ∧ v = .ref b ∧ i = some k ∧ H2 l = some (.lst xs) ∧ H2 b = some (.lst ys) ∧ l ≠ b ∧ sliceBounds (some k) none none xs.length = ((a : Int), (xs.length : Int), 1) ∧ a ≤ xs.length ∧
  xs.length + ys.length ≤ sizeLine ∧ Q σ (upd H2 l (.lst (xs.take a ++ ys)))
theorem pg_tail {X : Cx} {o i : Expr} {to tl : TE} {pos p2 : Pos} (ho : PE X o to) (hi : PE X i tl)
    (ha : ∀ v, assign (.Subscript o (.Slice (some i) none none p2) pos) X.env v = (do
      let ov ← holding [v] (eval o X.env)
      let iv ← holding [v, ov] (eval (.Slice (some i) none none p2) X.env)
      standAt pos
      holding [v, ov, iv] (setItem ov iv v)
      release [iv, v, ov] []) := by intro _; rfl) : PG X (.Subscript o (.Slice (some i) none none p2) pos) (gTail to tl) := by
  refine ⟨fun pins s σ H v u Q I r h => ?_⟩
  rw [ha]
  refine wpAny_bind (wpAny_holding (thn (ho.run pins s σ H _ I h) fun ov s1 ⟨x, H1, I1, r1, q1⟩ => ?_))
  refine wpAny_bind (wpAny_holding ?_)
  refine wpAny_Slice (thn ((po_some hi).run pins s1 σ H1 _ I1 q1) fun vl s2 ⟨oi, H2, I2, pl, q2⟩ => ?_)
  obtain ⟨l, b, xs, ys, k, a, rfl, rfl, rfl, hl, hb, ne, bd, hal, hz, q⟩ := q2
  rw [evalPart_none]
  refine wpAny_pure ?_
  refine wpAny_pure ?_
  have I4 : Inv X pins σ H2 { s2 with heap := s2.heap.push { cls := .type "slice", data := .fields #[vl, .none, .none] } } := I2.kept (t' := s2.toks) fun bb ob q => Heap.get?_push_of_some _ q
  have hsl : ({ s2 with heap := s2.heap.push { cls := .type "slice", data := .fields #[vl, .none, .none] } } : Shared).heap.IsSliceOf s2.heap.objs.size vl .none .none := Heap.IsSliceOf.new ..
  refine wpAny_bind (wpAny_standAt ?_)
  generalize ({ s2 with heap := s2.heap.push { cls := .type "slice", data := .fields #[vl, .none, .none] } } : Shared) = s3 at *
  cases r1
  cases r
  obtain ⟨z, its, n, rv, hlen, e⟩ := I4.lstM hl
  obtain ⟨z2, its2, n2, rv2, hlen2, e2⟩ := I4.lstM hb
  have sz : its.toArray.size = xs.length := by rw [List.size_toArray, ← hlen]
  have sz2 : its2.toArray.size = ys.length := by rw [List.size_toArray, ← hlen2]
  refine wpAny_bind (wpAny_holding (tail_in (a := a) e e2 ne hsl pl (by rw [sz]; exact bd) (by rw [sz]; exact hal) (by rw [sz, sz2]; exact hz) ?_))
  refine wpAny_release ⟨σ, _, ?_, q⟩
  refine I4.lset (its' := its.take a ++ its2) (t' := s3.toks) hl e ?_ ((rv.take _).append rv2) ?_
  · apply Array.toList_inj.mp
    simp
  · rw [List.length_append, List.length_take]
    omega
end L2
set_option pp.maxSteps 600
namespace Any
open L2 PySem PySem.Spec PyProof.Rows LamX NdefX
/-! ### number_body, number_within -/
/-- these numbers written over from p on -/
def ow : List Int → Nat → List Int → List Int
  | Ns, _, [] => Ns
  | Ns, p, x :: xs => ow (Ns.set p x) (p + 1) xs
theorem ow_nil (Ns : List Int) (p : Nat) : ow Ns p [] = Ns := by rw [ow]
theorem ow_cons (Ns : List Int) (p : Nat) (x : Int) (xs : List Int) : ow Ns p (x :: xs) = ow (Ns.set p x) (p + 1) xs := by rw [ow]
theorem ow_len : ∀ (xs Ns : List Int) (p : Nat), (ow Ns p xs).length = Ns.length
  | [], _, _ => by rw [ow_nil]
  | x :: xs, Ns, p => by rw [ow_cons, ow_len xs, List.length_set]
theorem ow_app : ∀ (xs ys Ns : List Int) (p : Nat), ow Ns p (xs ++ ys) = ow (ow Ns p xs) (p + xs.length) ys
  | [], _, _, _ => by rw [List.nil_append, List.length_nil, Nat.add_zero, ow_nil]
  | x :: xs, ys, Ns, p => by
    rw [List.cons_append, ow_cons, ow_cons, ow_app xs, List.length_cons, show p + 1 + xs.length = p + (xs.length + 1) by omega]
theorem ow_below : ∀ (xs Ns : List Int) (p i : Nat), i < p → (ow Ns p xs)[i]? = Ns[i]?
  | [], _, _, _, _ => by rw [ow_nil]
  | x :: xs, Ns, p, i, h => by
    rw [ow_cons, ow_below xs _ _ _ (by omega), List.getElem?_set_ne (by omega)]
theorem ow_mid : ∀ (xs zs as cs : List Int), zs.length = xs.length → ow (as ++ zs ++ cs) as.length xs = as ++ xs ++ cs
  | [], zs, as, cs, h => by
    rw [ow_nil, List.eq_nil_of_length_eq_zero h]
  | x :: xs, [], as, cs, h => by cases h
  | x :: xs, z :: zs, as, cs, h => by
    have e : (as ++ z :: zs ++ cs).set as.length x = (as ++ [x]) ++ zs ++ cs := by
      rw [List.append_assoc, List.set_append_right _ _ (Nat.le_refl _), Nat.sub_self]
      simp
    have z2 := ow_mid xs zs (as ++ [x]) cs (Nat.succ.inj h)
    rw [List.length_append, List.length_singleton] at z2
    rw [ow_cons, e, z2]
    simp
theorem ixN_nat {n j : Nat} (h : j < n) : ixN n (j : Int) = some j := by
  unfold ixN
  rw [if_pos (by omega), if_pos (by omega), Int.toNat_natCast]
abbrev sNB : Stmt := top 52
abbrev sNW : Stmt := top 53
abbrev nmNB : List Str := ["numbers", "body", "at", "behind", "weights", "left", "step"]
abbrev psNB : List Str := ["numbers", "body", "at", "behind", "weights"]
abbrev psNW : List Str := ["numbers", "step", "at", "behind", "weights"]
theorem scNB : FnScope nmNB psNB (defScope sNB) := ⟨rfl, rfl, rfl, by decide +kernel, rfl, by decide +kernel, by decide +kernel⟩
theorem scNW : FnScope psNW psNW (defScope sNW) := ⟨rfl, rfl, rfl, by decide +kernel, rfl, by decide +kernel, by decide +kernel⟩
def spNB (n : Nat) : Sp := fun vs H Q _ => ∃ (L c D : Addr) (p : Nat) (i k : Int) (Ns : List Int) (b : Bd) (kvs : List (Str × Int)) (xs ws rs : List Str), vs = [.ref L, .ref c, .int i, .int k, .ref D] ∧ i = (p : Int) ∧ H L = some (.lst (Ns.map V.int)) ∧ BdAt H c b ∧ b.dp ≤ n ∧ b.ok xs ws rs ∧ b.len ≤ 12 ∧ WtsAt H D kvs rs ∧
  p + b.sz ≤ Ns.length ∧ Ns.length ≤ 1000 ∧ ∀ H', Kept L H H' → H' L = some (.lst ((ow Ns p (b.nums (lk kvs) k)).map V.int)) → Q .non H'
def spNW (n : Nat) : Sp := fun vs H Q _ => ∃ (L D : Addr) (v : V) (p : Nat) (i k l : Int) (Ns r : List Int) (s : Sg) (kvs : List (Str × Int)) (xs ws rs : List Str), vs = [.ref L, v, .int i, .int k, .ref D] ∧ i = (p : Int) ∧ H L = some (.lst (Ns.map V.int)) ∧ SgAt H v s ∧ s.dp ≤ n ∧ s.ok xs ws rs ∧ WtsAt H D kvs rs ∧
  p + s.sz ≤ Ns.length ∧ Ns.length ≤ 1000 ∧ Ns[p]? = some l ∧ k = l - s.wt (lk kvs) ∧ s.nums (lk kvs) l = l :: r ∧ ∀ H', Kept L H H' → H' L = some (.lst ((ow Ns (p + 1) r).map V.int)) → Q .non H'
theorem WtsAt.keepX {H H' : Hp} {D L : Addr} {kvs : List (Str × Int)} {rs : List Str} {xs : List V} (h : WtsAt H D kvs rs) (k : Kept L H H') (hL : H L = some (.lst xs)) : WtsAt H' D kvs rs := ⟨k _ _ (ne_of h.at_ hL (by intro z; cases z)) h.at_, h.all⟩
section
variable {P : Program} {w : World} {K : PySem.W.Frag} {mg : Str → Option Value} {base : Heap} {f : Addr} {fd : FuncData}
theorem no_nw {k : Nat} : FnOk P w K mg base CX0 k f fd psNW (spNW 0) := by
  have no : ∀ vs H Q E, ¬ spNW 0 vs H Q E := fun vs H Q E h => by
    obtain ⟨L, D, v, p, i, k, l, Ns, r, s, kvs, xs, ws, rs, _, _, _, _, hd, _⟩ := h
    exact absurd hd (Nat.not_le.mpr (Sg.dp_pos s))
  exact ⟨fun vs H Q E h => absurd h (no vs H Q E), fun A outer s H args us vs Q E _ _ _ _ h => absurd h (no vs H Q E)⟩
theorem ok_nb {n k : Nat} (hn : n ≤ 4) (hk : 13 ≤ k) (F : Fun K "number_body" "number_body" sNB f fd) (GW : Df P w K mg base k "number_within" psNW (spNW n)) (DB : Df P w K mg base 13 "body_weight" ["body", "weights"] (spBW 4)) (DS : Df P w K mg base 12 "step_weight" ["step", "weights"] (spSW 4))
    (DZ : Df P w K mg base 8 "step_size" ["step"] (spSSz 4)) : FnOk P w K mg base CX0 (k + 1) f fd psNB (spNB n) := by
  refine F.ok scNB (fun vs H Q E h => ?_) (fun cdv A outer s H vs Q E hr h => ?_)
  · obtain ⟨L, c, D, p, i, k, Ns, b, kvs, xs, ws, rs, rfl, _⟩ := h
    rfl
  obtain ⟨L, c, D, p, i, k, Ns, b, kvs, xs, ws, rs, rfl, rfl, hL, ⟨us, hc, hu⟩, hd, ho, hlen, hD, hz, hz2, q⟩ := h
  have hs : sizeLine = 16777216 := sizeLine_eq
  have hr13 := hr.mono (show 13 ≤ _ from hk)
  have hr12 := hr.mono (show 12 ≤ _ by omega)
  have hr8 := hr.mono (show 8 ≤ _ by omega)
  refine ⟨_, pss_cons (ps_set (i := 5) scNB.nd rfl (Or.inl rfl) (pe_op op_add (pv 3) (pe_D DB hr13 rfl (pa_cons (pv 1) (pa_cons (pv 4) pa_nil)))))
    (pss_one (ps_for PassesOwn.never rfl (pi_tup (pv 1)) (pg_name (i := 6) scNB.nd rfl (Or.inl rfl))
      (pss_cons (ps_asg (pv 5) (pg_sub (pv 0) (pv 2) set_list))
      (pss_cons (ps_aug (i := 5) scNB.nd rfl (Or.inl rfl) (pe_D DS hr12 rfl (pa_cons (pv 6) (pa_cons (pv 4) pa_nil))) ip_sub)
      (pss_cons (ps_expr (pe_D GW hr rfl (pa_cons (pv 0) (pa_cons (pv 6) (pa_cons (pv 2) (pa_cons (pv 5) (pa_cons (pv 4) pa_nil)))))))
      (pss_one (ps_aug (i := 2) scNB.nd rfl (Or.inl rfl) (pe_D DZ hr8 rfl (pa_cons (pv 6) pa_nil)) ip_add))))))), ?_⟩
  refine ⟨_, rfl, _, rfl, _, rfl, c, b, D, kvs, xs, ws, rs, rfl, ⟨us, hc, hu⟩, by omega, ho, hlen, hD, fun H1 s1 => ⟨_, _, rfl, rfl, ?_⟩⟩
  refine ⟨_, rfl, c, rfl, ⟨us, SqT.of (s1 _ _ hc)⟩, ?_⟩
  refine for_tup (K := K) (a := c) (xs := us) (fun j σ Hc => ∃ (m : Nat) (x : Option V) (done : List Int) (r : Bd), σ = [some (.ref L), some (.ref c), some (.int (m : Int)), some (.int k), some (.ref D), some (.int (k + r.wt (lk kvs))), x] ∧ m = p + done.length ∧ Kept L H Hc ∧ Hc L = some (.lst ((ow Ns p done).map V.int)) ∧
    BdL Hc (us.drop j) r ∧ r.dp ≤ n ∧ r.ok xs ws rs ∧ m + r.sz ≤ Ns.length ∧ done ++ r.nums (lk kvs) k = b.nums (lk kvs) k) ?_ ?_ ?_ ?_
  · exact ⟨p, _, [], b, rfl, rfl, Kept.of s1, by rw [ow_nil]; exact s1 _ _ hL, hu.keep (Same.tups s1), hd, ho, hz, rfl⟩
  · rintro j σ Hc _ ⟨m, x, done, r, rfl, _, k2, _⟩
    exact SqT.of (k2.tups hL _ _ hc)
  · rintro j z σ Hc hst ⟨m, x, done, r, rfl, em, k2, hL2, hr2, hd2, ho2, hz3, he⟩
    have dr : us.drop j = z :: us.drop (j + 1) := by
      rw [List.getElem?_eq_some_iff] at hst
      obtain ⟨lt, e⟩ := hst
      rw [← e]
      exact List.drop_eq_getElem_cons lt
    rw [dr] at hr2
    cases r with
    | nil =>
      unfold BdL at hr2
      cases hr2
    | cons sg r =>
      unfold BdL at hr2
      obtain ⟨v, us2, e2, hsg, hr2⟩ := hr2
      cases e2
      unfold Bd.dp at hd2
      unfold Bd.ok at ho2
      unfold Bd.sz at hz3
      have eN : Bd.nums (lk kvs) (.cons sg r) k = sg.nums (lk kvs) (k + Bd.wt (lk kvs) (.cons sg r)) ++ r.nums (lk kvs) k := by rw [Bd.nums]
      have eW : Bd.wt (lk kvs) (.cons sg r) = sg.wt (lk kvs) + r.wt (lk kvs) := by rw [Bd.wt]
      obtain ⟨rest, hrest⟩ := Sg.nums_head (lk kvs) sg (k + Bd.wt (lk kvs) (.cons sg r))
      have hsz := Sg.nums_len (lk kvs) sg (k + Bd.wt (lk kvs) (.cons sg r))
      rw [hrest, List.length_cons] at hsz
      have hlN := ow_len done Ns p
      refine ⟨_, rfl, _, rfl, _, rfl, L, _, _, m, rfl, rfl, hL2, ixN_nat (by rw [List.length_map, hlN]; omega), ?_⟩
      have eset : ((ow Ns p done).map V.int).set m (.int (k + Bd.wt (lk kvs) (.cons sg r))) = (ow Ns p (done ++ [k + Bd.wt (lk kvs) (.cons sg r)])).map V.int := by
        rw [ow_app, ow_cons, ow_nil, List.map_set, em]
      rw [eset]
      have k3 : Kept L Hc (upd Hc L (.lst ((ow Ns p (done ++ [k + Bd.wt (lk kvs) (.cons sg r)])).map V.int))) := Kept.put _
      have hL3 : upd Hc L (.lst ((ow Ns p (done ++ [k + Bd.wt (lk kvs) (.cons sg r)])).map V.int)) L = some (.lst ((ow Ns p (done ++ [k + Bd.wt (lk kvs) (.cons sg r)])).map V.int)) := upd_same
      have t3 := k3.tups hL2
      generalize upd Hc L (.lst ((ow Ns p (done ++ [k + Bd.wt (lk kvs) (.cons sg r)])).map V.int)) = H3 at *
      have D3 := (hD.keepX k2 hL).keepX k3 hL2
      refine ⟨_, rfl, _, rfl, _, rfl, z, sg, D, kvs, xs, ws, rs, rfl, hsg.keep t3, by omega, ho2.1, D3, fun H4 s4 => ⟨_, _, rfl, rfl, ?_⟩⟩
      have t4 : Tups Hc H4 := fun a ys h => Same.tups s4 _ _ (t3 _ _ h)
      refine ⟨_, rfl, _, rfl, _, rfl, _, rfl, _, rfl, L, D, z, m, _, _, k + Bd.wt (lk kvs) (.cons sg r), _, rest, sg, kvs, xs, ws, rs, rfl, rfl, s4 _ _ hL3, hsg.keep t4, by omega, ho2.1, D3.keep s4, by rw [ow_len]; omega, by rw [ow_len]; exact hz2, ?_, rfl, hrest, fun H5 k5 hL5 => ?_⟩
      · rw [ow_app, ow_cons, ow_nil, ← em, List.getElem?_set_self (by rw [hlN]; omega)]
      have t5 : Tups Hc H5 := fun a ys h => k5.tups (s4 _ _ hL3) _ _ (t4 _ _ h)
      refine ⟨_, rfl, _, rfl, z, sg, xs, ws, rs, rfl, hsg.keep t5, by omega, ho2.1, fun H6 s6 => ⟨_, _, rfl, rfl, ?_⟩⟩
      refine ⟨m + sg.sz, some z, done ++ (k + Bd.wt (lk kvs) (.cons sg r)) :: rest, r, ?_, ?_, k2.trans (k3.trans ((Kept.of s4).trans (k5.trans (Kept.of s6)))), ?_, (hr2.keep t5).keep (Same.tups s6), by omega, ho2.2, by omega, ?_⟩
      · have ea : k + Bd.wt (lk kvs) (.cons sg r) - sg.wt (lk kvs) = k + r.wt (lk kvs) := by rw [eW]; omega
        have eb : (((m + sg.sz : Nat)) : Int) = (m : Int) + (sg.sz : Int) := by omega
        rw [eb, ← ea]
        rfl
      · rw [List.length_append, List.length_cons]
        omega
      · have z6 := s6 _ _ hL5
        rw [show done ++ (k + Bd.wt (lk kvs) (.cons sg r)) :: rest = (done ++ [k + Bd.wt (lk kvs) (.cons sg r)]) ++ rest by simp, ow_app _ rest, List.length_append, List.length_singleton, show p + (done.length + 1) = m + 1 by omega]
        exact z6
      · rw [← he, eN, hrest]
        simp
  · rintro σ Hc ⟨m, x, done, r, rfl, em, k2, hL2, hr2, hd2, ho2, hz3, he⟩
    rw [List.drop_length] at hr2
    cases r with
    | nil =>
      have en : Bd.nums (lk kvs) .nil k = [] := by rw [Bd.nums]
      rw [en, List.append_nil] at he
      rw [he] at hL2
      exact q Hc k2 hL2
    | cons sg r =>
      unfold BdL at hr2
      obtain ⟨v, us2, e2, _⟩ := hr2
      cases e2
theorem ok_nw {n k : Nat} (hn : n ≤ 4) (F : Fun K "number_within" "number_within" sNW f fd) (GB : Df P w K mg base k "number_body" psNB (spNB n)) (hk : 9 ≤ k) (DZ : Df P w K mg base 9 "body_size" ["body"] (spBSz 4)) : FnOk P w K mg base CX0 (k + 1) f fd psNW (spNW (n + 1)) := by
  refine F.ok scNW (fun vs H Q E h => ?_) (fun cdv A outer s H vs Q E hr h => ?_)
  · obtain ⟨L, D, v, p, i, k, l, Ns, r, s, kvs, xs, ws, rs, rfl, _⟩ := h
    rfl
  obtain ⟨L, D, v, p, i, k, l, Ns, r, st, kvs, xs, ws, rs, rfl, rfl, hL, hv, hd, ho, hD, hz, hz2, hp, hk2, hN, q⟩ := h
  have hr9 := hr.mono hk
  refine ⟨_, pss_one (ps_if (pt_cmpR op_eq (pe_ix ix_tup (pv 1) pe_int (fun _ _ => rfl)) pe_str (nomark _))
      (pss_cons (ps_expr (pe_D GB hr rfl (pa_cons (pv 0) (pa_cons (pe_ix ix_tup (pv 1) pe_int (fun _ _ => rfl)) (pa_cons (pe_op op_add (pv 2) pe_int) (pa_cons (pv 3) (pa_cons (pv 4) pa_nil)))))))
      (pss_one (ps_expr (pe_D GB hr rfl (pa_cons (pv 0) (pa_cons (pe_ix ix_tup (pv 1) pe_int (fun _ _ => rfl)) (pa_cons (pe_op op_add (pe_op op_add (pv 2) pe_int) (pe_D DZ hr9 rfl (pa_cons (pe_ix ix_tup (pv 1) pe_int (fun _ _ => rfl)) pa_nil))) (pa_cons (pv 3) (pa_cons (pv 4) pa_nil)))))))))
      (pss_one (ps_if (pt_cmpR op_eq (pe_ix ix_tup (pv 1) pe_int (fun _ _ => rfl)) pe_str (nomark _))
        (pss_cons (ps_asg (pe_op op_add (pv 3) pe_int) (pg_sub (pv 0) (pe_op op_add (pv 2) pe_int) set_list))
        (pss_one (ps_expr (pe_D GB hr rfl (pa_cons (pv 0) (pa_cons (pe_ix ix_tup (pv 1) pe_int (fun _ _ => rfl)) (pa_cons (pe_op op_add (pv 2) pe_int) (pa_cons (pe_op op_add (pv 3) pe_int) (pa_cons (pv 4) pa_nil)))))))))
        (pss_one (ps_if (pt_cmpR op_eq (pe_ix ix_tup (pv 1) pe_int (fun _ _ => rfl)) pe_str (nomark _))
          (pss_cons (ps_asg (pe_op op_add (pv 3) pe_int) (pg_sub (pv 0) (pe_op op_add (pv 2) pe_int) set_list))
          (pss_one (ps_asg (pe_ix ix_list (pv 0) (pv 2) (fun _ _ => rfl)) (pg_sub (pv 0) (pe_op op_add (pv 2) pe_int) set_list)))) pss_nil))))), ?_⟩
  have e1 : ((p : Int) + 1) = ((p + 1 : Nat) : Int) := by omega
  have e2 : ((p : Int) + 2) = ((p + 2 : Nat) : Int) := by omega
  cases st with
  | ifs t a b =>
    unfold SgAt at hv
    unfold Sg.ok at ho
    unfold Sg.dp at hd
    unfold Sg.sz at hz
    unfold Sg.nums at hN
    rw [← hk2] at hN
    cases hN
    obtain ⟨pp, u, pb, pc, bs, cs, rfl, h1, h2, h3, h4, h5, h6⟩ := hv
    refine ⟨_, rfl, _, _, _, _, rfl, rfl, SqT.of h1, atI_nat (j := 0) rfl, rfl, _, rfl, itT eq_str ?_⟩
    refine ⟨_, rfl, _, rfl, _, _, _, _, rfl, rfl, SqT.of h1, atI_nat (j := 2) rfl, _, rfl, _, _, rfl, rfl, _, rfl, _, rfl, L, pb, D, p + 1, _, _, Ns, a, kvs, xs, ws, rs, rfl, e1, hL, ⟨_, h3, h4⟩, by omega, ho.2.1.1, ho.2.1.2, hD, by omega, hz2, fun H2 k2 hL2 => ?_⟩
    have t2 := k2.tups hL
    have g1 := t2 _ _ h1
    refine ⟨_, rfl, _, rfl, _, _, _, _, rfl, rfl, SqT.of g1, atI_nat (j := 3) rfl, _, rfl, _, _, rfl, rfl, _, rfl, _, _, _, _, rfl, rfl, SqT.of g1, atI_nat (j := 2) rfl, pb, a, xs, ws, rs, rfl, ⟨_, t2 _ _ h3, h4.keep t2⟩, by omega, ho.2.1.1, ho.2.1.2, fun H3 s3 => ⟨_, _, rfl, rfl, _, rfl, _, rfl, ?_⟩⟩
    have t3 := Same.tups s3
    refine ⟨L, pc, D, p + 1 + a.sz, _, _, _, b, kvs, xs, ws, rs, rfl, by omega, s3 _ _ hL2, ⟨_, t3 _ _ (t2 _ _ h5), (h6.keep t2).keep t3⟩, by omega, ho.2.2.1, ho.2.2.2, (hD.keepX k2 hL).keep s3, by rw [ow_len]; omega, by rw [ow_len]; exact hz2, fun H4 k4 hL4 => ?_⟩
    refine q H4 (k2.trans ((Kept.of s3).trans k4)) ?_
    rw [ow_app, Bd.nums_len]
    exact hL4
  | fors e m a =>
    unfold SgAt at hv
    unfold Sg.ok at ho
    unfold Sg.dp at hd
    unfold Sg.sz at hz
    unfold Sg.nums at hN
    rw [← hk2] at hN
    cases hN
    obtain ⟨pp, u, pb, bs, rfl, h1, h2, h3, h4⟩ := hv
    refine ⟨_, rfl, _, _, _, _, rfl, rfl, SqT.of h1, atI_nat (j := 0) rfl, rfl, _, rfl, itF (ne_str (by decide)) ?_⟩
    refine ⟨_, rfl, _, _, _, _, rfl, rfl, SqT.of h1, atI_nat (j := 0) rfl, rfl, _, rfl, itT eq_str ?_⟩
    refine ⟨_, rfl, _, _, rfl, rfl, _, rfl, _, rfl, _, _, rfl, rfl, L, _, _, p + 1, rfl, rfl, hL, by rw [e1]; exact ixN_nat (by rw [List.length_map]; omega), ?_⟩
    rw [← List.map_set]
    have k2 : Kept L H (upd H L (.lst ((Ns.set (p + 1) (k + 1)).map V.int))) := Kept.put _
    have hL2 : upd H L (.lst ((Ns.set (p + 1) (k + 1)).map V.int)) L = some (.lst ((Ns.set (p + 1) (k + 1)).map V.int)) := upd_same
    generalize upd H L (.lst ((Ns.set (p + 1) (k + 1)).map V.int)) = H2 at *
    have t2 := k2.tups hL
    have g1 := t2 _ _ h1
    refine ⟨_, rfl, _, rfl, _, _, _, _, rfl, rfl, SqT.of g1, atI_nat (j := 3) rfl, _, rfl, _, _, rfl, rfl, _, rfl, _, _, rfl, rfl, _, rfl, L, pb, D, p + 2, _, _, _, a, kvs, xs, ws, rs, rfl, e2, hL2, ⟨_, t2 _ _ h3, h4.keep t2⟩, by omega, ho.2.2.1, ho.2.2.2, hD.keepX k2 hL, by rw [List.length_set]; omega, by rw [List.length_set]; exact hz2, fun H3 k3 hL3 => ?_⟩
    refine q H3 (k2.trans k3) ?_
    rw [ow_cons]
    exact hL3
  | call x r' e =>
    unfold SgAt at hv
    unfold Sg.ok at ho
    unfold Sg.sz at hz
    unfold Sg.nums at hN
    rw [← hk2] at hN
    cases hN
    obtain ⟨pp, u, rfl, h1, h2⟩ := hv
    refine ⟨_, rfl, _, _, _, _, rfl, rfl, SqT.of h1, atI_nat (j := 0) rfl, rfl, _, rfl, itF (ne_str (by decide)) ?_⟩
    refine ⟨_, rfl, _, _, _, _, rfl, rfl, SqT.of h1, atI_nat (j := 0) rfl, rfl, _, rfl, itF (ne_str (by decide)) ?_⟩
    refine ⟨_, rfl, _, _, _, _, rfl, rfl, SqT.of h1, atI_nat (j := 0) rfl, rfl, _, rfl, itT eq_str ?_⟩
    refine ⟨_, rfl, _, _, rfl, rfl, _, rfl, _, rfl, _, _, rfl, rfl, L, _, _, p + 1, rfl, rfl, hL, by rw [e1]; exact ixN_nat (by rw [List.length_map]; omega), ?_⟩
    rw [← List.map_set]
    have k2 : Kept L H (upd H L (.lst ((Ns.set (p + 1) (k + 2)).map V.int))) := Kept.put _
    have hL2 : upd H L (.lst ((Ns.set (p + 1) (k + 2)).map V.int)) L = some (.lst ((Ns.set (p + 1) (k + 2)).map V.int)) := upd_same
    generalize upd H L (.lst ((Ns.set (p + 1) (k + 2)).map V.int)) = H2 at *
    refine ⟨_, rfl, _, rfl, L, _, _, _, rfl, rfl, SqL.of hL2, atI_nat (j := p) (v := .int l) ?_, _, rfl, _, rfl, _, _, rfl, rfl, L, _, _, p + 2, rfl, rfl, hL2, by rw [e2]; exact ixN_nat (by rw [List.length_map, List.length_set]; omega), ?_⟩
    · rw [List.getElem?_map, List.getElem?_set_ne (by omega), hp]
      rfl
    rw [← List.map_set]
    refine q _ (k2.trans (Kept.put _)) ?_
    rw [ow_cons, ow_cons, ow_nil]
    exact upd_same
  | set x e =>
    unfold SgAt at hv
    unfold Sg.nums at hN
    cases hN
    obtain ⟨pp, u, rfl, h1, h2⟩ := hv
    refine ⟨_, rfl, _, _, _, _, rfl, rfl, SqT.of h1, atI_nat (j := 0) rfl, rfl, _, rfl, itF (ne_str (by decide)) ?_⟩
    refine ⟨_, rfl, _, _, _, _, rfl, rfl, SqT.of h1, atI_nat (j := 0) rfl, rfl, _, rfl, itF (ne_str (by decide)) ?_⟩
    refine ⟨_, rfl, _, _, _, _, rfl, rfl, SqT.of h1, atI_nat (j := 0) rfl, rfl, _, rfl, itF (ne_str (by decide)) ?_⟩
    exact q H .refl (by rw [ow_nil]; exact hL)
  | say x e =>
    unfold SgAt at hv
    unfold Sg.nums at hN
    cases hN
    obtain ⟨pp, u, rfl, h1, h2⟩ := hv
    refine ⟨_, rfl, _, _, _, _, rfl, rfl, SqT.of h1, atI_nat (j := 0) rfl, rfl, _, rfl, itF (ne_str (by decide)) ?_⟩
    refine ⟨_, rfl, _, _, _, _, rfl, rfl, SqT.of h1, atI_nat (j := 0) rfl, rfl, _, rfl, itF (ne_str (by decide)) ?_⟩
    refine ⟨_, rfl, _, _, _, _, rfl, rfl, SqT.of h1, atI_nat (j := 0) rfl, rfl, _, rfl, itF (ne_str (by decide)) ?_⟩
    exact q H .refl (by rw [ow_nil]; exact hL)
  | hear x =>
    unfold SgAt at hv
    unfold Sg.nums at hN
    cases hN
    obtain ⟨pp, rfl, h1⟩ := hv
    refine ⟨_, rfl, _, _, _, _, rfl, rfl, SqT.of h1, atI_nat (j := 0) rfl, rfl, _, rfl, itF (ne_str (by decide)) ?_⟩
    refine ⟨_, rfl, _, _, _, _, rfl, rfl, SqT.of h1, atI_nat (j := 0) rfl, rfl, _, rfl, itF (ne_str (by decide)) ?_⟩
    refine ⟨_, rfl, _, _, _, _, rfl, rfl, SqT.of h1, atI_nat (j := 0) rfl, rfl, _, rfl, itF (ne_str (by decide)) ?_⟩
    exact q H .refl (by rw [ow_nil]; exact hL)
/-- bodies n deep -/
theorem all_nw (NB : Nd K mg "number_body" sNB psNB) (NW : Nd K mg "number_within" sNW psNW) (DB : Df P w K mg base 13 "body_weight" ["body", "weights"] (spBW 4)) (DS : Df P w K mg base 12 "step_weight" ["step", "weights"] (spSW 4))
    (DY : Df P w K mg base 8 "step_size" ["step"] (spSSz 4)) (DZ : Df P w K mg base 9 "body_size" ["body"] (spBSz 4)) : ∀ n : Nat, n ≤ 4 → Df P w K mg base (13 + 2 * n) "number_within" psNW (spNW n) ∧ Df P w K mg base (14 + 2 * n) "number_body" psNB (spNB n)
  | 0, h => by
    obtain ⟨f, fd, h1, h2, h3⟩ := NW
    have W : Df P w K mg base 13 "number_within" psNW (spNW 0) := ⟨f, fd, h1, h2.kp, no_nw, h3⟩
    obtain ⟨g, gd, g1, g2, g3⟩ := NB
    exact ⟨W, g, gd, g1, g2.kp, ok_nb h (Nat.le_refl _) g2 W DB DS DY, g3⟩
  | n + 1, h => by
    have B := (all_nw NB NW DB DS DY DZ n (by omega)).2
    obtain ⟨f, fd, h1, h2, h3⟩ := NW
    have W : Df P w K mg base (13 + 2 * (n + 1)) "number_within" psNW (spNW (n + 1)) := ⟨f, fd, h1, h2.kp, (ok_nw (by omega) h2 B (by omega) DZ).mono (by omega), h3⟩
    obtain ⟨g, gd, g1, g2, g3⟩ := NB
    exact ⟨W, g, gd, g1, g2.kp, (ok_nb h (by omega) g2 W DB DS DY).mono (by omega), g3⟩
end
end Any
set_option pp.maxSteps 600
namespace Any
open L2 PySem PySem.Spec PyProof.Rows LamX NdefX
/-! ### all_steps, and what it tells -/
mutual
def Sg.allS : Sg → List Sg
  | .ifs t a b => .ifs t a b :: (a.allS ++ b.allS)
  | .fors e m a => .fors e m a :: a.allS
  | .call x r e => [.call x r e]
  | .set x e => [.set x e]
  | .say x e => [.say x e]
  | .hear x => [.hear x]
def Bd.allS : Bd → List Sg
  | .nil => []
  | .cons s b => s.allS ++ b.allS
end
theorem Bd.allS_eq : ∀ b : Bd, b.allS = (b.toL.map Sg.allS).flatten
  | .nil => by unfold Bd.allS Bd.toL; rfl
  | .cons s b => by
    unfold Bd.allS Bd.toL
    rw [List.map_cons, List.flatten_cons, Bd.allS_eq b]
theorem Sg.allS_eq : ∀ s : Sg, s.allS = s :: (s.subs.map Bd.allS).flatten
  | .ifs t a b => by
    unfold Sg.allS
    show _ = _ :: (a.allS ++ (b.allS ++ []))
    rw [List.append_nil]
  | .fors e m a => by
    unfold Sg.allS
    show _ = _ :: (a.allS ++ [])
    rw [List.append_nil]
  | .call x r e => by unfold Sg.allS; rfl
  | .set x e => by unfold Sg.allS; rfl
  | .say x e => by unfold Sg.allS; rfl
  | .hear x => by unfold Sg.allS; rfl
mutual
theorem Sg.allS_len : ∀ s : Sg, s.allS.length = s.tot
  | .ifs t a b => by
    unfold Sg.allS Sg.tot
    rw [List.length_cons, List.length_append, Bd.allS_len a, Bd.allS_len b]
    omega
  | .fors e m a => by
    unfold Sg.allS Sg.tot
    rw [List.length_cons, Bd.allS_len a]
    omega
  | .call x r e => by unfold Sg.allS Sg.tot; rfl
  | .set x e => by unfold Sg.allS Sg.tot; rfl
  | .say x e => by unfold Sg.allS Sg.tot; rfl
  | .hear x => by unfold Sg.allS Sg.tot; rfl
theorem Bd.allS_len : ∀ b : Bd, b.allS.length = b.tot
  | .nil => by unfold Bd.allS Bd.tot; rfl
  | .cons s b => by
    unfold Bd.allS Bd.tot
    rw [List.length_append, Sg.allS_len s, Bd.allS_len b]
end
theorem flat_take {α β : Type} (f : α → List β) {l : List α} {i : Nat} {x : α} (h : l[i]? = some x) : ((l.take (i + 1)).map f).flatten = ((l.take i).map f).flatten ++ f x := by
  rw [List.take_add_one, h, List.map_append, List.flatten_append]
  show _ ++ (f x ++ []) = _
  rw [List.append_nil]
theorem flat_len {α β : Type} {f : α → List β} {g : α → Nat} (h : ∀ x, (f x).length = g x) (l : List α) : ((l.map f).flatten).length = (l.map g).sum := by
  rw [List.length_flatten, List.map_map]
  congr 1
  exact List.map_congr_left fun x _ => h x
theorem paired_join {α β : Type} {R : α → β → Prop} : ∀ {xs : List α} {ys : List β}, Paired R xs ys → ∀ {us : List α} {vs : List β}, Paired R us vs → Paired R (xs ++ us) (ys ++ vs)
  | _, _, .nil, _, _, h => h
  | _, _, .cons r t, _, _, h => .cons r (paired_join t h)
theorem sgs_keep {H H' : Hp} {us : List V} {ss : List Sg} (h : Paired (SgAt H) us ss) (t : Tups H H') : Paired (SgAt H') us ss := paired_imp (fun _ s q => SgAt.keep t s q) h
def spAls (n : Nat) : Sp := fun vs H Q _ => ∃ a bd, vs = [.ref a] ∧ BdAt H a bd ∧ bd.dp < n ∧ bd.tot ≤ 100000 ∧ ∀ p us H', H p = none → Same H H' → H' p = some (.lst us) → Paired (SgAt H') us bd.allS → Q (.ref p) H'
section
variable {P : Program} {w : World} {K : PySem.W.Frag} {mg : Str → Option Value} {base : Heap} {f wb : Addr} {fd wbd : FuncData}
theorem ok_als {n j : Nat} (F : Fun K "all_steps" "all_steps" sAll f fd) (G : Df P w K mg base (j + 1) "all_steps" ["body"] (spAls n)) (GW : Df P w K mg base 1 "bodies_within" ["step"] spWB) :
    FnOk P w K mg base CX0 (j + 2) f fd ["body"] (spAls (n + 1)) := by
  refine F.ok scAll (fun vs H Q E h => ?_) (fun cdv A outer s H vs Q E hr h => ?_)
  · obtain ⟨a, bd, rfl, _⟩ := h
    rfl
  obtain ⟨a, bd, rfl, ⟨us, ha, hB⟩, hdp, htot, q⟩ := h
  refine ⟨_, pss_cons (ps_set (i := 1) scAll.nd rfl (Or.inl rfl) (pe_lst pa_nil))
    (pss_cons (ps_for PassesOwn.never rfl (pi_tup (pv 0)) (pg_name (i := 2) scAll.nd rfl (Or.inl rfl))
      (pss_cons (ps_expr (pe_bm PySem.F.plainAttrs_list PySem.F.slot_list_append PySem.F.type_list_append mt_append (pv 1) (pa_cons (pv 2) pa_nil)))
      (pss_one (ps_for PassesOwn.never rfl (pi_list (pe_D GW (hr.mono (by omega)) rfl (pa_cons (pv 2) pa_nil))) (pg_name (i := 3) scAll.nd rfl (Or.inl rfl))
        (pss_one (ps_expr (pe_bm PySem.F.plainAttrs_list PySem.F.slot_list_extend PySem.F.type_list_extend mt_extend (pv 1) (pa_cons (pe_D G hr rfl (pa_cons (pv 3) pa_nil)) pa_nil))))))))
    (pss_one (ps_ret (pv 1)))), ?_⟩
  refine ⟨by decide, fun L hL => ?_⟩
  have pr := hB.paired
  have hs : sizeLine = 16777216 := sizeLine_eq
  have tl := bd.tot_eq
  refine ⟨_, rfl, a, rfl, ⟨_, SqT.of (same_new hL _ _ _ ha)⟩, ?_⟩
  refine for_tup (K := K) (a := a) (xs := us) (fun i σ Hc => ∃ x y acc, σ = [some (.ref a), some (.ref L), x, y] ∧ Hc L = some (.lst acc) ∧ Paired (SgAt Hc) acc ((bd.toL.take i).map Sg.allS).flatten ∧ Same H Hc) ?_ ?_ ?_ ?_
  · exact ⟨_, _, [], rfl, upd_same, .nil, same_new hL _⟩
  · rintro i σ Hc _ ⟨x, y, acc, rfl, h1, h2, sm⟩
    exact SqT.of (sm _ _ ha)
  · rintro i v σ Hc hx ⟨x, y, acc, rfl, h1, h2, sm⟩
    obtain ⟨sg, hg, hv⟩ := paired_get pr hx
    have e1 := sum_take Sg.tot hg
    have e2 := sum_take_le Sg.tot bd.toL (i + 1)
    have e3 := sg.tot_eq
    have e5 := paired_len h2
    rw [flat_len Sg.allS_len] at e5
    have mem : sg ∈ bd.toL := List.mem_of_getElem? hg
    refine ⟨_, rfl, .inl ⟨rfl, _, SqL.of h1⟩, _, rfl, L, acc, v, rfl, rfl, h1, by omega, ?_⟩
    have t0 : Tups Hc (upd Hc L (.lst (acc ++ [v]))) := (Kept.put (b := L) _).tups h1
    have sm1 : Same H (upd Hc L (.lst (acc ++ [v]))) := fun b o hb => by
      rw [upd_ne (ne_of_none hb hL)]
      exact sm _ _ hb
    have hv1 := hv.keep (Same.tups sm1)
    have p1 : Paired (SgAt (upd Hc L (.lst (acc ++ [v])))) (acc ++ [v]) (((bd.toL.take i).map Sg.allS).flatten ++ [sg]) := paired_join (sgs_keep h2 t0) (.cons hv1 .nil)
    refine ⟨_, rfl, v, sg, rfl, hv1, fun p as hp pa => ⟨p, rfl, ⟨_, SqL.of upd_same⟩, ?_⟩⟩
    have pL : p ≠ L := fun z => by rw [z, upd_same] at hp; cases hp
    have s2 := same_new hp (.lst (as.map V.ref))
    refine for_list (K := K) (a := p) (xs := as.map V.ref) (fun t σ Hd => ∃ y acc2, σ = [some (.ref a), some (.ref L), some v, y] ∧ Hd L = some (.lst acc2) ∧ Paired (SgAt Hd) acc2 (((bd.toL.take i).map Sg.allS).flatten ++ [sg] ++ ((sg.subs.take t).map Bd.allS).flatten) ∧ Kept L Hc Hd ∧ Hd p = some (.lst (as.map V.ref))) ?_ ?_ ?_ ?_
    · refine ⟨_, acc ++ [v], rfl, ?_, ?_, ?_, upd_same⟩
      · rw [upd_ne (Ne.symm pL)]
        exact upd_same
      · rw [List.take_zero, List.map_nil, List.flatten_nil, List.append_nil]
        exact sgs_keep p1 (Same.tups s2)
      · intro c o cL hc
        have hpn : Hc p = none := by rw [← hp, upd_ne pL]
        rw [upd_ne (ne_of_none hc hpn), upd_ne cL]
        exact hc
    · rintro t σ Hd _ ⟨y2, acc2, rfl, g1, g2, g3, g4⟩
      exact SqL.of g4
    · rintro t z σ Hd hz ⟨y2, acc2, rfl, g1, g2, g3, g4⟩
      rw [List.getElem?_map] at hz
      obtain ⟨b, hb, rfl⟩ : ∃ b, as[t]? = some b ∧ z = .ref b := by
        cases e : as[t]? with
        | none => rw [e] at hz; cases hz
        | some b => rw [e] at hz; exact ⟨b, rfl, (Option.some.inj hz).symm⟩
      obtain ⟨sb, hsb, hat⟩ := paired_get pa hb
      have f1 := sum_take Bd.tot hsb
      have f2 := sum_take_le Bd.tot sg.subs (t + 1)
      have f3 := paired_len g2
      rw [List.length_append, List.length_append, List.length_singleton, flat_len Sg.allS_len, flat_len Bd.allS_len] at f3
      have d1 := Sg.dp_mem (List.mem_of_getElem? hsb)
      have d2 := Bd.dp_mem mem
      refine ⟨_, rfl, .inl ⟨rfl, _, SqL.of g1⟩, _, rfl, b, sb, rfl, ?_, by omega, by omega, fun p3 us3 H3 hp3 s3 h3 l3 => ?_⟩
      · obtain ⟨ws, w1, w2⟩ := hat
        have t1 : Tups (upd Hc L (.lst (acc ++ [v]))) Hd := fun c o hc => by
          by_cases cL : c = L
          · rw [cL, upd_same] at hc
            cases hc
          · rw [upd_ne cL] at hc
            exact g3 _ _ cL hc
        exact ⟨ws, t1 _ _ w1, w2.keep t1⟩
      have l4 := paired_len l3
      rw [Bd.allS_len] at l4
      refine ⟨L, p3, acc2, us3, rfl, rfl, s3 _ _ g1, h3, by omega, ?_⟩
      have t5 : Tups H3 (upd H3 L (.lst (acc2 ++ us3))) := (Kept.put (b := L) _).tups (s3 _ _ g1)
      refine ⟨_, acc2 ++ us3, rfl, upd_same, ?_, fun c o cL hc => ?_, ?_⟩
      · rw [flat_take Bd.allS hsb, ← List.append_assoc]
        exact paired_join (sgs_keep (sgs_keep g2 (Same.tups s3)) t5) (sgs_keep l3 t5)
      · rw [upd_ne cL]
        exact s3 _ _ (g3 _ _ cL hc)
      · rw [upd_ne pL]
        exact s3 _ _ g4
    · rintro σ Hd ⟨y2, acc2, rfl, g1, g2, g3, g4⟩
      have e4 := paired_len pa
      rw [List.length_map, e4, List.take_length] at g2
      refine ⟨_, _, acc2, rfl, g1, ?_, fun c o hc => g3 _ _ (ne_of_none hc hL) (sm _ _ hc)⟩
      rw [flat_take Sg.allS hg, Sg.allS_eq sg, ← List.singleton_append (l := (sg.subs.map Bd.allS).flatten), ← List.append_assoc]
      exact g2
  · rintro σ Hc ⟨x, y, acc, rfl, h1, h2, sm⟩
    have e4 := paired_len pr
    rw [e4, List.take_length, ← Bd.allS_eq] at h2
    exact ⟨_, rfl, q L acc Hc hL sm h1 h2⟩
theorem no_als {k : Nat} : FnOk P w K mg base CX0 k f fd ["body"] (spAls 0) := by
  have no : ∀ vs H Q E, ¬ spAls 0 vs H Q E := fun vs H Q E h => by
    obtain ⟨a, bd, _, _, h, _⟩ := h
    exact Nat.not_lt_zero _ h
  exact ⟨fun vs H Q E h => absurd h (no vs H Q E), fun A outer s H args us vs Q E _ _ _ _ h => absurd h (no vs H Q E)⟩
theorem all_als (N : Nd K mg "all_steps" sAll ["body"]) (GW : Df P w K mg base 1 "bodies_within" ["step"] spWB) : ∀ n : Nat, Df P w K mg base (n + 1) "all_steps" ["body"] (spAls n)
  | 0 => by
    obtain ⟨f, fd, h1, h2, h3⟩ := N
    exact ⟨f, fd, h1, h2.kp, no_als, h3⟩
  | n + 1 => by
    have G := all_als N GW n
    obtain ⟨f, fd, h1, h2, h3⟩ := N
    exact ⟨f, fd, h1, h2.kp, ok_als h2 G GW, h3⟩
end
/-! ### what the fors among them weigh -/
def turnOf (W : Str → Int) : Sg → Option Int
  | .fors _ _ a => some (1 + a.wt W)
  | _ => none
mutual
theorem Sg.turns_all (W : Str → Int) : ∀ s : Sg, s.turns W = s.allS.filterMap (turnOf W)
  | .ifs t a b => by
    unfold Sg.turns Sg.allS
    rw [List.filterMap_cons, List.filterMap_append, ← Bd.turns_all W a, ← Bd.turns_all W b]
    rfl
  | .fors e m a => by
    unfold Sg.turns Sg.allS
    rw [List.filterMap_cons, ← Bd.turns_all W a]
    rfl
  | .call x r e => by unfold Sg.turns Sg.allS; rfl
  | .set x e => by unfold Sg.turns Sg.allS; rfl
  | .say x e => by unfold Sg.turns Sg.allS; rfl
  | .hear x => by unfold Sg.turns Sg.allS; rfl
theorem Bd.turns_all (W : Str → Int) : ∀ b : Bd, b.turns W = b.allS.filterMap (turnOf W)
  | .nil => by unfold Bd.turns Bd.allS; rfl
  | .cons s b => by
    unfold Bd.turns Bd.allS
    rw [List.filterMap_append, ← Sg.turns_all W s, ← Bd.turns_all W b]
end
mutual
theorem Sg.allS_ok {xs ws rs : List Str} {z : Sg} : ∀ s : Sg, s.ok xs ws rs → z ∈ s.allS → z.ok xs ws rs ∧ z.dp ≤ s.dp
  | .ifs t a b, ho, h => by
    have ho' := ho
    unfold Sg.ok at ho'
    unfold Sg.allS at h
    rcases List.mem_cons.mp h with h | h
    · rw [h]
      exact ⟨ho, Nat.le_refl _⟩
    · have d : Sg.dp (.ifs t a b) = max a.dp b.dp + 1 := by unfold Sg.dp; rfl
      rcases List.mem_append.mp h with h | h
      · obtain ⟨h1, h2⟩ := Bd.allS_ok a ho'.2.1.1 h
        exact ⟨h1, by omega⟩
      · obtain ⟨h1, h2⟩ := Bd.allS_ok b ho'.2.2.1 h
        exact ⟨h1, by omega⟩
  | .fors e m a, ho, h => by
    have ho' := ho
    unfold Sg.ok at ho'
    unfold Sg.allS at h
    rcases List.mem_cons.mp h with h | h
    · rw [h]
      exact ⟨ho, Nat.le_refl _⟩
    · have d : Sg.dp (.fors e m a) = a.dp + 1 := by unfold Sg.dp; rfl
      obtain ⟨h1, h2⟩ := Bd.allS_ok a ho'.2.2.1 h
      exact ⟨h1, by omega⟩
  | .call x r e, ho, h => by
    unfold Sg.allS at h
    rw [List.mem_singleton.mp h]
    exact ⟨ho, Nat.le_refl _⟩
  | .set x e, ho, h => by
    unfold Sg.allS at h
    rw [List.mem_singleton.mp h]
    exact ⟨ho, Nat.le_refl _⟩
  | .say x e, ho, h => by
    unfold Sg.allS at h
    rw [List.mem_singleton.mp h]
    exact ⟨ho, Nat.le_refl _⟩
  | .hear x, ho, h => by
    unfold Sg.allS at h
    rw [List.mem_singleton.mp h]
    exact ⟨ho, Nat.le_refl _⟩
theorem Bd.allS_ok {xs ws rs : List Str} {z : Sg} : ∀ b : Bd, b.ok xs ws rs → z ∈ b.allS → z.ok xs ws rs ∧ z.dp ≤ b.dp
  | .nil, ho, h => by
    unfold Bd.allS at h
    cases h
  | .cons s b, ho, h => by
    unfold Bd.ok at ho
    unfold Bd.allS at h
    have d : Bd.dp (.cons s b) = max s.dp b.dp := by rw [Bd.dp]
    rcases List.mem_append.mp h with h | h
    · obtain ⟨h1, h2⟩ := Sg.allS_ok s ho.1 h
      exact ⟨h1, by omega⟩
    · obtain ⟨h1, h2⟩ := Bd.allS_ok b ho.2 h
      exact ⟨h1, by omega⟩
end
end Any
set_option pp.maxSteps 600
namespace Any
open L2 PySem PySem.Spec PyProof.Rows LamX NdefX
/-! ### drawn names -/
theorem s_ext {x y : Str} (h : x.cps.toList = y.cps.toList) : x = y := by
  cases x; cases y
  congr
  exact Array.toList_inj.mp h
theorem s_app (a b : Str) : (a ++ b).cps.toList = a.cps.toList ++ b.cps.toList := cps_toList_append a b
theorem s_len (a : Str) : a.length = a.cps.toList.length := by show a.cps.size = _; simp
theorem s_lapp (a b : Str) : (a ++ b).length = a.length + b.length := by rw [s_len, s_len, s_len, s_app, List.length_append]
/-- at most so many small letters -/
def Lt (n : Nat) (x : Str) : Prop := (∀ c ∈ x.cps.toList, 97 ≤ c ∧ c ≤ 122) ∧ x.cps.toList.length ≤ n
theorem sum_ones : ∀ (l : List Str), (∀ y ∈ l, ∃ c, y = ⟨#[c]⟩ ∧ 97 ≤ c ∧ c ≤ 122) → (l.map (·.length)).sum = l.length := by
  intro l
  induction l with
  | nil => intro _; rfl
  | cons a r ih =>
    intro hh
    obtain ⟨c, rfl, _⟩ := hh a List.mem_cons_self
    rw [List.map_cons, List.sum_cons, ih (fun y hy => hh y (List.mem_cons_of_mem _ hy)), List.length_cons]
    show 1 + r.length = r.length + 1
    omega
theorem glue_to {k : Nat} {ys : List Str} (h : ∀ y ∈ ys, ∃ c, y = ⟨#[c]⟩ ∧ 97 ≤ c ∧ c ≤ 122) (hl : ys.length ≤ k) : Lt k (Txt.join "" ys) := by
  have e : Txt.join "" ys = Str.join "" ys := StrLaws.glued_eq_join "" ys
  refine ⟨fun c hc => ?_, ?_⟩
  · rw [e] at hc
    rcases (mem_join "" c ys).mp hc with ⟨t, ht, hc⟩ | ⟨_, hc⟩
    · obtain ⟨d, rfl, hd⟩ := h t ht
      have : c = d := by simpa using hc
      rw [this]; exact hd
    · cases hc
  · have z := size_glued "" ys
    have z2 : (Txt.join "" ys).cps.toList.length = (ys.map (·.length)).sum + (ys.length - 1) * ("" : Str).length := by rw [← z, ← s_len]; rfl
    have z3 : ("" : Str).length = 0 := rfl
    rw [z2, z3, Nat.mul_zero, Nat.add_zero]
    rw [sum_ones ys h]
    exact hl
/-- the k-th letter from d on -/
def ltr (d : Int) (k : Nat) : Nat := 97 + ((d + 7 * (k : Int)) % 26).toNat
theorem ltr_lc (d : Int) (k : Nat) : 97 ≤ ltr d k ∧ ltr d k ≤ 122 := by
  have h1 := Int.emod_lt_of_pos (d + 7 * (k : Int)) (show (0 : Int) < 26 by decide)
  unfold ltr
  omega
theorem ltr_inj {d : Int} {k j : Nat} (hk : k < 9) (hj : j < 9) (e : ltr d k = ltr d j) : k = j := by
  have h0 := Int.emod_nonneg (d + 7 * (k : Int)) (show (26 : Int) ≠ 0 by decide)
  have h1 := Int.emod_nonneg (d + 7 * (j : Int)) (show (26 : Int) ≠ 0 by decide)
  unfold ltr at e
  omega
theorem abc_at {r : Int} (h0 : 0 ≤ r) (h1 : r < 26) : atI letters.cps.toList r = some (97 + r.toNat) := by
  have all : ∀ i : Fin 26, atI letters.cps.toList ((i.val : Nat) : Int) = some (97 + i.val) := by decide +kernel
  have z := all ⟨r.toNat, by omega⟩
  rw [show (((⟨r.toNat, by omega⟩ : Fin 26).val : Nat) : Int) = r by show ((r.toNat : Nat) : Int) = r; omega] at z
  exact z
/-- a name: letters before, the letter that differs, letters behind -/
def nk (fr bh : Str) (d : Int) (k : Nat) : Str := (fr ++ ⟨#[ltr d k]⟩) ++ bh
theorem nk_l (fr bh : Str) (d : Int) (k : Nat) : (nk fr bh d k).cps.toList = fr.cps.toList ++ ltr d k :: bh.cps.toList := by
  unfold nk
  rw [s_app, s_app, List.append_assoc]
  rfl
theorem nk_inj {fr bh : Str} {d : Int} {k j : Nat} (hk : k < 9) (hj : j < 9) (e : nk fr bh d k = nk fr bh d j) : k = j := by
  have z : (nk fr bh d k).cps.toList = (nk fr bh d j).cps.toList := by rw [e]
  rw [nk_l, nk_l] at z
  exact ltr_inj hk hj (List.cons.inj (List.append_cancel_left z)).1
theorem nk_nm {fr bh : Str} {d : Int} {k : Nat} (h1 : Lt 4 fr) (h2 : Lt 2 bh) (h3 : nk fr bh d k ∉ keptWords) : Nm (nk fr bh d k) := by
  have l : (nk fr bh d k).length = fr.cps.toList.length + (bh.cps.toList.length + 1) := by rw [s_len, nk_l, List.length_append, List.length_cons]
  have a := h1.2
  have b := h2.2
  refine ⟨by omega, by omega, h3, fun c hc => ?_⟩
  rw [nk_l] at hc
  rcases List.mem_append.mp hc with hc | hc
  · exact h1.1 c hc
  · rcases List.mem_cons.mp hc with rfl | hc
    · exact ltr_lc d k
    · exact h2.1 c hc
abbrev k5l : List (List Nat) := [[97, 115, 107, 101, 100], [116, 111, 108, 100], [110, 111, 116], [97, 110, 100], [111, 114]]
theorem kept_l {x : Str} (h : x ∈ keptWords) : x.cps.toList ∈ k5l := by
  have all : ∀ y ∈ keptWords, y.cps.toList ∈ k5l := by decide +kernel
  exact all x h
theorem two_l {F B : List Nat} {a c : Nat} (ne : a ≠ c) {w v : List Nat} (hw : w ∈ k5l) (hv : v ∈ k5l) (h1 : F ++ a :: B = w) (h2 : F ++ c :: B = v) : False := by
  have l1 := congrArg List.length h1
  have l2 := congrArg List.length h2
  rw [List.length_append, List.length_cons] at l1 l2
  have same : w = v → False := fun e => ne (List.cons.inj (List.append_cancel_left (h1.trans (e.trans h2.symm)))).1
  have hd : ∀ (x y : Nat) (r t : List Nat), x ≠ y → r.getD 0 0 ≠ t.getD 0 0 → w = x :: r → v = y :: t → False := fun x y r t n1 n2 e1 e2 => by
    subst e1 e2
    cases F with
    | nil =>
      have b1 := (List.cons.inj h1).2
      have b2 := (List.cons.inj h2).2
      exact n2 (by rw [← b1, ← b2])
    | cons z F => exact n1 ((List.cons.inj h1).1.symm.trans (List.cons.inj h2).1)
  simp only [k5l, List.mem_cons, List.not_mem_nil, or_false] at hw hv
  rcases hw with e1 | e1 | e1 | e1 | e1 <;> rcases hv with e2 | e2 | e2 | e2 | e2 <;>
    first
    | exact same (e1.trans e2.symm)
    | (rw [e1] at l1; rw [e2] at l2; simp only [List.length_cons, List.length_nil] at l1 l2; omega)
    | exact hd _ _ _ _ (by decide) (by decide) e1 e2
/-- not both of two of them are kept words -/
theorem one_free {fr bh : Str} {d : Int} : nk fr bh d 0 ∉ keptWords ∨ nk fr bh d 1 ∉ keptWords := by
  by_cases h : nk fr bh d 0 ∈ keptWords
  · refine .inr fun g => ?_
    have z1 := kept_l h
    have z2 := kept_l g
    exact two_l (F := fr.cps.toList) (B := bh.cps.toList) (a := ltr d 0) (c := ltr d 1) (fun e => absurd (ltr_inj (by decide) (by decide) e) (by decide)) z1 z2 (nk_l ..).symm (nk_l ..).symm
  · exact .inl h
def nicksL (fr bh : Str) (d : Int) (m : Nat) : List Str := (((List.range (m + 1)).map (nk fr bh d)).filter fun x => decide (x ∉ keptWords)).take m
theorem fm_free : ∀ ys : List Str, (ys.map fun y => if y ∈ keptWords then none else some (V.str y)).filterMap id = (ys.filter fun x => decide (x ∉ keptWords)).map V.str
  | [] => rfl
  | y :: r => by
    have ih := fm_free r
    have h : (y :: r).filter (fun x => decide (x ∉ keptWords)) = if decide (y ∉ keptWords) = true then y :: r.filter (fun x => decide (x ∉ keptWords)) else r.filter (fun x => decide (x ∉ keptWords)) := List.filter_cons
    rw [List.map_cons, h]
    by_cases e : y ∈ keptWords
    · rw [if_pos e, if_neg (fun z => absurd e (of_decide_eq_true z)), ← ih]
      rfl
    · rw [if_neg e, if_pos (decide_eq_true e), List.map_cons, ← ih]
      rfl
/-- names: one at least, all of them right, none twice -/
structure Nicks (m : Nat) (xs : List Str) : Prop where
  lo : 1 ≤ xs.length
  hi : xs.length ≤ m
  nd : xs.Nodup
  nm : ∀ x ∈ xs, Nm x
theorem nicks_ok {fr bh : Str} {d : Int} {m : Nat} (h1 : Lt 4 fr) (h2 : Lt 2 bh) (m1 : 1 ≤ m) (m8 : m ≤ 8) : Nicks m (nicksL fr bh d m) := by
  have sub : ∀ x ∈ nicksL fr bh d m, x ∈ ((List.range (m + 1)).map (nk fr bh d)).filter fun x => decide (x ∉ keptWords) := fun x hx => List.mem_of_mem_take hx
  have nd0 : ((List.range (m + 1)).map (nk fr bh d)).Nodup := by
    rw [List.nodup_iff_pairwise_ne, List.pairwise_map]
    refine List.Pairwise.imp_of_mem ?_ (List.nodup_iff_pairwise_ne.mp List.nodup_range)
    intro a b ha hb ne e
    have ha := List.mem_range.mp ha
    have hb := List.mem_range.mp hb
    exact ne (nk_inj (by omega) (by omega) e)
  refine ⟨?_, ?_, ?_, fun x hx => ?_⟩
  · have one : 1 ≤ (((List.range (m + 1)).map (nk fr bh d)).filter fun x => decide (x ∉ keptWords)).length := by
      rcases one_free (fr := fr) (bh := bh) (d := d) with h | h
      · exact List.length_pos_of_mem (a := nk fr bh d 0) (List.mem_filter.mpr ⟨List.mem_map_of_mem (List.mem_range.mpr (by omega)), decide_eq_true h⟩)
      · exact List.length_pos_of_mem (a := nk fr bh d 1) (List.mem_filter.mpr ⟨List.mem_map_of_mem (List.mem_range.mpr (by omega)), decide_eq_true h⟩)
    unfold nicksL
    rw [List.length_take]
    omega
  · unfold nicksL
    rw [List.length_take]
    omega
  · exact (nd0.filter _).sublist (List.take_sublist ..)
  · obtain ⟨g1, g2⟩ := List.mem_filter.mp (sub x hx)
    obtain ⟨k, hk, rfl⟩ := List.mem_map.mp g1
    exact nk_nm h1 h2 (of_decide_eq_true g2)
abbrev sNicks : Stmt := top 92
abbrev nmNicks : List Str := ["_law_bag_here", "_law_many", "_law_letters", "_law_front", "_law_rear", "_law_first", "_law_found", "_law_k", "_law_one"]
abbrev psTk : List Str := ["_law_bag_here", "_law_many"]
theorem scNicks : FnScope nmNicks psTk (defScope sNicks) := ⟨rfl, rfl, rfl, by decide +kernel, rfl, by decide +kernel, by decide +kernel⟩
def spNicks : Sp := fun vs H Q _ => ∃ (b : Addr) (m n : Nat), vs = [.ref b, .int m] ∧ Bag H b (n + 9) ∧ 1 ≤ m ∧ m ≤ 8 ∧
  ∀ (p : Addr) (xs : List Str) (H' : Hp), H p = none → Kept b H H' → Bag H' b n → H' p = some (.lst (xs.map V.str)) → Nicks m xs → Q (.ref p) H'
theorem kept_none {b p : Addr} {H H' : Hp} {n : Nat} (h : Bag H b n) (k : Kept b H H') (z : H' p = none) (hb : ∃ xs, H' b = some (.lst xs)) : H p = none := by
  cases e : H p with
  | none => rfl
  | some o =>
    by_cases pb : p = b
    · obtain ⟨xs, h2⟩ := hb
      rw [pb, h2] at z
      cases z
    · rw [k _ _ pb e] at z
      cases z
section
variable {P : Program} {w : World} {K : PySem.W.Frag} {mg : Str → Option Value} {base : Heap} {f : Addr} {fd : FuncData}
theorem ok_nicks (mr : mg "range" = none) (F : Fun K "_law_nicks" "_law_nicks" sNicks f fd) (DT : Df P w K mg base 1 "_law_take" psTk spTake) : FnOk P w K mg base CX0 2 f fd psTk spNicks := by
  refine F.ok scNicks (fun vs H Q E h => ?_) (fun cdv A outer s H vs Q E hr h => ?_)
  · obtain ⟨b, m, n, rfl, _⟩ := h
    rfl
  obtain ⟨b, m, n, rfl, hB, m1, m8, q⟩ := h
  refine ⟨_, pss_cons (ps_set (i := 2) scNicks.nd rfl (Or.inr rfl) pe_str)
    (pss_cons (ps_set (i := 3) scNicks.nd rfl (Or.inr rfl) (pe_join pe_str (pe_lc (own := [("_law_k", 7)]) (g := gName 7) (tt := tYes) rfl scNicks.nd (pi_range1 rfl mr (pa_cons (pe_D DT hr rfl (pa_cons (pv 0) (pa_cons pe_int pa_nil))) pa_nil)) (blkOk_by (N := nmNicks) (sc := defScope sNicks) (by decide +kernel))
        (fun _ _ _ _ _ => pg_name (i := 7) scNicks.nd rfl (Or.inl rfl)) (fun _ _ _ _ _ => pts_nil) (fun _ _ _ _ _ => pe_ix ix_str (pv 2) (pe_D DT hr rfl (pa_cons (pv 0) (pa_cons pe_int pa_nil))) (fun _ _ => rfl)))))
    (pss_cons (ps_set (i := 4) scNicks.nd rfl (Or.inr rfl) (pe_join pe_str (pe_lc (own := [("_law_k", 7)]) (g := gName 7) (tt := tYes) rfl scNicks.nd (pi_range1 rfl mr (pa_cons (pe_D DT hr rfl (pa_cons (pv 0) (pa_cons pe_int pa_nil))) pa_nil)) (blkOk_by (N := nmNicks) (sc := defScope sNicks) (by decide +kernel))
        (fun _ _ _ _ _ => pg_name (i := 7) scNicks.nd rfl (Or.inl rfl)) (fun _ _ _ _ _ => pts_nil) (fun _ _ _ _ _ => pe_ix ix_str (pv 2) (pe_D DT hr rfl (pa_cons (pv 0) (pa_cons pe_int pa_nil))) (fun _ _ => rfl)))))
    (pss_cons (ps_set (i := 5) scNicks.nd rfl (Or.inr rfl) (pe_D DT hr rfl (pa_cons (pv 0) (pa_cons pe_int pa_nil))))
    (pss_cons (ps_setLc (i := 6) (own := [("_law_k", 7)]) (g := gName 7) (tt := tYes) (by rfl) scNicks.nd rfl rfl (sw_true rfl rfl rfl (by decide +kernel)) (pi_range1 rfl mr (pa_cons (pe_op op_add (pv 1) pe_int) pa_nil)) (blkOk_by (N := nmNicks) (sc := defScope sNicks) (by decide +kernel))
        (fun _ _ _ _ _ => pg_name (i := 7) scNicks.nd rfl (Or.inl rfl)) (fun _ _ _ _ _ => pts_nil) (fun _ _ _ _ _ => pe_op op_add_str (pe_op op_add_str (pv 3) (pe_ix ix_str (pv 2) (pe_op op_mod (pe_op op_add (pv 5) (pe_op op_mul pe_int (pv 7))) pe_int) (fun _ _ => rfl))) (pv 4)))
    (pss_one (ps_ret (pe_slice sl_list (pe_lc (own := [("_law_one", 8)]) (g := gName 8) (te := tVar 8) rfl scNicks.nd (pi_list (pv 6)) (blkOk_by (N := nmNicks) (sc := defScope sNicks) (by decide +kernel))
        (fun _ _ _ _ _ => pg_name (i := 8) scNicks.nd rfl (Or.inl rfl)) (fun _ _ _ _ _ => pts_one (pt_cmpR (show OpR _ (compareOp .NotIn) (rIn K true) from op_notIn_seq) (pv 8) (pe_tup (pa_cons pe_str (pa_cons pe_str (pa_cons pe_str (pa_cons pe_str (pa_cons pe_str pa_nil)))))) (by rfl))) (fun _ _ _ _ _ => pv 8)) po_none (po_some (pv 1))))))))), ?_⟩
  refine ⟨⟨_, rfl⟩, _, rfl, b, 5, n + 8, rfl, hB, by decide, by decide, fun d1 H1 k1 B1 d10 d11 => ⟨d1, rfl, by omega, by omega, fun C1 hC1 => ?_⟩⟩
  have b26 : ∀ {d : Int} {m0 : Nat}, 0 ≤ d → d < 26 → ∃ c, atI letters.cps.toList d = some c ∧ 97 ≤ c ∧ c ≤ 122 := fun {d m0} h0 h1 => ⟨_, abc_at h0 h1, by omega, by omega⟩
  refine lc_range (lo := 0) (n := d1.toNat) (fun i Hc => ∃ ys : List Str, Hc C1 = some (.lst (ys.map V.str)) ∧ ys.length = i ∧ (∀ y ∈ ys, ∃ c, y = ⟨#[c]⟩ ∧ 97 ≤ c ∧ c ≤ 122) ∧ Bag Hc b (n + 8 - i) ∧ Kept b H1 Hc)
    ⟨[], upd_same, rfl, (fun y hy => by cases hy), B1.keep (same_new hC1 _), Kept.new hC1 _⟩ ?_ ?_
  · rintro i Hc hi ⟨ys, y1, y2, y3, y4, y5⟩
    have nC := B1.ne hC1
    refine ⟨rfl, _, rfl, _, rfl, b, 26, n + 8 - (i + 1), rfl, y4.less (by omega), by decide, by decide, fun d H' k' B' h0 h1 => ?_⟩
    obtain ⟨c, ec, hc⟩ := b26 (m0 := 0) h0 h1
    refine ⟨letters, d, c, rfl, rfl, by decide, ec, _, k' _ _ nC y1, by rw [List.length_map]; exact small1000 (by omega), ys ++ [⟨#[c]⟩], by rw [upd_same, List.map_append]; rfl, by rw [List.length_append, y2]; rfl, fun y hy => ?_, B'.put nC.symm, fun a u na ha => ?_⟩
    · rcases List.mem_append.mp hy with hy | hy
      · exact y3 y hy
      · rw [List.mem_singleton.mp hy]
        exact ⟨c, rfl, hc⟩
    · rw [upd_ne (ne_of_none ha hC1)]
      exact k' _ _ na (y5 _ _ na ha)
  rintro HHa ⟨ys1, y11, y21, y31, y41, y51⟩
  have g1 := glue_to (k := 4) y31 (by omega)
  refine ⟨_, C1, ys1, rfl, rfl, .inl (SqL.of y11), by rw [sum_ones _ y31]; show ys1.length + ys1.length * 0 ≤ _; omega, ?_⟩
  have B1' := y41.less (show n + 4 ≤ n + 8 - d1.toNat by omega)
  refine ⟨⟨_, rfl⟩, _, rfl, b, 3, n + 3, rfl, B1', by decide, by decide, fun d2 H2 k2 B2 d20 d21 => ⟨d2, rfl, by omega, by omega, fun C2 hC2 => ?_⟩⟩
  refine lc_range (lo := 0) (n := d2.toNat) (fun i Hc => ∃ ys : List Str, Hc C2 = some (.lst (ys.map V.str)) ∧ ys.length = i ∧ (∀ y ∈ ys, ∃ c, y = ⟨#[c]⟩ ∧ 97 ≤ c ∧ c ≤ 122) ∧ Bag Hc b (n + 3 - i) ∧ Kept b H2 Hc)
    ⟨[], upd_same, rfl, (fun y hy => by cases hy), B2.keep (same_new hC2 _), Kept.new hC2 _⟩ ?_ ?_
  · rintro i Hc hi ⟨ys, y1, y2, y3, y4, y5⟩
    have nC := B2.ne hC2
    refine ⟨rfl, _, rfl, _, rfl, b, 26, n + 3 - (i + 1), rfl, y4.less (by omega), by decide, by decide, fun d H' k' B' h0 h1 => ?_⟩
    obtain ⟨c, ec, hc⟩ := b26 (m0 := 0) h0 h1
    refine ⟨letters, d, c, rfl, rfl, by decide, ec, _, k' _ _ nC y1, by rw [List.length_map]; exact small1000 (by omega), ys ++ [⟨#[c]⟩], by rw [upd_same, List.map_append]; rfl, by rw [List.length_append, y2]; rfl, fun y hy => ?_, B'.put nC.symm, fun a u na ha => ?_⟩
    · rcases List.mem_append.mp hy with hy | hy
      · exact y3 y hy
      · rw [List.mem_singleton.mp hy]
        exact ⟨c, rfl, hc⟩
    · rw [upd_ne (ne_of_none ha hC2)]
      exact k' _ _ na (y5 _ _ na ha)
  rintro HHb ⟨ys2, y12, y22, y32, y42, y52⟩
  have g2 := glue_to (k := 2) y32 (by omega)
  refine ⟨_, C2, ys2, rfl, rfl, .inl (SqL.of y12), by rw [sum_ones _ y32]; show ys2.length + ys2.length * 0 ≤ _; omega, ?_⟩
  have B2' := y42.less (show n + 1 ≤ n + 3 - d2.toNat by omega)
  refine ⟨_, rfl, b, 26, n, rfl, B2', by decide, by decide, fun d3 H3 k3 B3 d30 d31 => ?_⟩
  have kk3 : Kept b H H3 := k1.trans (y51.trans (k2.trans (y52.trans k3)))
  generalize Txt.join "" ys1 = fr at *
  generalize Txt.join "" ys2 = bh at *
  refine ⟨_, rfl, _, _, rfl, rfl, _, rfl, by omega, by omega, fun C4 hC4 => ?_⟩
  refine lc_range (lo := 0) (n := m + 1) (fun i Hc => Hc C4 = some (.lst (((List.range i).map (nk fr bh d3)).map V.str)) ∧ Same H3 Hc)
    ⟨upd_same, same_new hC4 _⟩ ?_ ?_
  · rintro i Hc hi ⟨y1, y4⟩
    have ec := abc_at (Int.emod_nonneg (d3 + 7 * (i : Int)) (show (26 : Int) ≠ 0 by decide)) (Int.emod_lt_of_pos (d3 + 7 * (i : Int)) (show (0 : Int) < 26 by decide))
    have lf : fr.length ≤ 4 := by rw [s_len]; exact g1.2
    have lb : bh.length ≤ 2 := by rw [s_len]; exact g2.2
    have sl : sizeLine = 16777216 := sizeLine_eq
    have l1 : (⟨#[ltr d3 i]⟩ : Str).length = 1 := rfl
    refine ⟨rfl, _, rfl, _, rfl, _, rfl, _, rfl, _, _, rfl, rfl, .inl ⟨by decide, by decide⟩, _, _, rfl, rfl, _, _, rfl, rfl, (by show (0 : Int) < 26; decide), letters, _, ltr d3 i, rfl, rfl, by decide, by rw [Int.zero_add]; exact ec, ?_⟩
    refine ⟨_, _, rfl, rfl, by omega, _, rfl, _, _, rfl, rfl, by rw [s_lapp]; omega, ?_⟩
    refine ⟨_, y1, by rw [List.length_map, List.length_map, List.length_range]; exact small1000 (by omega), ?_, fun a u ha => ?_⟩
    · rw [upd_same, List.range_succ, List.map_append, List.map_append]
      rfl
    · rw [upd_ne (ne_of_none ha hC4)]
      exact y4 _ _ ha
  rintro H5 ⟨u1, u4⟩
  refine ⟨_, rfl, C4, rfl, ⟨_, SqL.of u1⟩, fun C6 hC6 => ?_⟩
  refine turns_list (K := K) (a := C4) (xs := ((List.range (m + 1)).map (nk fr bh d3)).map V.str) (((List.range (m + 1)).map (nk fr bh d3)).map fun y => if y ∈ keptWords then none else some (V.str y)) hC6 (fun Hc s => SqL.of (s _ _ u1)) (by simp only [List.length_map]) (by rw [List.length_map, List.length_map, List.length_range]; exact Nat.le_of_lt (small1000 (by omega))) ?_ ?_
  · intro i z o Hc Y N hz ho sm hY hN
    rw [List.getElem?_map] at hz ho
    obtain ⟨y, hy, rfl⟩ := Option.map_eq_some_iff.mp hz
    rw [hy] at ho
    have ho : o = if y ∈ keptWords then none else some (V.str y) := (Option.some.inj ho).symm
    refine ⟨rfl, _, rfl, (by show 5 ≤ sizeLine; decide), fun p hp => ⟨p, _, rfl, .inr (SqT.of upd_same), rfl, rfl, _, rfl, ?_⟩⟩
    have ein : inV (.str y) (keptWords.map V.str) = decide (y ∈ keptWords) := in_strs
    by_cases e : y ∈ keptWords
    · rw [if_pos e] at ho
      refine itF ?_ (hN ho _ (same_new hp _))
      show (!inV (.str y) (keptWords.map V.str)) = false
      rw [ein, decide_eq_true e]
      rfl
    · rw [if_neg e] at ho
      refine itT ?_ ⟨_, rfl, hY _ ho _ (same_new hp _)⟩
      show (!inV (.str y) (keptWords.map V.str)) = true
      rw [ein, decide_eq_false e]
      rfl
  · intro H6 h6 s6
    rw [fm_free] at h6
    refine ⟨_, rfl, (m : Int), rfl, C6, _, rfl, SqL.of h6, fun p hp => ?_⟩
    have s7 := (u4.trans s6).trans (same_new hp (.lst (cutV ((((List.range (m + 1)).map (nk fr bh d3)).filter fun x => decide (x ∉ keptWords)).map V.str) none (some (m : Int)))))
    have ecut : ∀ (xs : List V) (i : Nat), cutV xs none (some (i : Int)) = xs.take i := fun xs i => by
      unfold cutV
      rw [HT.sIx_none, HT.sIx_nat, List.drop_zero, Nat.sub_zero]
      rcases Nat.le_total i xs.length with h | h
      · rw [Nat.min_eq_left h]
      · rw [Nat.min_eq_right h, List.take_of_length_le h, List.take_of_length_le (Nat.le_refl _)]
    refine q p (nicksL fr bh d3 m) _ ?_ (kk3.trans (.of s7)) (B3.keep s7) ?_ (nicks_ok g1 g2 m1 m8)
    · exact kept_none hB (kk3.trans (.of (u4.trans s6))) hp (B3.keep (u4.trans s6)).lst
    · rw [upd_same, ecut]
      unfold nicksL
      rw [List.map_take]
end
end Any
set_option pp.maxSteps 600
namespace Any
open L2 PySem PySem.Spec PyProof.Rows LamX NdefX
/-! ### drawn expressions -/
/-- what a room's draws are told: its boxes, whether it is the first, the rooms beneath, two sizes -/
structure InfoAt (H : Hp) (b i : Addr) (xs : List Str) (fst : Bool) (low : List Str) (mo tu : Int) (l lw : Addr) : Prop where
  at_ : H i = some (.tup [.ref l, .bl fst, .ref lw, .int mo, .int tu])
  own : H l = some (.lst (xs.map V.str))
  nl : l ≠ b
  below : H lw = some (.lst (low.map V.str))
  nw : lw ≠ b
  lo : 1 ≤ xs.length
  hi : xs.length ≤ 8
  lows : low.length ≤ 8
theorem Kept.tupsB {b : Addr} {H H' : Hp} {n : Nat} (k : Kept b H H') (B : Bag H b n) : Tups H H' := B.tups k
theorem InfoAt.kept {H H' : Hp} {b i l lw : Addr} {xs low : List Str} {fst : Bool} {mo tu : Int} {n : Nat} (h : InfoAt H b i xs fst low mo tu l lw) (B : Bag H b n) (k : Kept b H H') : InfoAt H' b i xs fst low mo tu l lw :=
  ⟨B.tups k _ _ h.at_, k _ _ h.nl h.own, h.nl, k _ _ h.nw h.below, h.nw, h.lo, h.hi, h.lows⟩
abbrev sExpr : Stmt := top 93
abbrev nmExpr : List Str := ["_law_bag_here", "_law_info", "_law_deep", "_law_nicks_here", "_law_is_first", "_law_kind", "_law_deed"]
abbrev psE : List Str := ["_law_bag_here", "_law_info", "_law_deep"]
theorem scExpr : FnScope nmExpr psE (defScope sExpr) := ⟨rfl, rfl, rfl, by decide +kernel, rfl, by decide +kernel, by decide +kernel⟩
def ce : Nat → Nat
  | 0 => 2
  | n + 1 => 2 * ce n + 2
theorem ce_pos (n : Nat) : 2 ≤ ce n := by
  cases n with
  | zero => exact Nat.le_refl _
  | succ n => show 2 ≤ 2 * ce n + 2; omega
def wsOf (fst : Bool) : List Str := if fst = true then [] else ["asked"]
def spExpr (n : Nat) : Sp := fun vs H Q _ => ∃ (b i l lw : Addr) (d m : Nat) (xs low : List Str) (fst : Bool) (mo tu : Int), vs = [.ref b, .ref i, .int d] ∧ d < n ∧ Bag H b (m + ce d) ∧ InfoAt H b i xs fst low mo tu l lw ∧
  ∀ (v : V) (e : Ex) (H' : Hp), Kept b H H' → Bag H' b m → ExAt H' v e → e.deep ≤ d + 1 → e.fit xs (wsOf fst) → Q v H'
theorem word5 {r : Int} (h0 : 0 ≤ r) (h1 : r < 5) : ∃ d : Dd, atI [V.str "plus", V.str "less", V.str "times", V.str "over", V.str "rest"] r = some (.str d.word) := by
  have : r = 0 ∨ r = 1 ∨ r = 2 ∨ r = 3 ∨ r = 4 := by omega
  rcases this with rfl | rfl | rfl | rfl | rfl
  · exact ⟨.plus, rfl⟩
  · exact ⟨.less, rfl⟩
  · exact ⟨.times, rfl⟩
  · exact ⟨.over, rfl⟩
  · exact ⟨.rest, rfl⟩
theorem str_at {xs : List Str} {r : Int} (h0 : 0 ≤ r) (h1 : r < (xs.length : Int)) : ∃ x ∈ xs, atI (xs.map V.str) r = some (.str x) := by
  have hk : r.toNat < xs.length := by omega
  refine ⟨xs[r.toNat], List.getElem_mem hk, ?_⟩
  have z : atI (xs.map V.str) ((r.toNat : Nat) : Int) = some (.str xs[r.toNat]) := atI_nat (by rw [List.getElem?_map, List.getElem?_eq_getElem hk]; rfl)
  rw [show ((r.toNat : Nat) : Int) = r by omega] at z
  exact z
section
variable {P : Program} {w : World} {K : PySem.W.Frag} {mg : Str → Option Value} {base : Heap} {f : Addr} {fd : FuncData}
theorem no_expr {k : Nat} : FnOk P w K mg base CX0 k f fd psE (spExpr 0) := by
  have no : ∀ vs H Q E, ¬ spExpr 0 vs H Q E := fun vs H Q E h => by
    obtain ⟨b, i, l, lw, d, m, xs, low, fst, mo, tu, _, hd, _⟩ := h
    omega
  exact ⟨fun vs H Q E h => absurd h (no vs H Q E), fun A outer s H args us vs Q E _ _ _ _ h => absurd h (no vs H Q E)⟩
theorem ok_expr {n : Nat} (ml : mg "len" = none) (F : Fun K "_law_expression" "_law_expression" sExpr f fd) (DT : Df P w K mg base 1 "_law_take" psTk spTake) (G : Df P w K mg base (n + 1) "_law_expression" psE (spExpr n)) : FnOk P w K mg base CX0 (n + 2) f fd psE (spExpr (n + 1)) := by
  refine F.ok scExpr (fun vs H Q E h => ?_) (fun cdv A outer s H vs Q E hr h => ?_)
  · obtain ⟨b, i, l, lw, d, m, xs, low, fst, mo, tu, rfl, _⟩ := h
    rfl
  obtain ⟨b, i, l, lw, d, m, xs, low, fst, mo, tu, rfl, hd, hB, hI, q⟩ := h
  have hr1 := hr.mono (show 1 ≤ n + 1 by omega)
  have cp := ce_pos d
  obtain ⟨t2, ht2, tail⟩ : ∃ t2, PSs (cxOf CX0 P w K mg base nmExpr "_law_expression" (defScope sExpr) f cdv A outer s H E).nox ((defBody sExpr).drop 3) t2 ∧
      ∀ (D : Ends) (H1 : Hp) (d1 : Int), D.rt = Q → Kept b H H1 → Bag H1 b (m + 1) → InfoAt H1 b i xs fst low mo tu l lw → 0 ≤ d1 → t2 D [some (.ref b), some (.ref i), some (.int d), some (.ref l), some (.bl fst), some (.int d1), none] H1 := by
    refine ⟨_, pss_cons (ps_if (PW.pt (pw_and (pt_cmpR op_eq (pv 5) pe_int (nomark _)) (pw_and1 (pt_not (pt_val (pv 4)))))) (pss_one (ps_ret (pe_tup (pa_cons pe_str pa_nil)))) pss_nil)
    (pss_one (ps_ret (pe_ifExp (pt_cmpR op_lt (pv 5) pe_int (nomark _)) (pe_tup (pa_cons pe_str (pa_cons (pe_ix ix_list (pv 3) (pe_D DT hr1 rfl (pa_cons (pv 0) (pa_cons (pe_callB call_len_seq rfl ml PySem.boot_len (pa_cons (pv 3) pa_nil)) pa_nil))) (fun _ _ => rfl)) pa_nil)))
      (pe_tup (pa_cons pe_str (pa_cons (pe_D DT hr1 rfl (pa_cons (pv 0) (pa_cons pe_int pa_nil))) pa_nil)))))), ?_⟩
    intro D H1 d1 eD k1 B1 I1 d10
    have asked : fst = false → ∀ p, H1 p = none → Q (.ref p) (upd H1 p (.tup [.str "asked"])) := fun ef p hp => by
      have s1 := same_new hp (.tup [.str "asked"])
      refine q _ .asked _ (k1.trans (.of s1)) ((B1.keep s1).less (by omega)) (.asked upd_same) (by show 1 ≤ d + 1; omega) ?_
      show ("asked" : Str) ∈ wsOf fst
      rw [ef]
      exact List.mem_singleton.mpr rfl
    have box : ∀ (z : Int) (H2 : Hp), Kept b H1 H2 → Bag H2 b m → 0 ≤ z → z < (xs.length : Int) → ∃ v, atI (xs.map V.str) z = some v ∧ ∀ p, H2 p = none → Q (.ref p) (upd H2 p (.tup [.str "box", v])) := fun z H2 k2 B2 z0 z1 => by
      obtain ⟨x, hx, ex⟩ := str_at z0 z1
      refine ⟨_, ex, fun p hp => ?_⟩
      have s1 := same_new hp (.tup [.str "box", .str x])
      exact q _ (.box x) _ (k1.trans (k2.trans (.of s1))) (B2.keep s1) (.box upd_same) (by show 1 ≤ d + 1; omega) hx
    have num : ∀ (z : Int) (H2 : Hp), Kept b H1 H2 → Bag H2 b m → 0 ≤ z → z < 1000 → ∀ p, H2 p = none → Q (.ref p) (upd H2 p (.tup [.str "number", .int z])) := fun z H2 k2 B2 z0 z1 p hp => by
      have s1 := same_new hp (.tup [.str "number", .int z])
      exact q _ (.num z) _ (k1.trans (k2.trans (.of s1))) (B2.keep s1) (.num upd_same) (by show 1 ≤ d + 1; omega) ⟨z0, by omega⟩
    refine ⟨_, rfl, rfl, _, rfl, ?_⟩
    by_cases c0 : d1 = 0
    · refine itT (decide_eq_true (by rw [c0])) ⟨_, rfl, _, rfl, ?_⟩
      cases fst with
      | false => exact itT rfl ⟨(by show 1 ≤ sizeLine; decide), fun p hp => by rw [eD]; exact asked rfl p hp⟩
      | true =>
        refine itF rfl ⟨_, rfl, _, _, rfl, rfl, _, rfl, itT (decide_eq_true (by omega)) ?_⟩
        refine ⟨_, rfl, _, rfl, _, rfl, l, _, rfl, .inl (SqL.of I1.own), b, (xs.length : Int), m, ?_, B1, ?_, ?_, fun z H2 k2 B2 z0 z1 => ?_⟩
        · rw [List.length_map]; rfl
        · have := I1.lo; omega
        · have := I1.hi; omega
        obtain ⟨v, ev, qq⟩ := box z H2 k2 B2 z0 z1
        exact ⟨l, _, _, _, rfl, rfl, SqL.of (k2 _ _ I1.nl I1.own), ev, (by show 2 ≤ sizeLine; decide), fun p hp => by rw [eD]; exact qq p hp⟩
    · refine itF (decide_eq_false fun z => c0 (V.int.inj z)) ⟨_, rfl, _, _, rfl, rfl, _, rfl, itD (fun c4 => ?_) (fun c4 => ?_)⟩
      · refine ⟨_, rfl, _, rfl, _, rfl, l, _, rfl, .inl (SqL.of I1.own), b, (xs.length : Int), m, ?_, B1, ?_, ?_, fun z H2 k2 B2 z0 z1 => ?_⟩
        · rw [List.length_map]; rfl
        · have := I1.lo; omega
        · have := I1.hi; omega
        obtain ⟨v, ev, qq⟩ := box z H2 k2 B2 z0 z1
        exact ⟨l, _, _, _, rfl, rfl, SqL.of (k2 _ _ I1.nl I1.own), ev, (by show 2 ≤ sizeLine; decide), fun p hp => by rw [eD]; exact qq p hp⟩
      · exact ⟨_, rfl, b, 1000, m, rfl, B1, by decide, by decide, fun z H2 k2 B2 z0 z1 => ⟨(by show 2 ≤ sizeLine; decide), fun p hp => by rw [eD]; exact num z H2 k2 B2 z0 z1 p hp⟩⟩
  refine ⟨_, pss_cons (ps_par (i := 3) (j := 4) (by rfl) scExpr.nd rfl rfl (by decide) rfl rfl (pa_cons (pe_ix ix_tup (pv 1) pe_int (fun _ _ => rfl)) (pa_cons (pe_ix ix_tup (pv 1) pe_int (fun _ _ => rfl)) pa_nil)) (by rfl))
    (pss_cons (ps_set (i := 5) scExpr.nd rfl (Or.inl rfl) (pe_D DT hr1 rfl (pa_cons (pv 0) (pa_cons pe_int pa_nil))))
    (pss_cons (ps_if (PW.pt (pw_and (pt_cmpR op_gt (pv 2) pe_int (nomark _)) (pw_and1 (pt_cmpR op_gt (pv 5) pe_int (nomark _)))))
      (pss_cons (ps_set (i := 6) scExpr.nd rfl (Or.inl rfl) (pe_ix ix_list (pe_lst (pa_cons pe_str (pa_cons pe_str (pa_cons pe_str (pa_cons pe_str (pa_cons pe_str pa_nil)))))) (pe_D DT hr1 rfl (pa_cons (pv 0) (pa_cons pe_int pa_nil))) (fun _ _ => rfl)))
      (pss_one (ps_ret (pe_tup (pa_cons (pv 6) (pa_cons (pe_D G hr rfl (pa_cons (pv 0) (pa_cons (pv 1) (pa_cons (pe_op op_sub (pv 2) pe_int) pa_nil)))) (pa_cons (pe_D G hr rfl (pa_cons (pv 0) (pa_cons (pv 1) (pa_cons (pe_op op_sub (pv 2) pe_int) pa_nil)))) pa_nil))))))) pss_nil)
    ht2)), ?_⟩
  have hI1 := hI.at_
  refine ⟨_, rfl, _, _, _, _, rfl, rfl, SqT.of hI1, atI_nat (j := 0) rfl, _, rfl, _, _, _, _, rfl, rfl, SqT.of hI1, atI_nat (j := 1) rfl, _, _, rfl, ?_⟩
  refine ⟨_, rfl, b, 8, m + (ce d - 1), rfl, hB.less (by omega), by decide, by decide, fun d1 H1 k1 B1 d10 d11 => ?_⟩
  have I1 := hI.kept hB k1
  refine ⟨_, rfl, _, _, rfl, rfl, _, rfl, itD (fun c1 => ?_) (fun c1 => ?_)⟩
  · refine ⟨_, rfl, _, _, rfl, rfl, _, rfl, itD (fun c2 => ?_) (fun c2 => ?_)⟩
    · obtain ⟨e, rfl⟩ : ∃ e, d = e + 1 := ⟨d - 1, by omega⟩
      have cee : ce (e + 1) = 2 * ce e + 2 := rfl
      have i1 : (((e + 1 : Nat) : Int)) - 1 = ((e : Nat) : Int) := by omega
      refine ⟨(by show 5 ≤ sizeLine; decide), fun p1 hp1 => ?_⟩
      refine ⟨_, rfl, b, 5, m + (ce e + ce e), rfl, (B1.keep (same_new hp1 _)).less (by omega), by decide, by decide, fun d2 H2 k2 B2 d20 d21 => ?_⟩
      obtain ⟨dd, ed⟩ := word5 d20 d21
      refine ⟨p1, _, _, _, rfl, rfl, SqL.of (k2 _ _ (B1.ne hp1) upd_same), ed, ?_⟩
      have kk2 : Kept b H1 H2 := (Kept.new hp1 _).trans k2
      have I2 := I1.kept B1 kk2
      refine ⟨_, rfl, _, rfl, _, rfl, _, rfl, _, _, rfl, rfl, b, i, l, lw, e, m + ce e, xs, low, fst, mo, tu, (by rw [← i1]; rfl), by omega, B2.less (by omega), I2, fun v1 x1 H3 k3 B3 a1 a2 a3 => ?_⟩
      refine ⟨_, rfl, _, rfl, _, rfl, _, _, rfl, rfl, b, i, l, lw, e, m, xs, low, fst, mo, tu, (by rw [← i1]; rfl), by omega, B3, I2.kept B2 k3, fun v2 x2 H4 k4 B4 b1 b2 b3 => ?_⟩
      refine ⟨(by show 3 ≤ sizeLine; decide), fun p5 hp5 => ?_⟩
      have s5 := same_new hp5 (.tup [.str dd.word, v1, v2])
      have a1 := a1.keep (B3.tups k4)
      refine q _ (.op dd x1 x2) _ (k1.trans (kk2.trans (k3.trans (k4.trans (.of s5))))) (B4.keep s5) (.op upd_same (a1.keep (Same.tups s5)) (b1.keep (Same.tups s5))) ?_ ⟨a3, b3⟩
      show max x1.deep x2.deep + 1 ≤ e + 1 + 1
      omega
    · exact tail _ H1 d1 rfl k1 (B1.less (by omega)) I1 d10
  · exact tail _ H1 d1 rfl k1 (B1.less (by omega)) I1 d10
theorem all_expr (ml : mg "len" = none) (N : Nd K mg "_law_expression" sExpr psE) (DT : Df P w K mg base 1 "_law_take" psTk spTake) : ∀ n : Nat, Df P w K mg base (n + 1) "_law_expression" psE (spExpr n)
  | 0 => by
    obtain ⟨f, fd, h1, h2, h3⟩ := N
    exact ⟨f, fd, h1, h2.kp, no_expr, h3⟩
  | n + 1 => by
    have G := all_expr ml N DT n
    obtain ⟨f, fd, h1, h2, h3⟩ := N
    exact ⟨f, fd, h1, h2.kp, ok_expr ml h2 DT G, h3⟩
end
end Any
set_option pp.maxSteps 600
namespace Any
open L2 PySem PySem.Spec PyProof.Rows LamX NdefX
/-! ### drawn tests -/
abbrev sTest : Stmt := top 94
abbrev nmTest : List Str := ["_law_bag_here", "_law_info", "_law_deep", "_law_kind"]
theorem scTest : FnScope nmTest psE (defScope sTest) := ⟨rfl, rfl, rfl, by decide +kernel, rfl, by decide +kernel, by decide +kernel⟩
def ct : Nat → Nat
  | 0 => 13
  | n + 1 => 2 * ct n + 1
theorem ct_pos (n : Nat) : 13 ≤ ct n := by
  induction n with
  | zero => exact Nat.le_refl _
  | succ n ih => show 13 ≤ 2 * ct n + 1; omega
def spTest (n : Nat) : Sp := fun vs H Q _ => ∃ (b i l lw : Addr) (d m : Nat) (xs low : List Str) (fst : Bool) (mo tu : Int), vs = [.ref b, .ref i, .int d] ∧ d < n ∧ Bag H b (m + ct d) ∧ InfoAt H b i xs fst low mo tu l lw ∧
  ∀ (v : V) (e : Ts) (H' : Hp), Kept b H H' → Bag H' b m → TsAt H' v e → e.dp ≤ d + 3 → e.fit xs (wsOf fst) → Q v H'
theorem two_at {x y : V} {r : Int} (h0 : 0 ≤ r) (h1 : r < 2) : (atI [x, y] r = some x) ∨ (atI [x, y] r = some y) := by
  have : r = 0 ∨ r = 1 := by omega
  rcases this with rfl | rfl
  · exact .inl rfl
  · exact .inr rfl
section
variable {P : Program} {w : World} {K : PySem.W.Frag} {mg : Str → Option Value} {base : Heap} {f : Addr} {fd : FuncData}
theorem no_test {k : Nat} : FnOk P w K mg base CX0 k f fd psE (spTest 0) := by
  have no : ∀ vs H Q E, ¬ spTest 0 vs H Q E := fun vs H Q E h => by
    obtain ⟨b, i, l, lw, d, m, xs, low, fst, mo, tu, _, hd, _⟩ := h
    omega
  exact ⟨fun vs H Q E h => absurd h (no vs H Q E), fun A outer s H args us vs Q E _ _ _ _ h => absurd h (no vs H Q E)⟩
theorem ok_test {n : Nat} (F : Fun K "_law_test" "_law_test" sTest f fd) (DT : Df P w K mg base 1 "_law_take" psTk spTake) (DX : Df P w K mg base 3 "_law_expression" psE (spExpr 2)) (G : Df P w K mg base (n + 3) "_law_test" psE (spTest n)) : FnOk P w K mg base CX0 (n + 4) f fd psE (spTest (n + 1)) := by
  refine F.ok scTest (fun vs H Q E h => ?_) (fun cdv A outer s H vs Q E hr h => ?_)
  · obtain ⟨b, i, l, lw, d, m, xs, low, fst, mo, tu, rfl, _⟩ := h
    rfl
  obtain ⟨b, i, l, lw, d, m, xs, low, fst, mo, tu, rfl, hd, hB, hI, q⟩ := h
  have hr1 := hr.mono (show 1 ≤ n + 3 by omega)
  have hr3 := hr.mono (show 3 ≤ n + 3 by omega)
  have cp := ct_pos d
  have c1 : ce 1 = 6 := rfl
  obtain ⟨t2, ht2, tail⟩ : ∃ t2, PSs (cxOf CX0 P w K mg base nmTest "_law_test" (defScope sTest) f cdv A outer s H E).nox ((defBody sTest).drop 3) t2 ∧
      ∀ (D : Ends) (H1 : Hp) (d1 : Int), D.rt = Q → Kept b H H1 → Bag H1 b (m + 12) → InfoAt H1 b i xs fst low mo tu l lw → t2 D [some (.ref b), some (.ref i), some (.int d), some (.int d1)] H1 := by
    refine ⟨_, pss_one (ps_ret (pe_tup (pa_cons (pe_ix ix_list (pe_lst (pa_cons pe_str (pa_cons pe_str pa_nil))) (pe_op op_mod (pv 3) pe_int) (fun _ _ => rfl)) (pa_cons (pe_D DX hr3 rfl (pa_cons (pv 0) (pa_cons (pv 1) (pa_cons pe_int pa_nil)))) (pa_cons (pe_D DX hr3 rfl (pa_cons (pv 0) (pa_cons (pv 1) (pa_cons pe_int pa_nil)))) pa_nil))))), ?_⟩
    intro D H1 d1 eD k1 B1 I1
    have m0 := Int.emod_nonneg d1 (show (2 : Int) ≠ 0 by decide)
    have m1 := Int.emod_lt_of_pos d1 (show (0 : Int) < 2 by decide)
    refine ⟨(by show 2 ≤ sizeLine; decide), fun p1 hp1 => ?_⟩
    have s1 := same_new hp1 (.lst [.str "is", .str "below"])
    have I2 := I1.kept B1 (.of s1)
    have B2 := B1.keep s1
    have go : ∀ (wd : Str) (mk : Ex → Ex → Ts), (∀ (H' : Hp) (a : Addr) (u v : V) (x y : Ex), H' a = some (.tup [.str wd, u, v]) → ExAt H' u x → ExAt H' v y → TsAt H' (.ref a) (mk x y)) → (∀ x y, (mk x y).dp = max x.deep y.deep + 1) → (∀ x y ws, Ex.fit xs ws x → Ex.fit xs ws y → (mk x y).fit xs ws) →
        (∃ (b' i' l' lw' : Addr) (d' m' : Nat) (xs' low' : List Str) (fst' : Bool) (mo' tu' : Int), [V.ref b, .ref i, .int 1] = [.ref b', .ref i', .int (d' : Int)] ∧ d' < 2 ∧ Bag (upd H1 p1 (.lst [.str "is", .str "below"])) b' (m' + ce d') ∧ InfoAt (upd H1 p1 (.lst [.str "is", .str "below"])) b' i' xs' fst' low' mo' tu' l' lw' ∧
          ∀ (v : V) (e : Ex) (H' : Hp), Kept b' (upd H1 p1 (.lst [.str "is", .str "below"])) H' → Bag H' b' m' → ExAt H' v e → e.deep ≤ d' + 1 → e.fit xs' (wsOf fst') →
          ∃ (b2 i2 l2 lw2 : Addr) (d2 m2 : Nat) (xs2 low2 : List Str) (fst2 : Bool) (mo2 tu2 : Int), [V.ref b, .ref i, .int 1] = [.ref b2, .ref i2, .int (d2 : Int)] ∧ d2 < 2 ∧ Bag H' b2 (m2 + ce d2) ∧ InfoAt H' b2 i2 xs2 fst2 low2 mo2 tu2 l2 lw2 ∧
          ∀ (v2 : V) (e2 : Ex) (H2 : Hp), Kept b2 H' H2 → Bag H2 b2 m2 → ExAt H2 v2 e2 → e2.deep ≤ d2 + 1 → e2.fit xs2 (wsOf fst2) → 3 ≤ sizeLine ∧ ∀ p, H2 p = none → D.rt (.ref p) (upd H2 p (.tup [.str wd, v, v2]))) := fun wd mk at_ dp fit => by
      refine ⟨b, i, l, lw, 1, m + 6, xs, low, fst, mo, tu, rfl, by decide, B2, I2, fun v1 x1 H3 k3 B3 a1 a2 a3 => ?_⟩
      refine ⟨b, i, l, lw, 1, m, xs, low, fst, mo, tu, rfl, by decide, B3, I2.kept B2 k3, fun v2 x2 H4 k4 B4 b1 b2 b3 => ⟨(by decide), fun p hp => ?_⟩⟩
      rw [eD]
      have s5 := same_new hp (.tup [.str wd, v1, v2])
      have a1 := a1.keep (B3.tups k4)
      refine q _ (mk x1 x2) _ (k1.trans ((Kept.of s1).trans (k3.trans (k4.trans (.of s5))))) (B4.keep s5) (at_ _ _ _ _ _ _ upd_same (a1.keep (Same.tups s5)) (b1.keep (Same.tups s5))) ?_ (fit _ _ _ a3 b3)
      rw [dp]
      omega
    rcases two_at (x := V.str "is") (y := V.str "below") m0 m1 with ei | ei
    · obtain ⟨a1, a2, a3, a4, a5, a6, a7, a8, a9, a10, a11, g1, g2, g3, g4, g5⟩ := go "is" .is (fun _ _ _ _ _ _ h x y => .is h x y) (fun _ _ => rfl) (fun _ _ _ h g => ⟨h, g⟩)
      refine ⟨_, rfl, _, _, rfl, rfl, (by show (0 : Int) < 2; decide), p1, _, _, _, rfl, rfl, SqL.of upd_same, ei, ?_⟩
      refine ⟨_, rfl, _, rfl, a1, a2, a3, a4, a5, a6, a7, a8, a9, a10, a11, g1, g2, g3, g4, fun v e H' k B x1 x2 x3 => ?_⟩
      obtain ⟨c1, c2, c3, c4, c5, c6, c7, c8, c9, c10, c11, f1, f2, f3, f4, f5⟩ := g5 v e H' k B x1 x2 x3
      exact ⟨_, rfl, _, rfl, c1, c2, c3, c4, c5, c6, c7, c8, c9, c10, c11, f1, f2, f3, f4, f5⟩
    · obtain ⟨a1, a2, a3, a4, a5, a6, a7, a8, a9, a10, a11, g1, g2, g3, g4, g5⟩ := go "below" .bel (fun _ _ _ _ _ _ h x y => .bel h x y) (fun _ _ => rfl) (fun _ _ _ h g => ⟨h, g⟩)
      refine ⟨_, rfl, _, _, rfl, rfl, (by show (0 : Int) < 2; decide), p1, _, _, _, rfl, rfl, SqL.of upd_same, ei, ?_⟩
      refine ⟨_, rfl, _, rfl, a1, a2, a3, a4, a5, a6, a7, a8, a9, a10, a11, g1, g2, g3, g4, fun v e H' k B x1 x2 x3 => ?_⟩
      obtain ⟨c1, c2, c3, c4, c5, c6, c7, c8, c9, c10, c11, f1, f2, f3, f4, f5⟩ := g5 v e H' k B x1 x2 x3
      exact ⟨_, rfl, _, rfl, c1, c2, c3, c4, c5, c6, c7, c8, c9, c10, c11, f1, f2, f3, f4, f5⟩
  refine ⟨_, pss_cons (ps_set (i := 3) scTest.nd rfl (Or.inl rfl) (pe_D DT hr1 rfl (pa_cons (pv 0) (pa_cons pe_int pa_nil))))
    (pss_cons (ps_if (PW.pt (pw_and (pt_cmpR op_gt (pv 2) pe_int (nomark _)) (pw_and1 (pt_cmpR op_eq (pv 3) pe_int (nomark _))))) (pss_one (ps_ret (pe_tup (pa_cons pe_str (pa_cons (pe_D G hr rfl (pa_cons (pv 0) (pa_cons (pv 1) (pa_cons (pe_op op_sub (pv 2) pe_int) pa_nil)))) pa_nil))))) pss_nil)
    (pss_cons (ps_if (PW.pt (pw_and (pt_cmpR op_gt (pv 2) pe_int (nomark _)) (pw_and1 (pt_cmpR op_lt (pv 3) pe_int (nomark _)))))
      (pss_one (ps_ret (pe_tup (pa_cons (pe_ix ix_list (pe_lst (pa_cons pe_str (pa_cons pe_str pa_nil))) (pe_op op_sub (pv 3) pe_int) (fun _ _ => rfl)) (pa_cons (pe_D G hr rfl (pa_cons (pv 0) (pa_cons (pv 1) (pa_cons (pe_op op_sub (pv 2) pe_int) pa_nil)))) (pa_cons (pe_D G hr rfl (pa_cons (pv 0) (pa_cons (pv 1) (pa_cons (pe_op op_sub (pv 2) pe_int) pa_nil)))) pa_nil)))))) pss_nil)
    ht2)), ?_⟩
  refine ⟨_, rfl, b, 6, m + (ct d - 1), rfl, hB.less (by omega), by decide, by decide, fun d1 H1 k1 B1 d10 d11 => ?_⟩
  have I1 := hI.kept hB k1
  have more : ∀ D : Ends, D.rt = Q → t2 D [some (.ref b), some (.ref i), some (.int d), some (.int d1)] H1 := fun D eD => tail D H1 d1 eD k1 (B1.less (by omega)) I1
  refine ⟨_, rfl, _, _, rfl, rfl, _, rfl, itD (fun c1 => ?_) (fun c1 => ?_)⟩
  · obtain ⟨e, rfl⟩ : ∃ e, d = e + 1 := ⟨d - 1, by omega⟩
    have cee : ct (e + 1) = 2 * ct e + 1 := rfl
    have i1 : (((e + 1 : Nat) : Int)) - 1 = ((e : Nat) : Int) := by omega
    refine ⟨_, rfl, rfl, _, rfl, itEq (fun c2 => ?_) (fun c2 => ?_)⟩
    · refine ⟨_, rfl, _, rfl, _, rfl, _, _, rfl, rfl, b, i, l, lw, e, m, xs, low, fst, mo, tu, (by rw [← i1]; rfl), by omega, B1.less (by omega), I1, fun v1 x1 H3 k3 B3 a1 a2 a3 => ⟨(by show 2 ≤ sizeLine; decide), fun p5 hp5 => ?_⟩⟩
      have s5 := same_new hp5 (.tup [.str "not", v1])
      exact q _ (.nt x1) _ (k1.trans (k3.trans (.of s5))) (B3.keep s5) (.nt upd_same (a1.keep (Same.tups s5))) (by show x1.dp + 1 ≤ e + 1 + 3; omega) a3
    · refine ⟨_, rfl, _, _, rfl, rfl, _, rfl, itD (fun c1 => ?_) (fun c1 => ?_)⟩
      · refine ⟨_, rfl, _, _, rfl, rfl, _, rfl, itD (fun c3 => ?_) (fun c3 => ?_)⟩
        · refine ⟨(by show 2 ≤ sizeLine; decide), fun p1 hp1 => ?_⟩
          have s1 := same_new hp1 (.lst [.str "both", .str "either"])
          have I2 := I1.kept B1 (.of s1)
          have B2 := B1.keep s1
          rcases two_at (x := V.str "both") (y := V.str "either") (r := d1 - 1) (by omega) (by omega) with ei | ei
          · refine ⟨_, rfl, _, _, rfl, rfl, p1, _, _, _, rfl, rfl, SqL.of upd_same, ei, ?_⟩
            refine ⟨_, rfl, _, rfl, _, rfl, _, _, rfl, rfl, b, i, l, lw, e, m + ct e, xs, low, fst, mo, tu, (by rw [← i1]; rfl), by omega, B2.less (by omega), I2, fun v1 x1 H3 k3 B3 a1 a2 a3 => ?_⟩
            refine ⟨_, rfl, _, rfl, _, rfl, _, _, rfl, rfl, b, i, l, lw, e, m, xs, low, fst, mo, tu, (by rw [← i1]; rfl), by omega, B3, I2.kept B2 k3, fun v2 x2 H4 k4 B4 b1 b2 b3 => ⟨(by show 3 ≤ sizeLine; decide), fun p5 hp5 => ?_⟩⟩
            have s5 := same_new hp5 (.tup [.str "both", v1, v2])
            have a1 := a1.keep (B3.tups k4)
            exact q _ (.both x1 x2) _ (k1.trans ((Kept.of s1).trans (k3.trans (k4.trans (.of s5))))) (B4.keep s5) (.both upd_same (a1.keep (Same.tups s5)) (b1.keep (Same.tups s5))) (by show max x1.dp x2.dp + 1 ≤ e + 1 + 3; omega) ⟨a3, b3⟩
          · refine ⟨_, rfl, _, _, rfl, rfl, p1, _, _, _, rfl, rfl, SqL.of upd_same, ei, ?_⟩
            refine ⟨_, rfl, _, rfl, _, rfl, _, _, rfl, rfl, b, i, l, lw, e, m + ct e, xs, low, fst, mo, tu, (by rw [← i1]; rfl), by omega, B2.less (by omega), I2, fun v1 x1 H3 k3 B3 a1 a2 a3 => ?_⟩
            refine ⟨_, rfl, _, rfl, _, rfl, _, _, rfl, rfl, b, i, l, lw, e, m, xs, low, fst, mo, tu, (by rw [← i1]; rfl), by omega, B3, I2.kept B2 k3, fun v2 x2 H4 k4 B4 b1 b2 b3 => ⟨(by show 3 ≤ sizeLine; decide), fun p5 hp5 => ?_⟩⟩
            have s5 := same_new hp5 (.tup [.str "either", v1, v2])
            have a1 := a1.keep (B3.tups k4)
            exact q _ (.either x1 x2) _ (k1.trans ((Kept.of s1).trans (k3.trans (k4.trans (.of s5))))) (B4.keep s5) (.either upd_same (a1.keep (Same.tups s5)) (b1.keep (Same.tups s5))) (by show max x1.dp x2.dp + 1 ≤ e + 1 + 3; omega) ⟨a3, b3⟩
        · exact more _ rfl
      · exact more _ rfl
  · exact ⟨_, rfl, _, _, rfl, rfl, _, rfl, itF (decide_eq_false c1) (more _ rfl)⟩
theorem all_test (N : Nd K mg "_law_test" sTest psE) (DT : Df P w K mg base 1 "_law_take" psTk spTake) (DX : Df P w K mg base 3 "_law_expression" psE (spExpr 2)) : ∀ n : Nat, Df P w K mg base (n + 3) "_law_test" psE (spTest n)
  | 0 => by
    obtain ⟨f, fd, h1, h2, h3⟩ := N
    exact ⟨f, fd, h1, h2.kp, no_test, h3⟩
  | n + 1 => by
    have G := all_test N DT DX n
    obtain ⟨f, fd, h1, h2, h3⟩ := N
    exact ⟨f, fd, h1, h2.kp, ok_test h2 DT DX G, h3⟩
end
/-! ### small ones are few -/
theorem Ex.cnt_two : ∀ e : Ex, e.cnt + 1 ≤ 2 ^ e.deep
  | .num _ => Nat.le_refl _
  | .box _ => Nat.le_refl _
  | .asked => Nat.le_refl _
  | .told => Nat.le_refl _
  | .op _ l r => by
    have h1 := l.cnt_two
    have h2 := r.cnt_two
    have h3 : 2 ^ l.deep ≤ 2 ^ max l.deep r.deep := Nat.pow_le_pow_right (by decide) (Nat.le_max_left ..)
    have h4 : 2 ^ r.deep ≤ 2 ^ max l.deep r.deep := Nat.pow_le_pow_right (by decide) (Nat.le_max_right ..)
    show 1 + (l.cnt + r.cnt) + 1 ≤ 2 ^ (max l.deep r.deep + 1)
    rw [Nat.pow_succ]
    omega
theorem Ts.cnt_two : ∀ e : Ts, e.cnt + 1 ≤ 2 ^ e.dp
  | .is l r => by
    have h1 := l.cnt_two
    have h2 := r.cnt_two
    have h3 : 2 ^ l.deep ≤ 2 ^ max l.deep r.deep := Nat.pow_le_pow_right (by decide) (Nat.le_max_left ..)
    have h4 : 2 ^ r.deep ≤ 2 ^ max l.deep r.deep := Nat.pow_le_pow_right (by decide) (Nat.le_max_right ..)
    show 1 + (l.cnt + r.cnt) + 1 ≤ 2 ^ (max l.deep r.deep + 1)
    rw [Nat.pow_succ]
    omega
  | .bel l r => by
    have h1 := l.cnt_two
    have h2 := r.cnt_two
    have h3 : 2 ^ l.deep ≤ 2 ^ max l.deep r.deep := Nat.pow_le_pow_right (by decide) (Nat.le_max_left ..)
    have h4 : 2 ^ r.deep ≤ 2 ^ max l.deep r.deep := Nat.pow_le_pow_right (by decide) (Nat.le_max_right ..)
    show 1 + (l.cnt + r.cnt) + 1 ≤ 2 ^ (max l.deep r.deep + 1)
    rw [Nat.pow_succ]
    omega
  | .nt t => by
    have h1 := t.cnt_two
    have h2 : 0 < 2 ^ t.dp := Nat.pow_pos (by decide)
    show 1 + t.cnt + 1 ≤ 2 ^ (t.dp + 1)
    rw [Nat.pow_succ]
    omega
  | .both t u => by
    have h1 := t.cnt_two
    have h2 := u.cnt_two
    have h3 : 2 ^ t.dp ≤ 2 ^ max t.dp u.dp := Nat.pow_le_pow_right (by decide) (Nat.le_max_left ..)
    have h4 : 2 ^ u.dp ≤ 2 ^ max t.dp u.dp := Nat.pow_le_pow_right (by decide) (Nat.le_max_right ..)
    show 1 + (t.cnt + u.cnt) + 1 ≤ 2 ^ (max t.dp u.dp + 1)
    rw [Nat.pow_succ]
    omega
  | .either t u => by
    have h1 := t.cnt_two
    have h2 := u.cnt_two
    have h3 : 2 ^ t.dp ≤ 2 ^ max t.dp u.dp := Nat.pow_le_pow_right (by decide) (Nat.le_max_left ..)
    have h4 : 2 ^ u.dp ≤ 2 ^ max t.dp u.dp := Nat.pow_le_pow_right (by decide) (Nat.le_max_right ..)
    show 1 + (t.cnt + u.cnt) + 1 ≤ 2 ^ (max t.dp u.dp + 1)
    rw [Nat.pow_succ]
    omega
theorem Ex.right_of {xs ws : List Str} {e : Ex} (h : e.fit xs ws) (d : e.deep ≤ 4) : e.right xs ws := by
  have h1 := e.cnt_two
  have h2 : 2 ^ e.deep ≤ 2 ^ 4 := Nat.pow_le_pow_right (by decide) d
  exact ⟨h, by omega, by omega⟩
theorem Ts.right_of {xs ws : List Str} {e : Ts} (h : e.fit xs ws) (d : e.dp ≤ 4) : e.right xs ws := by
  have h1 := e.cnt_two
  have h2 : 2 ^ e.dp ≤ 2 ^ 4 := Nat.pow_le_pow_right (by decide) d
  exact ⟨h, by omega, by omega⟩
end Any
set_option pp.maxSteps 600
namespace Any
open L2 PySem PySem.Spec PyProof.Rows LamX NdefX
/-! ### drawn steps: what is told of them -/
def Bd.of : List Sg → Bd
  | [] => .nil
  | s :: r => .cons s (Bd.of r)
theorem of_at {H : Hp} : ∀ {vs : List V} {l : List Sg}, Paired (SgAt H) vs l → BdL H vs (Bd.of l)
  | _, _, .nil => by
    unfold Bd.of BdL
    rfl
  | _, _, .cons r t => by
    unfold Bd.of BdL
    exact ⟨_, _, rfl, r, of_at t⟩
theorem of_ok {xs ws rs : List Str} : ∀ {l : List Sg}, (∀ s ∈ l, s.ok xs ws rs) → (Bd.of l).ok xs ws rs
  | [], _ => by
    unfold Bd.of Bd.ok
    trivial
  | s :: r, h => by
    unfold Bd.of Bd.ok
    exact ⟨h s (List.mem_cons_self ..), of_ok fun t ht => h t (List.mem_cons_of_mem _ ht)⟩
theorem of_len : ∀ l : List Sg, (Bd.of l).len = l.length
  | [] => rfl
  | s :: r => by
    unfold Bd.of Bd.len
    rw [of_len r]
    rfl
theorem of_dp {k : Nat} : ∀ {l : List Sg}, (∀ s ∈ l, s.dp ≤ k) → (Bd.of l).dp ≤ k
  | [], _ => by
    unfold Bd.of Bd.dp
    omega
  | s :: r, h => by
    unfold Bd.of Bd.dp
    have h1 := h s (List.mem_cons_self ..)
    have h2 := of_dp (l := r) fun t ht => h t (List.mem_cons_of_mem _ ht)
    omega
theorem of_tot : ∀ l : List Sg, (Bd.of l).tot = (l.map Sg.tot).sum
  | [] => by
    unfold Bd.of Bd.tot
    rfl
  | s :: r => by
    unfold Bd.of Bd.tot
    rw [of_tot r, List.map_cons, List.sum_cons]
theorem p_snoc {α β : Type} {R : α → β → Prop} : ∀ {xs : List α} {ys : List β}, Paired R xs ys → ∀ {x : α} {y : β}, R x y → Paired R (xs ++ [x]) (ys ++ [y])
  | _, _, .nil, _, _, h => .cons h .nil
  | _, _, .cons r t, _, _, h => .cons r (p_snoc t h)
theorem strs_data {K : PySem.W.Frag} {H : Hp} : ∀ xs : List Str, DpAll K H (xs.map V.str) (xs.map PyData.str)
  | [] => .nil
  | x :: r => .cons (.str x) (strs_data r)
theorem shaped_strs : ∀ rs : List Str, (∀ r ∈ rs, PyData.strOk r = true) → PyData.canLayAll0 (rs.map PyData.str) = true ∧ PyData.depthAll (rs.map PyData.str) = 0
  | [], _ => ⟨rfl, rfl⟩
  | x :: r, h => by
    obtain ⟨h1, h2⟩ := shaped_strs r fun y hy => h y (List.mem_cons_of_mem _ hy)
    have h3 := h x (List.mem_cons_self ..)
    refine ⟨?_, ?_⟩
    · show (PyData.strOk x && PyData.canLayAll0 (r.map PyData.str)) = true
      rw [h1, h3]
      rfl
    · show max 0 (PyData.depthAll (r.map PyData.str)) = 0
      rw [h2]
      rfl
theorem shaped_lst {rs : List Str} (h : ∀ r ∈ rs, PyData.strOk r = true) : SeqAt.shaped (.list (rs.map PyData.str)) = true := by
  obtain ⟨h1, h2⟩ := shaped_strs rs h
  unfold SeqAt.shaped
  show (PyData.canLayAll0 (rs.map PyData.str) && decide (PyData.depthAll (rs.map PyData.str) + 1 ≤ 64)) = true
  rw [h1, h2]
  rfl
theorem eqv_nil (rs : List Str) : PyData.eqv (.list (rs.map PyData.str)) (.list []) = decide (rs = []) := by
  cases rs with
  | nil => rfl
  | cons x r => rfl
theorem nm_ok {x : Str} (h : Nm x) : PyData.strOk x = true := by
  unfold PyData.strOk
  rw [Array.all_eq_true']
  intro c hc
  have := h.low c (by simpa using hc)
  exact decide_eq_true (by omega)
/-- all but these two stay -/
def K2 (b L : Addr) (H H' : Hp) : Prop := ∀ a o, a ≠ b → a ≠ L → H a = some o → H' a = some o
theorem K2.of {b L : Addr} {H H' : Hp} (k : Kept b H H') : K2 b L H H' := fun a o n _ h => k a o n h
theorem K2.refl {b L : Addr} {H : Hp} : K2 b L H H := fun _ _ _ _ h => h
theorem K2.trans {b L : Addr} {H H1 H2 : Hp} (k : K2 b L H H1) (g : K2 b L H1 H2) : K2 b L H H2 := fun a o n m h => g a o n m (k a o n m h)
theorem K2.put {b L : Addr} {H : Hp} {o : HO} : K2 b L H (upd H L o) := fun a u _ m h => by rw [upd_ne m]; exact h
theorem K2.tups {b L : Addr} {H H' : Hp} {n : Nat} {xs : List V} (k : K2 b L H H') (B : Bag H b n) (h : H L = some (.lst xs)) : Tups H H' := fun a ts ha => by
  obtain ⟨ys, hb⟩ := B.lst
  exact k _ _ (ne_of ha hb (by intro z; cases z)) (ne_of ha h (by intro z; cases z)) ha
structure DrawAt (H : Hp) (b i L : Addr) (k : Nat) (xs : List Str) (fst : Bool) (low : List Str) (mo tu : Int) (l lw : Addr) : Prop where
  info : InfoAt H b i xs fst low mo tu l lw
  nL : L ≠ b
  nl : l ≠ L
  nw : lw ≠ L
  left : H L = some (.lst [.int k])
  mo1 : 1 ≤ mo
  mo9 : mo ≤ 9
  tu1 : 1 ≤ tu
  tu7 : tu ≤ 7
  ok : ∀ r ∈ low, PyData.strOk r = true
theorem DrawAt.k2 {H H' : Hp} {b i L l lw : Addr} {k k' n : Nat} {xs low : List Str} {fst : Bool} {mo tu : Int} (h : DrawAt H b i L k xs fst low mo tu l lw) (B : Bag H b n) (g : K2 b L H H') (hL : H' L = some (.lst [.int k'])) : DrawAt H' b i L k' xs fst low mo tu l lw :=
  ⟨⟨g.tups B h.left _ _ h.info.at_, g _ _ h.info.nl h.nl h.info.own, h.info.nl, g _ _ h.info.nw h.nw h.info.below, h.info.nw, h.info.lo, h.info.hi, h.info.lows⟩, h.nL, h.nl, h.nw, hL, h.mo1, h.mo9, h.tu1, h.tu7, h.ok⟩
theorem DrawAt.kept {H H' : Hp} {b i L l lw : Addr} {k n : Nat} {xs low : List Str} {fst : Bool} {mo tu : Int} (h : DrawAt H b i L k xs fst low mo tu l lw) (B : Bag H b n) (g : Kept b H H') : DrawAt H' b i L k xs fst low mo tu l lw := h.k2 B (.of g) (g _ _ h.nL h.left)
/-- how often a bag is asked, at most -/
def cs : Nat → Nat
  | 0 => 97
  | n + 1 => 181 + 12 * cs n
def it : Nat → Nat
  | 0 => 16
  | n + 1 => 30 + 2 * cs n
theorem cs_it : ∀ n, cs n = 1 + 6 * it n
  | 0 => rfl
  | n + 1 => by
    show 181 + 12 * cs n = 1 + 6 * (30 + 2 * cs n)
    omega
theorem it_lo (n : Nat) : 16 ≤ it n := by
  cases n with
  | zero => exact Nat.le_refl _
  | succ n => show 16 ≤ 30 + 2 * cs n; omega
abbrev psSt : List Str := ["_law_bag_here", "_law_info", "_law_deep", "_law_left"]
def spSteps (n : Nat) : Sp := fun vs H Q _ => ∃ (b i L l lw : Addr) (d m k : Nat) (xs low : List Str) (fst : Bool) (mo tu : Int), vs = [.ref b, .ref i, .int d, .ref L] ∧ d < n ∧ Bag H b (m + cs d) ∧ DrawAt H b i L k xs fst low mo tu l lw ∧
  ∀ (p : Addr) (bd : Bd) (H' : Hp) (k' : Nat), K2 b L H H' → Bag H' b m → H' L = some (.lst [.int k']) → BdAt H' p bd → bd.ok xs (wsOf fst) low → bd.len ≤ 6 → bd.dp ≤ d + 1 → bd.tot + k' ≤ k → Q (.ref p) H'
def spStep (n : Nat) : Sp := fun vs H Q _ => ∃ (b i L l lw : Addr) (d m k : Nat) (xs low : List Str) (fst : Bool) (mo tu : Int), vs = [.ref b, .ref i, .int d, .ref L] ∧ d ≤ n ∧ Bag H b (m + it d) ∧ DrawAt H b i L k xs fst low mo tu l lw ∧
  ∀ (v : V) (sg : Sg) (H' : Hp) (k' : Nat), K2 b L H H' → Bag H' b m → H' L = some (.lst [.int k']) → SgAt H' v sg → sg.ok xs (wsOf fst) low → sg.dp ≤ d + 1 → sg.tot + k' ≤ k + 1 → Q v H'
abbrev sStep : Stmt := top 95
abbrev nmStep : List Str := ["_law_bag_here", "_law_info", "_law_deep", "_law_left", "_law_nicks_here", "_law_lower", "_law_kind", "_law_box", "_law_first", "_law_most"]
theorem scStep : FnScope nmStep psSt (defScope sStep) := ⟨rfl, rfl, rfl, by decide +kernel, rfl, by decide +kernel, by decide +kernel⟩
end Any
set_option pp.maxSteps 600
namespace Any
open L2 PySem PySem.Spec PyProof.Rows LamX NdefX
section
variable {P : Program} {w : World} {K : PySem.W.Frag} {mg : Str → Option Value} {base : Heap} {f : Addr} {fd : FuncData}
theorem ok_step {n : Nat} (ml : mg "len" = none) (F : Fun K "_law_step" "_law_step" sStep f fd) (DT : Df P w K mg base 1 "_law_take" psTk spTake) (DX : Df P w K mg base 4 "_law_expression" psE (spExpr 3)) (DS : Df P w K mg base 5 "_law_test" psE (spTest 2)) (G : Df P w K mg base (2 * n + 5) "_law_steps" psSt (spSteps n)) :
    FnOk P w K mg base CX0 (2 * n + 6) f fd psSt (spStep n) := by
  refine F.ok scStep (fun vs H Q E h => ?_) (fun cdv A outer s H vs Q E hr h => ?_)
  · obtain ⟨b, i, L, l, lw, d, m, k, xs, low, fst, mo, tu, rfl, _⟩ := h
    rfl
  obtain ⟨b, i, L, l, lw, d, m, k, xs, low, fst, mo, tu, rfl, hd, hB, hD, q⟩ := h
  have hs : sizeLine = 16777216 := sizeLine_eq
  have hr1 := hr.mono (show 1 ≤ 2 * n + 5 by omega)
  have hr4 := hr.mono (show 4 ≤ 2 * n + 5 by omega)
  have hr5 := hr.mono (show 5 ≤ 2 * n + 5 by omega)
  have e1 : ce 1 = 6 := rfl
  have e2 : ce 2 = 14 := rfl
  have e3 : ct 1 = 27 := rfl
  have il := it_lo d
  -- hear, set, say
  obtain ⟨t4, ht4, leaf4⟩ : ∃ t4, PSs (cxOf CX0 P w K mg base nmStep "_law_step" (defScope sStep) f cdv A outer s H E).nox ((defBody sStep).drop 5) t4 ∧
      ∀ (D : Ends) (H1 : Hp) (kd : Int) (xb : Str), D.rt = Q → Kept b H H1 → Bag H1 b (m + 14) → xb ∈ xs → t4 D [some (.ref b), some (.ref i), some (.int d), some (.ref L), some (.ref l), some (.ref lw), some (.int kd), some (.str xb), none, none] H1 := by
    refine ⟨_, pss_cons (ps_if (pt_cmpR op_eq (pv 6) pe_int (nomark _)) (pss_one (ps_ret (pe_tup (pa_cons pe_str (pa_cons (pv 7) pa_nil))))) pss_nil)
      (pss_one (ps_ret (pe_tup (pa_cons (pe_ix ix_list (pe_lst (pa_cons pe_str (pa_cons pe_str pa_nil))) (pe_op op_mod (pv 6) pe_int) (fun _ _ => rfl)) (pa_cons (pv 7) (pa_cons (pe_D DX hr4 rfl (pa_cons (pv 0) (pa_cons (pv 1) (pa_cons pe_int pa_nil)))) pa_nil)))))), ?_⟩
    intro D H1 kd xb eD k1 B1 hxb
    have D1 := hD.kept hB k1
    refine ⟨_, rfl, rfl, _, rfl, itEq (fun _ => ?_) (fun _ => ?_)⟩
    · refine ⟨_, rfl, (by show 2 ≤ sizeLine; omega), fun p np => ?_⟩
      have s1 := same_new np (.tup [.str "hear", .str xb])
      rw [eD]
      exact q (.ref p) (.hear xb) _ k (.of (k1.trans (.of s1))) ((B1.keep s1).less (by omega)) (s1 _ _ D1.left) (by unfold SgAt; exact ⟨p, rfl, upd_same⟩) (by unfold Sg.ok; exact hxb) (by unfold Sg.dp; omega) (by unfold Sg.tot; omega)
    · have m0 := Int.emod_nonneg kd (show (2 : Int) ≠ 0 by decide)
      have m1 := Int.emod_lt_of_pos kd (show (0 : Int) < 2 by decide)
      refine ⟨(by show 2 ≤ sizeLine; omega), fun p1 np1 => ?_⟩
      have s1 := same_new np1 (.lst [.str "set", .str "say"])
      rcases two_at (x := V.str "set") (y := V.str "say") m0 m1 with ei | ei
      · refine ⟨_, rfl, _, _, rfl, rfl, (by show (0 : Int) < 2; decide), p1, _, _, _, rfl, rfl, SqL.of upd_same, ei, _, rfl, ?_⟩
        refine ⟨_, rfl, _, rfl, b, i, l, lw, 2, m, xs, low, fst, mo, tu, rfl, by decide, (B1.keep s1).less (by omega), D1.info.kept B1 (.of s1), fun ve ex H2 k2 B2 a1 a2 a3 => ⟨(by show 3 ≤ sizeLine; omega), fun p np => ?_⟩⟩
        have s2 := same_new np (.tup [.str "set", .str xb, ve])
        have kk : Kept b H1 _ := (Kept.of s1).trans (k2.trans (.of s2))
        rw [eD]
        exact q (.ref p) (.set xb ex) _ k (.of (k1.trans kk)) (B2.keep s2) (kk _ _ hD.nL D1.left) (by unfold SgAt; exact ⟨p, ve, rfl, upd_same, a1.keep (Same.tups s2)⟩) (by unfold Sg.ok; exact ⟨hxb, Ex.right_of a3 (by omega)⟩) (by unfold Sg.dp; omega) (by unfold Sg.tot; omega)
      · refine ⟨_, rfl, _, _, rfl, rfl, (by show (0 : Int) < 2; decide), p1, _, _, _, rfl, rfl, SqL.of upd_same, ei, _, rfl, ?_⟩
        refine ⟨_, rfl, _, rfl, b, i, l, lw, 2, m, xs, low, fst, mo, tu, rfl, by decide, (B1.keep s1).less (by omega), D1.info.kept B1 (.of s1), fun ve ex H2 k2 B2 a1 a2 a3 => ⟨(by show 3 ≤ sizeLine; omega), fun p np => ?_⟩⟩
        have s2 := same_new np (.tup [.str "say", .str xb, ve])
        have kk : Kept b H1 _ := (Kept.of s1).trans (k2.trans (.of s2))
        rw [eD]
        exact q (.ref p) (.say xb ex) _ k (.of (k1.trans kk)) (B2.keep s2) (kk _ _ hD.nL D1.left) (by unfold SgAt; exact ⟨p, ve, rfl, upd_same, a1.keep (Same.tups s2)⟩) (by unfold Sg.ok; exact ⟨hxb, Ex.right_of a3 (by omega)⟩) (by unfold Sg.dp; omega) (by unfold Sg.tot; omega)
  -- call
  obtain ⟨t3, ht3, leaf3⟩ : ∃ t3, PSs (cxOf CX0 P w K mg base nmStep "_law_step" (defScope sStep) f cdv A outer s H E).nox ((defBody sStep).drop 4) t3 ∧
      ∀ (D : Ends) (H1 : Hp) (kd : Int) (xb : Str), D.rt = Q → Kept b H H1 → Bag H1 b (m + 14) → xb ∈ xs → t3 D [some (.ref b), some (.ref i), some (.int d), some (.ref L), some (.ref l), some (.ref lw), some (.int kd), some (.str xb), none, none] H1 := by
    refine ⟨_, pss_cons (ps_if (PW.pt (pw_and (pt_cmpR op_lt (pv 6) pe_int (nomark _)) (pw_and1 (pt_cmpR (op_neD hr.units) (pv 5) (pe_lst pa_nil) (nomark _)))))
        (pss_one (ps_ret (pe_tup (pa_cons pe_str (pa_cons (pv 7) (pa_cons (pe_ix ix_list (pv 5) (pe_D DT hr1 rfl (pa_cons (pv 0) (pa_cons (pe_callB call_len_seq rfl ml PySem.boot_len (pa_cons (pv 5) pa_nil)) pa_nil))) (fun _ _ => rfl)) (pa_cons (pe_D DX hr4 rfl (pa_cons (pv 0) (pa_cons (pv 1) (pa_cons pe_int pa_nil)))) pa_nil))))))) pss_nil) ht4, ?_⟩
    intro D H1 kd xb eD k1 B1 hxb
    have D1 := hD.kept hB k1
    refine ⟨_, rfl, _, _, rfl, rfl, _, rfl, itD (fun c => ?_) (fun c => itF rfl (leaf4 _ H1 kd xb eD k1 B1 hxb))⟩
    refine ⟨_, rfl, (by show 0 ≤ sizeLine; omega), fun p np => ?_⟩
    have sp := same_new np (.lst [])
    refine ⟨.list (low.map PyData.str), .list [], .lst (SqL.of (sp _ _ D1.info.below)) (strs_data low), .lst (SqL.of upd_same) .nil, shaped_lst hD.ok, rfl, _, rfl, ?_⟩
    rw [eqv_nil]
    have D2 := D1.kept B1 (.of sp)
    have B2 := B1.keep sp
    refine itN (fun c2 => ?_) (fun c2 => leaf4 _ _ kd xb eD (k1.trans (.of sp)) B2 hxb)
    have hl1 : 1 ≤ low.length := by
      cases low with
      | nil => exact absurd rfl c2
      | cons x r => exact Nat.le_add_left 1 _
    have hl8 := hD.info.lows
    refine ⟨_, rfl, _, rfl, _, rfl, _, rfl, lw, _, rfl, .inl (SqL.of D2.info.below), b, (low.length : Int), m + 6, (by rw [List.length_map]; rfl), B2.less (by omega), by omega, by omega, fun z H3 k3 B3 z0 z1 => ?_⟩
    obtain ⟨xr, hxr, ex⟩ := str_at z0 z1
    refine ⟨lw, _, _, _, rfl, rfl, SqL.of (k3 _ _ hD.info.nw D2.info.below), ex, ?_⟩
    refine ⟨_, rfl, _, rfl, b, i, l, lw, 1, m, xs, low, fst, mo, tu, rfl, by decide, B3, D2.info.kept B2 k3, fun ve ee H4 k4 B4 a1 a2 a3 => ⟨(by show 4 ≤ sizeLine; omega), fun p5 n5 => ?_⟩⟩
    have s5 := same_new n5 (.tup [.str "call", .str xb, .str xr, ve])
    have kk : Kept b H1 _ := (Kept.of sp).trans (k3.trans (k4.trans (.of s5)))
    rw [eD]
    exact q (.ref p5) (.call xb xr ee) _ k (.of (k1.trans kk)) (B4.keep s5) (kk _ _ hD.nL D1.left) (by unfold SgAt; exact ⟨p5, ve, rfl, upd_same, a1.keep (Same.tups s5)⟩) (by unfold Sg.ok; exact ⟨hxb, hxr, Ex.right_of a3 (by omega)⟩) (by unfold Sg.dp; omega) (by unfold Sg.tot; omega)
  -- for
  obtain ⟨t2, ht2, leaf2⟩ : ∃ t2, PSs (cxOf CX0 P w K mg base nmStep "_law_step" (defScope sStep) f cdv A outer s H E).nox ((defBody sStep).drop 3) t2 ∧
      ∀ (D : Ends) (H1 : Hp) (kd : Int) (xb : Str), D.rt = Q → Kept b H H1 → Bag H1 b (m + (it d - 2)) → xb ∈ xs → t2 D [some (.ref b), some (.ref i), some (.int d), some (.ref L), some (.ref l), some (.ref lw), some (.int kd), some (.str xb), none, none] H1 := by
    refine ⟨_, pss_cons (ps_if (PW.pt (pw_and (pt_cmpR op_lt (pv 6) pe_int (nomark _)) (pw_and1 (pt_cmpR op_gt (pv 2) pe_int (nomark _)))))
        (pss_cons (ps_set (i := 9) scStep.nd rfl (Or.inl rfl) (pe_op op_add pe_int (pe_D DT hr1 rfl (pa_cons (pv 0) (pa_cons (pe_ix ix_tup (pv 1) pe_int (fun _ _ => rfl)) pa_nil)))))
        (pss_one (ps_ret (pe_tup (pa_cons pe_str (pa_cons (pe_D DX hr4 rfl (pa_cons (pv 0) (pa_cons (pv 1) (pa_cons pe_int pa_nil)))) (pa_cons (pv 9) (pa_cons (pe_D G hr rfl (pa_cons (pv 0) (pa_cons (pv 1) (pa_cons (pe_op op_sub (pv 2) pe_int) (pa_cons (pv 3) pa_nil))))) pa_nil)))))))) pss_nil) ht3, ?_⟩
    intro D H1 kd xb eD k1 B1 hxb
    have D1 := hD.kept hB k1
    refine ⟨_, rfl, _, _, rfl, rfl, _, rfl, itD (fun c => ?_) (fun c => itF rfl (leaf3 _ H1 kd xb eD k1 (B1.less (by omega)) hxb))⟩
    refine ⟨_, rfl, _, _, rfl, rfl, _, rfl, itD (fun c2 => ?_) (fun c2 => leaf3 _ H1 kd xb eD k1 (B1.less (by omega)) hxb)⟩
    obtain ⟨e, rfl⟩ : ∃ e, d = e + 1 := ⟨d - 1, by omega⟩
    have ei : it (e + 1) = 30 + 2 * cs e := rfl
    have i1 : (((e + 1 : Nat) : Int)) - 1 = ((e : Nat) : Int) := by omega
    have mo1 := hD.mo1
    have mo9 := hD.mo9
    refine ⟨_, rfl, _, rfl, _, _, _, _, rfl, rfl, SqT.of D1.info.at_, atI_nat (j := 3) rfl, b, mo, m + (6 + cs e), rfl, B1.less (by omega), by omega, by omega, fun z H2 k2 B2 z0 z1 => ⟨_, _, rfl, rfl, ?_⟩⟩
    have D2 := D1.kept B1 k2
    refine ⟨_, rfl, _, rfl, b, i, l, lw, 1, m + cs e, xs, low, fst, mo, tu, rfl, by decide, B2.less (by omega), D2.info, fun ve ee H3 k3 B3 a1 a2 a3 => ?_⟩
    have D3 := D2.kept B2 k3
    refine ⟨_, rfl, _, rfl, _, rfl, _, rfl, _, _, rfl, rfl, _, rfl, b, i, L, l, lw, e, m, k, xs, low, fst, mo, tu, (by rw [← i1]; rfl), by omega, B3, D3, fun p bd H4 k' g4 B4 hL4 at4 ok4 len4 dp4 tot4 => ⟨(by show 4 ≤ sizeLine; omega), fun p5 n5 => ?_⟩⟩
    have s5 := same_new n5 (.tup [.str "for", ve, .int (1 + z), .ref p])
    have t4 := g4.tups B3 D3.left
    obtain ⟨us, u1, u2⟩ := at4.keep (Same.tups s5)
    rw [eD]
    refine q (.ref p5) (.fors ee (1 + z) bd) _ k' (K2.trans (.of (k1.trans (k2.trans k3))) (g4.trans (.of (.of s5)))) (B4.keep s5) (s5 _ _ hL4) (by unfold SgAt; exact ⟨p5, ve, p, us, rfl, upd_same, (a1.keep t4).keep (Same.tups s5), u1, u2⟩)
      (by unfold Sg.ok; exact ⟨Ex.right_of a3 (by omega), ⟨by omega, by omega⟩, ok4, by omega⟩) (by unfold Sg.dp; omega) (by unfold Sg.tot; omega)
  refine ⟨_, pss_cons (ps_par (i := 4) (j := 5) (by rfl) scStep.nd rfl rfl (by decide) rfl rfl (pa_cons (pe_ix ix_tup (pv 1) pe_int (fun _ _ => rfl)) (pa_cons (pe_ix ix_tup (pv 1) pe_int (fun _ _ => rfl)) pa_nil)) (by rfl))
    (pss_cons (ps_par (i := 6) (j := 7) (by rfl) scStep.nd rfl rfl (by decide) rfl rfl (pa_cons (pe_D DT hr1 rfl (pa_cons (pv 0) (pa_cons pe_int pa_nil))) (pa_cons (pe_ix ix_list (pv 4) (pe_D DT hr1 rfl (pa_cons (pv 0) (pa_cons (pe_callB call_len_seq rfl ml PySem.boot_len (pa_cons (pv 4) pa_nil)) pa_nil))) (fun _ _ => rfl)) pa_nil)) (by rfl))
    (pss_cons (ps_if (PW.pt (pw_and (pt_cmpR op_lt (pv 6) pe_int (nomark _)) (pw_and1 (pt_cmpR op_gt (pv 2) pe_int (nomark _)))))
      (pss_cons (ps_set (i := 8) scStep.nd rfl (Or.inl rfl) (pe_D G hr rfl (pa_cons (pv 0) (pa_cons (pv 1) (pa_cons (pe_op op_sub (pv 2) pe_int) (pa_cons (pv 3) pa_nil))))))
      (pss_one (ps_ret (pe_tup (pa_cons pe_str (pa_cons (pe_D DS hr5 rfl (pa_cons (pv 0) (pa_cons (pv 1) (pa_cons pe_int pa_nil)))) (pa_cons (pv 8) (pa_cons (pe_D G hr rfl (pa_cons (pv 0) (pa_cons (pv 1) (pa_cons (pe_op op_sub (pv 2) pe_int) (pa_cons (pv 3) pa_nil))))) pa_nil)))))))) pss_nil)
    ht2)), ?_⟩
  have hI1 := hD.info.at_
  refine ⟨_, rfl, _, _, _, _, rfl, rfl, SqT.of hI1, atI_nat (j := 0) rfl, _, rfl, _, _, _, _, rfl, rfl, SqT.of hI1, atI_nat (j := 2) rfl, _, _, rfl, ?_⟩
  refine ⟨_, rfl, b, 10, m + (it d - 1), rfl, hB.less (by omega), by decide, by decide, fun kd H1 k1 B1 d10 d11 => ?_⟩
  have D1 := hD.kept hB k1
  have lo := hD.info.lo
  have hi8 := hD.info.hi
  refine ⟨_, rfl, _, rfl, _, rfl, l, _, rfl, .inl (SqL.of D1.info.own), b, (xs.length : Int), m + (it d - 2), (by rw [List.length_map]; rfl), B1.less (by omega), by omega, by omega, fun z H2 k2 B2 z0 z1 => ?_⟩
  obtain ⟨xb, hxb, ex⟩ := str_at z0 z1
  have D2 := D1.kept B1 k2
  have kk2 := k1.trans k2
  refine ⟨l, _, _, _, rfl, rfl, SqL.of D2.info.own, ex, _, _, rfl, ?_⟩
  refine ⟨_, rfl, _, _, rfl, rfl, _, rfl, itD (fun c => ?_) (fun c => itF rfl (leaf2 _ H2 kd xb rfl kk2 B2 hxb))⟩
  refine ⟨_, rfl, _, _, rfl, rfl, _, rfl, itD (fun c2 => ?_) (fun c2 => leaf2 _ H2 kd xb rfl kk2 B2 hxb)⟩
  obtain ⟨e, rfl⟩ : ∃ e, d = e + 1 := ⟨d - 1, by omega⟩
  have ei : it (e + 1) = 30 + 2 * cs e := rfl
  have i1 : (((e + 1 : Nat) : Int)) - 1 = ((e : Nat) : Int) := by omega
  refine ⟨_, rfl, _, rfl, _, rfl, _, _, rfl, rfl, _, rfl, b, i, L, l, lw, e, m + (27 + cs e), k, xs, low, fst, mo, tu, (by rw [← i1]; rfl), by omega, B2.less (by omega), D2, fun p bd H3 k' g3 B3 hL3 at3 ok3 len3 dp3 tot3 => ?_⟩
  have D3 := D2.k2 B2 g3 hL3
  refine ⟨_, rfl, _, rfl, b, i, l, lw, 1, m + cs e, xs, low, fst, mo, tu, rfl, by decide, B3.less (by omega), D3.info, fun vt ts H4 k4 B4 a1 a2 a3 => ?_⟩
  have D4 := D3.kept B3 k4
  refine ⟨_, rfl, _, rfl, _, rfl, _, rfl, _, _, rfl, rfl, _, rfl, b, i, L, l, lw, e, m, k', xs, low, fst, mo, tu, (by rw [← i1]; rfl), by omega, B4, D4, fun p2 bd2 H5 k2' g5 B5 hL5 at5 ok5 len5 dp5 tot5 => ⟨(by show 4 ≤ sizeLine; omega), fun p5 n5 => ?_⟩⟩
  have s5 := same_new n5 (.tup [.str "if", vt, .ref p, .ref p2])
  have t5 := g5.tups B4 D4.left
  obtain ⟨us, u1, u2⟩ := ((at3.keep (B3.tups k4)).keep t5).keep (Same.tups s5)
  obtain ⟨ws, w1, w2⟩ := at5.keep (Same.tups s5)
  refine q (.ref p5) (.ifs ts bd bd2) _ k2' (K2.trans (.of kk2) (g3.trans (K2.trans (.of k4) (g5.trans (.of (.of s5)))))) (B5.keep s5) (s5 _ _ hL5) (by unfold SgAt; exact ⟨p5, vt, p, p2, us, ws, rfl, upd_same, (a1.keep t5).keep (Same.tups s5), u1, u2, w1, w2⟩)
    (by unfold Sg.ok; exact ⟨Ts.right_of a3 (by omega), ⟨ok3, by omega⟩, ok5, by omega⟩) (by unfold Sg.dp; omega) (by unfold Sg.tot; omega)
end
end Any
set_option pp.maxSteps 600
namespace Any
open L2 PySem PySem.Spec PyProof.Rows LamX NdefX
abbrev sSteps : Stmt := top 96
abbrev nmSteps : List Str := ["_law_bag_here", "_law_info", "_law_deep", "_law_left", "_law_found", "_law_turn"]
theorem scSteps : FnScope nmSteps psSt (defScope sSteps) := ⟨rfl, rfl, rfl, by decide +kernel, rfl, by decide +kernel, by decide +kernel⟩
section
variable {P : Program} {w : World} {K : PySem.W.Frag} {mg : Str → Option Value} {base : Heap} {f : Addr} {fd : FuncData}
theorem no_steps {k : Nat} : FnOk P w K mg base CX0 k f fd psSt (spSteps 0) := by
  have no : ∀ vs H Q E, ¬ spSteps 0 vs H Q E := fun vs H Q E h => by
    obtain ⟨b, i, L, l, lw, d, m, k, xs, low, fst, mo, tu, _, hd, _⟩ := h
    omega
  exact ⟨fun vs H Q E h => absurd h (no vs H Q E), fun A outer s H args us vs Q E _ _ _ _ h => absurd h (no vs H Q E)⟩
theorem ok_steps {n : Nat} (mr : mg "range" = none) (mt : mg "tuple" = none) (F : Fun K "_law_steps" "_law_steps" sSteps f fd) (DT : Df P w K mg base 1 "_law_take" psTk spTake) (G : Df P w K mg base (2 * n + 6) "_law_step" psSt (spStep n)) : FnOk P w K mg base CX0 (2 * n + 7) f fd psSt (spSteps (n + 1)) := by
  refine F.ok scSteps (fun vs H Q E h => ?_) (fun cdv A outer s H vs Q E hr h => ?_)
  · obtain ⟨b, i, L, l, lw, d, m, k, xs, low, fst, mo, tu, rfl, _⟩ := h
    rfl
  obtain ⟨b, i, L, l, lw, d, m, k, xs, low, fst, mo, tu, rfl, hd, hB, hD, q⟩ := h
  have hs : sizeLine = 16777216 := sizeLine_eq
  have hr1 := hr.mono (show 1 ≤ 2 * n + 6 by omega)
  have ecs := cs_it d
  have tu1 := hD.tu1
  have tu7 := hD.tu7
  refine ⟨_, pss_cons (ps_set (i := 4) scSteps.nd rfl (Or.inl rfl) (pe_lst pa_nil))
    (pss_cons (ps_for PassesOwn.never rfl (pi_range1 rfl mr (pa_cons (pe_D DT hr1 rfl (pa_cons (pv 0) (pa_cons (pe_ix ix_tup (pv 1) pe_int (fun _ _ => rfl)) pa_nil))) pa_nil)) (pg_name (i := 5) scSteps.nd rfl (Or.inl rfl))
      (pss_one (ps_if (pt_cmpR op_gt (pe_ix ix_list (pv 3) pe_int (fun _ _ => rfl)) pe_int (nomark _))
        (pss_cons (ps_asg (pe_op op_sub (pe_ix ix_list (pv 3) pe_int (fun _ _ => rfl)) pe_int) (pg_sub (pv 3) pe_int set_list))
        (pss_one (ps_expr (pe_bm PySem.F.plainAttrs_list PySem.F.slot_list_append PySem.F.type_list_append mt_append (pv 4) (pa_cons (pe_D G hr rfl (pa_cons (pv 0) (pa_cons (pv 1) (pa_cons (pv 2) (pa_cons (pv 3) pa_nil))))) pa_nil))))) pss_nil)))
    (pss_one (ps_ret (pe_callTy call_tuple_of rfl mt (by decide +kernel) (pa_cons (pv 4) pa_nil))))), ?_⟩
  refine ⟨(by show 0 ≤ sizeLine; omega), fun F nF => ?_⟩
  have s0 := same_new nF (.lst [])
  have D0 := hD.kept hB (.of s0)
  have bF : F ≠ b := hB.ne nF
  have LF : F ≠ L := fun z => by rw [z, hD.left] at nF; cases nF
  refine ⟨_, rfl, _, rfl, _, _, _, _, rfl, rfl, SqT.of D0.info.at_, atI_nat (j := 4) rfl, b, tu, m + 6 * it d, rfl, (hB.keep s0).less (by omega), by omega, by omega, fun cnt H1 k1 B1 c0 c1 => ⟨cnt, rfl, by omega, by omega, ?_⟩⟩
  have D1 := D0.kept (hB.keep s0) k1
  have eF1 := k1 _ _ bF (@upd_same H F (.lst []))
  have kk1 : Kept b H H1 := (Kept.of s0).trans k1
  refine for_range (lo := 0) (fun j σ Hc => ∃ (ss : List Sg) (vs : List V) (y : Option V) (k' : Nat), σ = [some (.ref b), some (.ref i), some (.int d), some (.ref L), some (.ref F), y] ∧ Hc F = some (.lst vs) ∧ Paired (SgAt Hc) vs ss ∧ ss.length ≤ j ∧
    (∀ sg ∈ ss, sg.ok xs (wsOf fst) low ∧ sg.dp ≤ d + 1) ∧ (ss.map Sg.tot).sum + k' ≤ k ∧ Hc L = some (.lst [.int k']) ∧ Bag Hc b (m + (6 - j) * it d) ∧ K2 b L H Hc)
    ⟨[], [], none, k, rfl, eF1, .nil, Nat.le_refl _, (fun sg hg => by cases hg), by show 0 + k ≤ k; omega, D1.left, B1, .of kk1⟩ ?_ ?_
  · rintro j σ Hc hj ⟨ss, vs, y, k', rfl, eF, hp, hlen, hok, htot, eL, Bc, g⟩
    have Dc := hD.k2 hB g eL
    obtain ⟨e, he⟩ : ∃ e, 6 - j = e + 1 := ⟨5 - j, by omega⟩
    have he2 : 6 - (j + 1) = e := by omega
    rw [he, Nat.succ_mul] at Bc
    refine ⟨_, rfl, L, _, _, _, rfl, rfl, SqL.of eL, atI_nat (j := 0) rfl, _, _, rfl, rfl, _, rfl, itD (fun c => ?_) (fun c => ?_)⟩
    · obtain ⟨k0, rfl⟩ : ∃ k0, k' = k0 + 1 := ⟨k' - 1, by omega⟩
      have ek : (((k0 + 1 : Nat) : Int)) - 1 = (k0 : Int) := by omega
      refine ⟨_, rfl, L, _, _, _, rfl, rfl, SqL.of eL, atI_nat (j := 0) rfl, _, _, rfl, rfl, _, rfl, L, _, _, 0, rfl, rfl, eL, rfl, ?_⟩
      have eset : ([V.int ((k0 + 1 : Nat) : Int)].set 0 (.int ((((k0 + 1 : Nat) : Int)) - 1))) = [V.int (k0 : Int)] := by rw [ek]; rfl
      have gp : K2 b L Hc (upd Hc L (.lst ([V.int ((k0 + 1 : Nat) : Int)].set 0 (.int ((((k0 + 1 : Nat) : Int)) - 1))))) := .put
      have eLp : upd Hc L (.lst ([V.int ((k0 + 1 : Nat) : Int)].set 0 (.int ((((k0 + 1 : Nat) : Int)) - 1)))) L = some (.lst [.int (k0 : Int)]) := by rw [upd_same, eset]
      have Bp : Bag (upd Hc L (.lst ([V.int ((k0 + 1 : Nat) : Int)].set 0 (.int ((((k0 + 1 : Nat) : Int)) - 1))))) b (m + (e * it d + it d)) := Bc.put hD.nL.symm
      have eFp : upd Hc L (.lst ([V.int ((k0 + 1 : Nat) : Int)].set 0 (.int ((((k0 + 1 : Nat) : Int)) - 1)))) F = some (.lst vs) := by rw [upd_ne LF]; exact eF
      have tp := gp.tups Bc eL
      generalize upd Hc L (.lst ([V.int ((k0 + 1 : Nat) : Int)].set 0 (.int ((((k0 + 1 : Nat) : Int)) - 1)))) = Hp at *
      have Dp := Dc.k2 Bc gp eLp
      refine ⟨_, rfl, .inl ⟨rfl, _, SqL.of eFp⟩, ?_⟩
      refine ⟨_, rfl, _, rfl, _, rfl, _, rfl, b, i, L, l, lw, d, m + e * it d, k0, xs, low, fst, mo, tu, rfl, by omega, Bp.less (by omega), Dp, fun v sg H9 k9 g9 B9 eL9 hv o1 o2 o3 => ?_⟩
      have eF9 := g9 _ _ bF LF eFp
      have t9 := g9.tups Bp eLp
      have tF : Tups H9 (upd H9 F (.lst (vs ++ [v]))) := fun a' ts ha => by
        rw [upd_ne (ne_of ha eF9 (by intro z; cases z))]
        exact ha
      have hvs := paired_len hp
      refine ⟨F, vs, _, rfl, rfl, eF9, by omega, ss ++ [sg], vs ++ [v], _, k9, rfl, upd_same, ?_, by rw [List.length_append]; show ss.length + 1 ≤ j + 1; omega, fun g' hg => ?_, ?_, ?_, ?_, ?_⟩
      · exact p_snoc (paired_imp (fun _ _ z => SgAt.keep tF _ (SgAt.keep t9 _ (SgAt.keep tp _ z))) hp) (SgAt.keep tF _ hv)
      · rcases List.mem_append.mp hg with hg | hg
        · exact hok g' hg
        · rw [List.mem_singleton.mp hg]
          exact ⟨o1, o2⟩
      · rw [List.map_append, List.sum_append]
        show _ + (sg.tot + 0) + k9 ≤ k
        omega
      · rw [upd_ne LF.symm]
        exact eL9
      · rw [he2]
        exact B9.put bF.symm
      · intro a' o' n1 n2 ha
        rw [upd_ne (fun z => by rw [z, nF] at ha; cases ha)]
        exact (gp.trans g9) _ _ n1 n2 (g _ _ n1 n2 ha)
    · refine ⟨ss, vs, _, k', rfl, eF, hp, by omega, hok, htot, eL, ?_, g⟩
      rw [he2]
      exact Bc.less (by omega)
  · rintro σ Hc ⟨ss, vs, y, k', rfl, eF, hp, hlen, hok, htot, eL, Bc, g⟩
    refine ⟨_, rfl, F, _, rfl, .inl ⟨SqL.of eF, fun p np => ?_⟩⟩
    have sp := same_new np (.tup vs)
    refine q p (Bd.of ss) _ k' (g.trans (.of (.of sp))) ((Bc.keep sp).less (by omega)) (sp _ _ eL) ⟨vs, upd_same, of_at (paired_imp (fun _ _ z => SgAt.keep (Same.tups sp) _ z) hp)⟩ (of_ok fun sg hg => (hok sg hg).1) (by rw [of_len]; omega) (of_dp fun sg hg => (hok sg hg).2) ?_
    rw [of_tot]
    exact htot
theorem all_steps_ (mr : mg "range" = none) (mt : mg "tuple" = none) (ml : mg "len" = none) (NS : Nd K mg "_law_steps" sSteps psSt) (N1 : Nd K mg "_law_step" sStep psSt) (DT : Df P w K mg base 1 "_law_take" psTk spTake) (DX : Df P w K mg base 4 "_law_expression" psE (spExpr 3)) (DS : Df P w K mg base 5 "_law_test" psE (spTest 2)) :
    ∀ n : Nat, Df P w K mg base (2 * n + 5) "_law_steps" psSt (spSteps n)
  | 0 => by
    obtain ⟨f, fd, h1, h2, h3⟩ := NS
    exact ⟨f, fd, h1, h2.kp, no_steps, h3⟩
  | n + 1 => by
    have G := all_steps_ mr mt ml NS N1 DT DX DS n
    have S : Df P w K mg base (2 * n + 6) "_law_step" psSt (spStep n) := by
      obtain ⟨f, fd, h1, h2, h3⟩ := N1
      exact ⟨f, fd, h1, h2.kp, ok_step ml h2 DT DX DS G, h3⟩
    obtain ⟨f, fd, h1, h2, h3⟩ := NS
    exact ⟨f, fd, h1, h2.kp, ok_steps mr mt h2 DT S, h3⟩
end
end Any
set_option pp.maxSteps 600
namespace Any
open L2 PySem PySem.Spec PyProof.Rows LamX NdefX
/-! ### drawn rooms: how they are made, what is told of them -/
section
variable (P : Program) (w : World) (K : PySem.W.Frag) (mg : Str → Option Value) (base : Heap)
/-- a class called with keywords -/
def MkK (k : Nat) (x : Str) (C : Addr) (n : Nat) (ps ks : List Str) (gV : List V → List V → List V) (sp : Sp) : Prop := ∃ f fd g, mg x = some (.ref C) ∧ Mk K C f ∧ FnOk P w K mg base CX0 k f fd ps sp ∧ KBn K fd ps (n + 1) ks g gV
end
theorem pe_CK {X : Cx} {k n : Nat} {x : Str} {C : Addr} {ps ks : List Str} {sp : Sp} {p pos : Pos} {e : Expr} {es : List Expr} {t tk : TA} {kws : List Keyword} {gV : List V → List V → List V} (D : MkK X.prog X.w X.K X.mg X.base k x C n ps ks gV sp) (hr : Room (k + 1) X.A) (hg : Gl X x) (ha : PA X (e :: es) t) (hkw : PK X kws tk)
    (hall : (backToKw pos (keywordEach kws X.env)).all (·.1.isSome) = true := by rfl) (hks : (backToKw pos (keywordEach kws X.env)).filterMap (·.1) = ks := by rfl) (hdb : (x == ("__debug__" : Str)) = false := by decide)
    (he : starEach (e :: es) X.env = (false, eval e X.env) :: starEach es X.env := by rfl) (hpl : ((backTo pos (starEach (e :: es) X.env)).any (·.1) || (backToKw pos (keywordEach kws X.env)).any (·.1.isNone)) = false := by rfl) :
    PE X (.Call (.Name x p) (e :: es) kws pos) (tMakeK C n ks.length sp gV E0 t tk) := by
  obtain ⟨f, fd, g, hm, M, F, hb⟩ := D
  exact pe_makeK M F hr hg hm hb pass0 ha hkw hall hks hdb he hpl
abbrev ks7 : List Str := ["above", "boxes", "sayings", "ask", "told", "promise", "body"]
abbrev ks3 : List Str := ["boxes", "sayings", "body"]
/-- how rooms are made -/
structure RoomM (P : Program) (w : World) (K : PySem.W.Frag) (mg : Str → Option Value) (base : Heap) (C : Addr) : Prop where
  k7 : MkK P w K mg base 1 "Room" C 1 psRI ks7 (fun vs zs => vs ++ zs) (spRInit C)
  k3 : MkK P w K mg base 1 "Room" C 1 psRI ks3 (fun vs zs => vs ++ [.str ""] ++ zs.take 2 ++ [.non, .non, .non] ++ zs.drop 2) (spRInit C)
/-- boxes drawn so -/
structure Boxes (names : List Str) (cr : List (Str × Int × Int)) : Prop where
  nm : cr.map (·.1) = names
  nd : names.Nodup
  all : ∀ x ∈ names, Nm x
  asc : sortedS names = true
  len : names.length ≤ 4
  some : 1 ≤ names.length
  crate : ∀ c ∈ cr, (1 ≤ c.2.1 ∧ c.2.1 ≤ 40) ∧ (0 ≤ c.2.2 ∧ c.2.2 ≤ c.2.1 - 1)
/-- the number of a box among boxes of unlike names -/
theorem look_nd : ∀ {bs : List (Str × Int × Int)}, (bs.map (·.1)).Nodup → ∀ c ∈ bs, look (bs.map fun b => (b.1, b.2.2)) c.1 = some c.2.2
  | [], _, c, h => by cases h
  | b :: r, nd, c, h => by
    rw [List.map_cons, List.nodup_cons] at nd
    unfold look
    rw [List.map_cons, List.find?_cons]
    rcases List.mem_cons.mp h with e | h
    · rw [e, decide_eq_true (show b.1 = b.1 from rfl)]
      rfl
    · have ne : ¬ b.1 = c.1 := fun z => nd.1 (by rw [z]; exact List.mem_map.mpr ⟨c, h, rfl⟩)
      rw [decide_eq_false (show ¬ (b.1, b.2.2).1 = c.1 from ne)]
      exact look_nd nd.2 c h
/-- the two sayings that may be drawn, of the first box -/
def says2 (c : Str × Int × Int) : List Ts := [.is (.box c.1) (.num c.2.2), .bel (.num 0) (.num 1)]
structure Drawn (nick up : Str) (low : List Str) (r : Rm) : Prop where
  name : r.name = nick
  above : r.above = up
  boxes : r.boxesOk
  asc : sortedS r.bn = true
  says : r.saysOk
  first : up = "" → r.firstOk ∧ r.body.right r.bn [] low
  other : up ≠ "" → r.otherOk ∧ r.body.right r.bn ["asked"] low
theorem Boxes.parts {names : List Str} {cr : List (Str × Int × Int)} (h : Boxes names cr) {c : Str × Int × Int} (hc : c ∈ cr) {j : Nat} {n a : Str} {k : Option Int} {o : Option (Int × Ex)} {p : Option Ts} {y : Bd} :
    (Rm.mk n a cr ((says2 c).take j) k o p y).boxesOk ∧ sortedS (Rm.mk n a cr ((says2 c).take j) k o p y).bn = true ∧ (Rm.mk n a cr ((says2 c).take j) k o p y).saysOk ∧ (Rm.mk n a cr ((says2 c).take j) k o p y).bn = names := by
  have hl : cr.length = names.length := by rw [← h.nm, List.length_map]
  have h1 := h.len
  have e : (Rm.mk n a cr ((says2 c).take j) k o p y).bn = names := h.nm
  have hin : ∀ b ∈ cr, b.1 ∈ names := fun b hb => by
    rw [← h.nm]
    exact List.mem_map.mpr ⟨b, hb, rfl⟩
  have hcr := h.crate c hc
  refine ⟨⟨by show cr.length ≤ 4; omega, fun b hb => ⟨h.all _ (hin b hb), h.crate b hb⟩, by rw [e]; exact h.nd⟩, by rw [e]; exact h.asc, ⟨?_, fun t ht => ?_⟩, e⟩
  · show ((says2 c).take j).length ≤ 4
    rw [List.length_take]
    show min j 2 ≤ 4
    omega
  · have ht : t ∈ says2 c := List.mem_of_mem_take ht
    rw [e]
    rcases List.mem_cons.mp ht with rfl | ht
    · refine ⟨⟨⟨hin c hc, by omega, by omega⟩, (by show 2 ≤ 5; decide), (by show 3 ≤ 16; decide)⟩, ?_⟩
      have lk := look_nd (bs := cr) (by rw [h.nm]; exact h.nd) c hc
      show decide ((look (cr.map fun b => (b.1, b.2.2)) c.1).getD 0 = c.2.2) = true
      rw [lk]
      exact decide_eq_true rfl
    · rw [List.mem_singleton.mp ht]
      exact ⟨⟨⟨⟨by decide, by decide⟩, by decide, by decide⟩, by decide, by decide⟩, rfl⟩
abbrev sRoom : Stmt := top 97
abbrev psRm : List Str := ["_law_bag_here", "_law_nick", "_law_upper", "_law_lower", "_law_sizes"]
abbrev nmRm : List Str := ["_law_bag_here", "_law_nick", "_law_upper", "_law_lower", "_law_sizes", "_law_nicks_here", "_law_own", "_law_one", "_law_most", "_law_info", "_law_laws", "_law_some", "_law_steps_here", "_law_top", "_law_says", "_law_vow", "_law_asks"]
theorem scRm : FnScope nmRm psRm (defScope sRoom) := ⟨rfl, rfl, rfl, by decide +kernel, rfl, by decide +kernel, by decide +kernel⟩
/-- the boxes, in a list -/
def CrL (H : Hp) (O : Addr) (cr : List (Str × Int × Int)) : Prop := ∃ as : List Addr, H O = some (.lst (as.map V.ref)) ∧ Paired (fun (a : Addr) (x : Str × Int × Int) => H a = some (.tup [.str x.1, .int x.2.1, .int x.2.2])) as cr
theorem CrL.kept {H H' : Hp} {b O : Addr} {cr : List (Str × Int × Int)} {n : Nat} (h : CrL H O cr) (B : Bag H b n) (k : Kept b H H') (ne : O ≠ b) : CrL H' O cr := by
  obtain ⟨as, h1, h2⟩ := h
  exact ⟨as, k _ _ ne h1, paired_imp (fun _ _ y => B.tups k _ _ y) h2⟩
section
variable {P : Program} {w : World} {K : PySem.W.Frag} {mg : Str → Option Value} {base : Heap} {f : Addr} {cdv : Value} {A : Around} {outer : List Env} {s : Shared} {H : Hp} {E : XK}
abbrev XRm (P : Program) (w : World) (K : PySem.W.Frag) (mg : Str → Option Value) (base : Heap) (f : Addr) (cdv : Value) (A : Around) (outer : List Env) (s : Shared) (H : Hp) (E : XK) : Cx := (cxOf CX0 P w K mg base nmRm "_law_room" (defScope sRoom) f cdv A outer s H E).nox
set_option maxHeartbeats 4000000 in
theorem room_end {C : Addr} (O : Own mg) (M : RoomM P w K mg base C) (DT : Df P w K mg base 1 "_law_take" psTk spTake) (DX : Df P w K mg base 3 "_law_expression" psE (spExpr 2)) (hr : Room 12 (XRm P w K mg base f cdv A outer s H E).A) : ∃ t7, PSs (XRm P w K mg base f cdv A outer s H E) ((defBody sRoom).drop 7) t7 ∧
    ∀ (D : Ends) (H9 : Hp) (b lw S N Ow I LW SM BD : Addr) (nick up : Str) (names low : List Str) (mo tu : Int) (cr : List (Str × Int × Int)) (c : Str × Int × Int) (j : Nat) (bd : Bd) (z7 z8 : Option V) (m : Nat) (Q : VK),
      D.rt = Q → Bag H9 b (m + 9) → InfoAt H9 b I names (decide (V.str up = V.str "")) low mo tu N lw → CrL H9 Ow cr → Ow ≠ b → SaysAt H9 SM ((says2 c).take j) → BdAt H9 BD bd → Boxes names cr → c ∈ cr → bd.right names (wsOf (decide (V.str up = V.str ""))) low →
      (∀ a r H', Kept b H9 H' → Bag H' b m → RmAt C H' a r → Drawn nick up low r → Q (.ref a) H') →
      t7 D [some (.ref b), some (.str nick), some (.str up), some (.ref lw), some (.ref S), some (.ref N), some (.ref Ow), z7, z8, some (.ref I), some (.ref LW), some (.ref SM), some (.ref BD), none, none, none, none] H9 := by
  have hr1 := hr.mono (show 1 ≤ 12 by omega)
  have hr2 := hr.mono (show 1 + 1 ≤ 12 by omega)
  have hr3 := hr.mono (show 3 ≤ 12 by omega)
  have hs : sizeLine = 16777216 := sizeLine_eq
  have c1 : ce 1 = 6 := rfl
  refine ⟨_, pss_cons (ps_if (pt_cmpR op_eq (pv 2) pe_str (nomark _)) (pss_one (ps_ret (pe_CK M.k3 hr2 rfl (pa_cons (pv 1) pa_nil) (pk_cons (pe_callTy call_tuple_of rfl O.tuple (by decide +kernel) (pa_cons (pv 6) pa_nil)) (pk_cons (pv 11) (pk_cons (pv 12) pk_nil)))))) pss_nil)
    (pss_cons (ps_set (i := 13) scRm.nd rfl (Or.inl rfl) (pe_op op_add pe_int (pe_D DT hr1 rfl (pa_cons (pv 0) (pa_cons pe_int pa_nil)))))
    (pss_cons (ps_set (i := 14) scRm.nd rfl (Or.inl rfl) (pe_tup (pa_cons (pv 13) (pa_cons (pe_D DX hr3 rfl (pa_cons (pv 0) (pa_cons (pv 9) (pa_cons pe_int pa_nil)))) pa_nil))))
    (pss_cons (ps_set (i := 15) scRm.nd rfl (Or.inl rfl) (pe_ix ix_list (pe_lst (pa_cons pe_non (pa_cons (pe_tup (pa_cons pe_str (pa_cons (pe_tup (pa_cons pe_str pa_nil)) (pa_cons (pe_tup (pa_cons pe_str (pa_cons (pv 13) pa_nil))) pa_nil)))) pa_nil))) (pe_D DT hr1 rfl (pa_cons (pv 0) (pa_cons pe_int pa_nil))) (fun _ _ => rfl)))
    (pss_cons (ps_set (i := 16) scRm.nd rfl (Or.inl rfl) (pe_op op_add pe_int (pe_D DT hr1 rfl (pa_cons (pv 0) (pa_cons pe_int pa_nil)))))
    (pss_one (ps_ret (pe_CK M.k7 hr2 rfl (pa_cons (pv 1) pa_nil) (pk_cons (pv 2) (pk_cons (pe_callTy call_tuple_of rfl O.tuple (by decide +kernel) (pa_cons (pv 6) pa_nil)) (pk_cons (pv 11) (pk_cons (pv 16) (pk_cons (pv 14) (pk_cons (pv 15) (pk_cons (pv 12) pk_nil)))))))))))))), ?_⟩
  intro D H9 b lw S N Ow I LW SM BD nick up names low mo tu cr c j bd z7 z8 m Q eD hB hI hC hOb hS hd hk hc hb q
  have made : ∀ {H0 : Hp} {x dx : Addr} {n a b' s' k t p y : V}, H0 x = none → H0 dx = none → Same H0 (upd (upd (upd H0 dx (.own x)) x (.ins C dx [])) x (.ins C dx (roomF n a b' s' k t p y))) := fun {H0 x dx n a b' s' k t p y} hx hdx c o hc => by
    rw [upd_ne (ne_of_none hc hx), upd_ne (ne_of_none hc hx), upd_ne (ne_of_none hc hdx)]
    exact hc
  refine ⟨_, rfl, rfl, _, rfl, itD (fun e0 => ?_) (fun e0 => ?_)⟩
  · have eu : up = "" := V.str.inj e0
    rw [decide_eq_true e0] at hb hI
    obtain ⟨as, hO, pO⟩ := hC
    refine ⟨_, rfl, _, rfl, Ow, _, rfl, .inl ⟨SqL.of hO, fun p1 n1 => ?_⟩⟩
    have s1 := same_new n1 (.tup (as.map V.ref))
    refine ⟨_, rfl, _, rfl, rfl, rfl, fun x dx hx hdx ne => ?_⟩
    refine ⟨x, dx, .str nick, .str "", .ref p1, .ref SM, .non, .non, .non, .ref BD, rfl, upd_same, rfl, ?_⟩
    have s2 := s1.trans (made (n := .str nick) (a := .str "") (b' := .ref p1) (s' := .ref SM) (k := .non) (t := .non) (p := .non) (y := .ref BD) hx hdx)
    have t := Same.tups s2
    obtain ⟨b1, b2, b3, b4⟩ := hk.parts hc (j := j) (n := nick) (a := up) (k := none) (o := none) (p := none) (y := bd)
    rw [eD]
    refine q x (Rm.mk nick up cr ((says2 c).take j) none none none bd) _ (.of s2) ((hB.keep s2).less (by omega)) ⟨dx, .str nick, .str "", .ref p1, .ref SM, .non, .non, .non, .ref BD, upd_same, ?_⟩ ⟨rfl, rfl, b1, b2, b3, fun _ => ⟨⟨rfl, rfl, rfl⟩, by rw [b4]; exact hb⟩, fun h => absurd eu h⟩
    exact ⟨rfl, by rw [eu], ⟨p1, rfl, as, (made hx hdx) _ _ upd_same, paired_imp (fun _ _ y => t _ _ y) pO⟩, ⟨SM, rfl, hS.keep t⟩, rfl, rfl, rfl, ⟨BD, rfl, hd.keep t⟩⟩
  · have eu : up ≠ "" := fun z => e0 (by rw [z])
    rw [decide_eq_false e0] at hb hI
    refine ⟨_, rfl, b, 40, m + 8, rfl, hB, by decide, by decide, fun d1 H1 k1 B1 d10 d11 => ⟨_, _, rfl, rfl, ?_⟩⟩
    have I1 := hI.kept hB k1
    refine ⟨_, rfl, _, rfl, _, rfl, b, I, N, lw, 1, m + 2, names, low, false, mo, tu, rfl, by decide, B1, I1, fun ve ee H2 k2 B2 a1 a2 a3 => ⟨(by show 2 ≤ sizeLine; omega), fun p2 n2 => ?_⟩⟩
    have s2 := same_new n2 (.tup [.int (1 + d1), ve])
    refine ⟨(by show 1 ≤ sizeLine; omega), fun p3 n3 => ⟨_, rfl, (by show 2 ≤ sizeLine; omega), fun p4 n4 => ⟨(by show 3 ≤ sizeLine; omega), fun p5 n5 => ⟨(by show 2 ≤ sizeLine; omega), fun p6 n6 => ?_⟩⟩⟩⟩
    have s3 := same_new n3 (.tup [.str "told"])
    have s4 := same_new n4 (.tup [.str "number", .int (1 + d1)])
    have s5 := same_new n5 (.tup [.str "below", .ref p3, .ref p4])
    have s6 := same_new n6 (.lst [.non, .ref p5])
    have tv : TsAt _ (.ref p5) (.bel .told (.num (1 + d1))) := .bel (s6 _ _ (@upd_same _ p5 (.tup [.str "below", .ref p3, .ref p4]))) (.told ((s4.trans (s5.trans s6)) _ _ upd_same)) (.num ((s5.trans s6) _ _ upd_same))
    have s26 := s2.trans (s3.trans (s4.trans (s5.trans s6)))
    have h2' := (s3.trans (s4.trans (s5.trans s6))) p2 _ upd_same
    have h6' := @upd_same (upd (upd (upd (upd H2 p2 (.tup [.int (1 + d1), ve])) p3 (.tup [.str "told"])) p4 (.tup [.str "number", .int (1 + d1)])) p5 (.tup [.str "below", .ref p3, .ref p4])) p6 (.lst [.non, .ref p5])
    generalize upd (upd (upd (upd (upd H2 p2 (.tup [.int (1 + d1), ve])) p3 (.tup [.str "told"])) p4 (.tup [.str "number", .int (1 + d1)])) p5 (.tup [.str "below", .ref p3, .ref p4])) p6 (.lst [.non, .ref p5]) = H6 at *
    have B6 := B2.keep s26
    refine ⟨_, rfl, b, 2, m + 1, rfl, B6, by decide, by decide, fun d2 H7 k7 B7 d20 d21 => ?_⟩
    have vow : ∃ (v : V) (o : Option Ts), atI [V.non, V.ref p5] d2 = some v ∧ VowAt H7 v o ∧ ∀ t, o = some t → t.right [] ["asked", "told"] := by
      rcases two_at (x := V.non) (y := V.ref p5) d20 d21 with ei | ei
      · exact ⟨_, none, ei, rfl, fun t h => by cases h⟩
      · refine ⟨_, some (.bel .told (.num (1 + d1))), ei, tv.keep (B6.tups k7), fun t h => ?_⟩
        cases h
        exact ⟨⟨List.mem_cons_of_mem _ List.mem_cons_self, by omega, by omega⟩, (by show 2 ≤ 5; decide), (by show 3 ≤ 16; decide)⟩
    obtain ⟨vv, vo, ei, hvo, hvr⟩ := vow
    refine ⟨p6, _, _, _, rfl, rfl, SqL.of (k7 _ _ (fun z => by obtain ⟨ys, hy⟩ := B2.lst; rw [z] at n6; exact absurd ((s2.trans (s3.trans (s4.trans s5))) _ _ hy) (by rw [n6]; intro h; cases h)) h6'), ei, ?_⟩
    refine ⟨_, rfl, b, 40, m, rfl, B7, by decide, by decide, fun d3 H8 k8 B8 d30 d31 => ⟨_, _, rfl, rfl, ?_⟩⟩
    have kk : Kept b H9 H8 := k1.trans (k2.trans ((Kept.of s26).trans (k7.trans k8)))
    have k28 : Kept b H2 H8 := (Kept.of s26).trans (k7.trans k8)
    have k68 : Kept b H6 H8 := k7.trans k8
    obtain ⟨as, hO, pO⟩ := hC.kept hB kk hOb
    refine ⟨_, rfl, _, rfl, _, rfl, Ow, _, rfl, .inl ⟨SqL.of hO, fun p1 n1 => ?_⟩⟩
    have s1 := same_new n1 (.tup (as.map V.ref))
    refine ⟨_, rfl, _, rfl, _, rfl, _, rfl, _, rfl, rfl, rfl, fun x dx hx hdx ne => ?_⟩
    refine ⟨x, dx, .str nick, .str up, .ref p1, .ref SM, .int (1 + d3), .ref p2, vv, .ref BD, rfl, upd_same, rfl, ?_⟩
    have s9 := s1.trans (made (n := .str nick) (a := .str up) (b' := .ref p1) (s' := .ref SM) (k := .int (1 + d3)) (t := .ref p2) (p := vv) (y := .ref BD) hx hdx)
    have t9 := Same.tups s9
    have tk : Tups H9 _ := fun a ts h => t9 _ _ (hB.tups kk _ _ h)
    obtain ⟨b1, b2, b3, b4⟩ := hk.parts hc (j := j) (n := nick) (a := up) (k := some (1 + d3)) (o := some (1 + d1, ee)) (p := vo) (y := bd)
    rw [eD]
    refine q x (Rm.mk nick up cr ((says2 c).take j) (some (1 + d3)) (some (1 + d1, ee)) vo bd) _ (kk.trans (.of s9)) (B8.keep s9) ⟨dx, .str nick, .str up, .ref p1, .ref SM, .int (1 + d3), .ref p2, vv, .ref BD, upd_same, ?_⟩
      ⟨rfl, rfl, b1, b2, b3, fun h => absurd h eu, fun _ => ⟨⟨⟨_, rfl, by omega, by omega⟩, ⟨_, _, rfl, ⟨by omega, by omega⟩, by rw [b4]; exact Ex.right_of a3 (by omega)⟩, hvr⟩, by rw [b4]; exact hb⟩⟩
    exact ⟨rfl, rfl, ⟨p1, rfl, as, (made hx hdx) _ _ upd_same, paired_imp (fun _ _ y => t9 _ _ y) pO⟩, ⟨SM, rfl, hS.keep tk⟩, rfl, ⟨p2, ve, rfl, t9 _ _ (B6.tups k68 _ _ h2'), (a1.keep (B2.tups k28)).keep t9⟩, (by
      have := hvo.keep (H' := H8) (B7.tups k8)
      exact this.keep t9), ⟨BD, rfl, hd.keep tk⟩⟩
end
end Any
set_option pp.maxSteps 600
namespace Any
open L2 PySem PySem.Spec PyProof.Rows LamX NdefX
def spRoom (C : Addr) : Sp := fun vs H Q _ => ∃ (b lw S : Addr) (nick up : Str) (m d k : Nat) (low : List Str) (mo tu : Int), vs = [.ref b, .str nick, .str up, .ref lw, .ref S] ∧ Bag H b (m + (26 + cs d)) ∧ H lw = some (.lst (low.map V.str)) ∧ lw ≠ b ∧ low.length ≤ 8 ∧ (∀ r ∈ low, PyData.strOk r = true) ∧
  H S = some (.tup [.int mo, .int tu, .int (k : Int), .int (d : Int)]) ∧ d ≤ 3 ∧ (1 ≤ mo ∧ mo ≤ 9) ∧ (1 ≤ tu ∧ tu ≤ 7) ∧ k ≤ 30 ∧ ∀ (a : Addr) (r : Rm) (H' : Hp), Kept b H H' → Bag H' b m → RmAt C H' a r → Drawn nick up low r → Q (.ref a) H'
section
variable {P : Program} {w : World} {K : PySem.W.Frag} {mg : Str → Option Value} {base : Heap} {f C : Addr} {fd : FuncData}
set_option maxHeartbeats 4000000 in
theorem ok_room (O : Own mg) (ms : mg "sorted" = none) (F : Fun K "_law_room" "_law_room" sRoom f fd) (M : RoomM P w K mg base C) (DT : Df P w K mg base 1 "_law_take" psTk spTake) (DN : Df P w K mg base 2 "_law_nicks" psTk spNicks) (DX : Df P w K mg base 3 "_law_expression" psE (spExpr 2)) (DS : Df P w K mg base 13 "_law_steps" psSt (spSteps 4)) :
    FnOk P w K mg base CX0 14 f fd psRm (spRoom C) := by
  refine F.ok scRm (fun vs H Q E h => ?_) (fun cdv A outer s H vs Q E hr h => ?_)
  · obtain ⟨b, lw, S, nick, up, m, d, k, low, mo, tu, rfl, _⟩ := h
    rfl
  obtain ⟨b, lw, S, nick, up, m, d, k, low, mo, tu, rfl, hB, hlw, nlw, low8, lowk, hS, hd, ⟨mo1, mo9⟩, ⟨tu1, tu7⟩, hk, q⟩ := h
  have hs : sizeLine = 16777216 := sizeLine_eq
  have hr1 := hr.mono (show 1 ≤ 13 by decide)
  have hr2 := hr.mono (show 2 ≤ 13 by decide)
  obtain ⟨t7, ht7, fin⟩ := room_end (K := K) (base := base) (f := f) (cdv := cdv) (A := A) (outer := outer) (s := s) (H := H) (E := E) O M DT DX (hr.mono (show 12 ≤ 13 by decide))
  refine ⟨_, pss_cons (ps_set (i := 5) scRm.nd rfl (Or.inl rfl) (pe_callB cr_sortedS rfl ms (by decide +kernel) (pa_cons (pe_D DN hr2 rfl (pa_cons (pv 0) (pa_cons (pe_op op_add pe_int (pe_D DT hr1 rfl (pa_cons (pv 0) (pa_cons pe_int pa_nil)))) pa_nil))) pa_nil)))
    (pss_cons (ps_set (i := 6) scRm.nd rfl (Or.inl rfl) (pe_lst pa_nil))
    (pss_cons (ps_for PassesOwn.never rfl (pi_list (pv 5)) (pg_name (i := 7) scRm.nd rfl (Or.inl rfl))
      (pss_cons (ps_set (i := 8) scRm.nd rfl (Or.inl rfl) (pe_op op_add pe_int (pe_D DT hr1 rfl (pa_cons (pv 0) (pa_cons pe_int pa_nil)))))
      (pss_one (ps_expr (pe_bm PySem.F.plainAttrs_list PySem.F.slot_list_append PySem.F.type_list_append mt_append (pv 6) (pa_cons (pe_tup (pa_cons (pv 7) (pa_cons (pv 8) (pa_cons (pe_D DT hr1 rfl (pa_cons (pv 0) (pa_cons (pv 8) pa_nil))) pa_nil)))) pa_nil))))))
    (pss_cons (ps_set (i := 9) scRm.nd rfl (Or.inl rfl) (pe_tup (pa_cons (pv 5) (pa_cons (pe_cmpR op_eq (pv 2) pe_str (nomark _)) (pa_cons (pv 3) (pa_cons (pe_ix ix_tup (pv 4) pe_int (fun _ _ => rfl)) (pa_cons (pe_ix ix_tup (pv 4) pe_int (fun _ _ => rfl)) pa_nil)))))))
    (pss_cons (ps_set (i := 10) scRm.nd rfl (Or.inl rfl) (pe_lst (pa_cons (pe_tup (pa_cons pe_str (pa_cons (pe_tup (pa_cons pe_str (pa_cons (pe_ix ix_tup (pe_ix ix_list (pv 6) pe_int (fun _ _ => rfl)) pe_int (fun _ _ => rfl)) pa_nil)))
        (pa_cons (pe_tup (pa_cons pe_str (pa_cons (pe_ix ix_tup (pe_ix ix_list (pv 6) pe_int (fun _ _ => rfl)) pe_int (fun _ _ => rfl)) pa_nil))) pa_nil))))
      (pa_cons (pe_tup (pa_cons pe_str (pa_cons (pe_tup (pa_cons pe_str (pa_cons pe_int pa_nil))) (pa_cons (pe_tup (pa_cons pe_str (pa_cons pe_int pa_nil))) pa_nil)))) pa_nil))))
    (pss_cons (ps_set (i := 11) scRm.nd rfl (Or.inl rfl) (pe_callTy call_tuple_of rfl O.tuple (by decide +kernel) (pa_cons (pe_slice sl_list (pv 10) po_none (po_some (pe_D DT hr1 rfl (pa_cons (pv 0) (pa_cons pe_int pa_nil))))) pa_nil)))
    (pss_cons (ps_set (i := 12) scRm.nd rfl (Or.inl rfl) (pe_D DS hr rfl (pa_cons (pv 0) (pa_cons (pv 9) (pa_cons (pe_ix ix_tup (pv 4) pe_int (fun _ _ => rfl)) (pa_cons (pe_lst (pa_cons (pe_ix ix_tup (pv 4) pe_int (fun _ _ => rfl)) pa_nil)) pa_nil))))))
    ht7)))))), ?_⟩
  refine ⟨_, rfl, _, rfl, b, 3, m + (25 + cs d), rfl, hB.less (by omega), by decide, by decide, fun d1 H1 k1 B1 d10 d11 => ⟨_, _, rfl, rfl, ?_⟩⟩
  obtain ⟨mm, hmm⟩ : ∃ mm : Nat, 1 + d1 = (mm : Int) := ⟨(1 + d1).toNat, by omega⟩
  refine ⟨b, mm, m + (16 + cs d), (by rw [← hmm]; rfl), B1.less (by omega), by omega, by omega, fun p0 xs0 H2 np0 k2 B2 hp0 nk => ?_⟩
  have hhi := nk.hi
  refine ⟨p0, xs0, rfl, SqL.of hp0, by omega, fun names N pm srt hN => ?_⟩
  have sN := same_new hN (.lst (names.map V.str))
  have hN2 := @upd_same H2 N (.lst (names.map V.str))
  have bN : N ≠ b := B2.ne hN
  have B3 := B2.keep sN
  have k3 : Kept b H _ := k1.trans (k2.trans (.of sN))
  generalize upd H2 N (.lst (names.map V.str)) = H3 at *
  have ln : names.length = xs0.length := pm.length_eq
  have nlo := nk.lo
  refine ⟨(by show 0 ≤ sizeLine; omega), fun Ow nO => ?_⟩
  have sO := same_new nO (.lst [])
  have bO : Ow ≠ b := B3.ne nO
  have NO : N ≠ Ow := ne_of_none hN2 nO
  have nO0 : H Ow = none := kept_none hB k3 nO B3.lst
  refine ⟨_, rfl, N, rfl, ⟨_, SqL.of (sO _ _ hN2)⟩, ?_⟩
  refine for_list (K := K) (a := N) (xs := names.map V.str) (fun i σ Hc => ∃ (cr : List (Str × Int × Int)) (z7 z8 : Option V), σ = [some (.ref b), some (.str nick), some (.str up), some (.ref lw), some (.ref S), some (.ref N), some (.ref Ow), z7, z8, none, none, none, none, none, none, none, none] ∧
    cr.map (·.1) = names.take i ∧ CrL Hc Ow cr ∧ (∀ c ∈ cr, (1 ≤ c.2.1 ∧ c.2.1 ≤ 40) ∧ (0 ≤ c.2.2 ∧ c.2.2 ≤ c.2.1 - 1)) ∧ Bag Hc b (m + (10 + cs d) + 2 * (3 - i)) ∧ Kept b H Hc ∧ Hc N = some (.lst (names.map V.str)))
    ⟨[], none, none, rfl, rfl, ⟨[], upd_same, .nil⟩, (fun c hc => by cases hc), (B3.keep sO).less (by omega), k3.trans (.of sO), sO _ _ hN2⟩ ?_ ?_ ?_
  · rintro i σ Hc _ ⟨cr, z7, z8, rfl, _, _, _, _, _, h7⟩
    exact SqL.of h7
  · rintro i z σ Hc hz ⟨cr, z7, z8, rfl, c1, c2, c3, Bc, kc, hNc⟩
    rw [List.getElem?_map] at hz
    obtain ⟨x, hx, rfl⟩ := Option.map_eq_some_iff.mp hz
    have il := (List.getElem?_eq_some_iff.mp hx).1
    obtain ⟨e, he⟩ : ∃ e, 3 - i = e + 1 := ⟨2 - i, by omega⟩
    have he2 : 3 - (i + 1) = e := by omega
    rw [he] at Bc
    refine ⟨_, rfl, b, 40, m + (10 + cs d) + 2 * e + 1, rfl, Bc.less (by omega), by decide, by decide, fun d2 H4 k4 B4 d20 d21 => ⟨_, _, rfl, rfl, ?_⟩⟩
    have C4 := c2.kept Bc k4 bO
    obtain ⟨as4, hO4, _⟩ := id C4
    refine ⟨_, rfl, .inl ⟨rfl, _, SqL.of hO4⟩, ?_⟩
    refine ⟨_, rfl, _, rfl, _, rfl, _, rfl, b, 1 + d2, m + (10 + cs d) + 2 * e, rfl, B4, by omega, by omega, fun d3 H5 k5 B5 d30 d31 => ⟨(by show 3 ≤ sizeLine; omega), fun p np => ?_⟩⟩
    have sp := same_new np (.tup [.str x, .int (1 + d2), .int d3])
    obtain ⟨as5, hO5, pO5⟩ := C4.kept B4 k5 bO
    have lcr : as5.length = i := by
      have z1 := paired_len pO5
      have z2 := congrArg List.length c1
      rw [List.length_map, List.length_take] at z2
      omega
    refine ⟨Ow, as5.map V.ref, _, rfl, rfl, sp _ _ hO5, by rw [List.length_map]; omega, cr ++ [(x, 1 + d2, d3)], _, _, rfl, ?_, ⟨as5 ++ [p], by rw [upd_same, List.map_append]; rfl, ?_⟩, fun c hc => ?_, ?_, ?_, ?_⟩
    · rw [List.map_append, c1, List.take_add_one, hx]
      rfl
    · have tO : Tups H5 (upd (upd H5 p (.tup [.str x, .int (1 + d2), .int d3])) Ow (.lst (as5.map V.ref ++ [.ref p]))) := fun a' ts ha => by
        rw [upd_ne (ne_of ha hO5 (by intro z; cases z))]
        exact sp _ _ ha
      refine p_snoc (paired_imp (fun _ _ y => tO _ _ y) pO5) ?_
      show upd _ Ow _ p = _
      rw [upd_ne (ne_of_none hO5 np).symm]
      exact upd_same
    · rcases List.mem_append.mp hc with hc | hc
      · exact c3 c hc
      · rw [List.mem_singleton.mp hc]
        exact ⟨⟨by show 1 ≤ 1 + d2; omega, by show 1 + d2 ≤ 40; omega⟩, ⟨d30, by show d3 ≤ 1 + d2 - 1; omega⟩⟩
    · rw [he2]
      exact (B5.keep sp).put bO.symm
    · intro a' o' na ha
      rw [upd_ne (fun z => by rw [z, nO0] at ha; cases ha)]
      exact sp _ _ (k5 _ _ na (k4 _ _ na (kc _ _ na ha)))
    · rw [upd_ne NO]
      exact sp _ _ (k5 _ _ bN (k4 _ _ bN hNc))
  rintro σ Hc ⟨cr, z7, z8, rfl, c1, c2, c3, Bc, kc, hNc⟩
  rw [List.length_map] at c1 Bc
  rw [List.take_length] at c1
  have bx : Boxes names cr := ⟨c1, pm.nodup_iff.mpr nk.nd, fun x hx => nk.nm x (pm.mem_iff.mp hx), srt, by omega, by omega, c3⟩
  have Bc := Bc.less (show m + (10 + cs d) ≤ m + (10 + cs d) + 2 * (3 - names.length) by omega)
  have lcr : cr.length = names.length := by rw [← c1, List.length_map]
  obtain ⟨c, cr', ecr⟩ : ∃ c cr', cr = c :: cr' := by
    cases cr with
    | nil => simp at lcr; omega
    | cons c r => exact ⟨c, r, rfl⟩
  have hcm : c ∈ cr := by rw [ecr]; exact List.mem_cons_self
  -- info
  have hSc := hB.tups kc _ _ hS
  refine ⟨_, rfl, _, rfl, rfl, _, rfl, _, rfl, S, _, _, _, rfl, rfl, SqT.of hSc, atI_nat (j := 0) rfl, _, rfl, S, _, _, _, rfl, rfl, SqT.of hSc, atI_nat (j := 1) rfl, (by show 5 ≤ sizeLine; omega), fun I nI => ?_⟩
  have sI := same_new nI (.tup [.ref N, .bl (decide (V.str up = V.str "")), .ref lw, .int mo, .int tu])
  have hI : InfoAt _ b I names (decide (V.str up = V.str "")) low mo tu N lw := ⟨@upd_same Hc I (.tup [.ref N, .bl (decide (V.str up = V.str "")), .ref lw, .int mo, .int tu]), sI _ _ hNc, bN, sI _ _ (kc _ _ nlw hlw), nlw, by omega, by omega, low8⟩
  have C5 := c2.kept Bc (.of sI) bO
  have B5 := Bc.keep sI
  have k5 : Kept b H _ := kc.trans (.of sI)
  have hS5 := sI _ _ hSc
  clear sI
  generalize upd Hc I (.tup [.ref N, .bl (decide (V.str up = V.str "")), .ref lw, .int mo, .int tu]) = H5 at *
  -- the sayings
  obtain ⟨as, hO, pO⟩ := id C5
  rw [ecr] at pO
  obtain ⟨a0, as', eas, hat, _⟩ : ∃ a0 as', as = a0 :: as' ∧ H5 a0 = some (.tup [.str c.1, .int c.2.1, .int c.2.2]) ∧ True := by
    cases pO with
    | cons h t => exact ⟨_, _, rfl, h, trivial⟩
  have hO' : H5 Ow = some (.lst (.ref a0 :: as'.map V.ref)) := by rw [hO, eas]; rfl
  refine ⟨_, rfl, Ow, _, _, _, rfl, rfl, SqL.of hO', atI_nat (j := 0) rfl, a0, _, _, _, rfl, rfl, SqT.of hat, atI_nat (j := 0) rfl, (by show 2 ≤ sizeLine; omega), fun p1 n1 => ?_⟩
  have s1 := same_new n1 (.tup [.str "box", .str c.1])
  refine ⟨_, rfl, Ow, _, _, _, rfl, rfl, SqL.of (s1 _ _ hO'), atI_nat (j := 0) rfl, a0, _, _, _, rfl, rfl, SqT.of (s1 _ _ hat), atI_nat (j := 2) rfl, (by show 2 ≤ sizeLine; omega), fun p2 n2 => ⟨(by show 3 ≤ sizeLine; omega), fun p3 n3 => ?_⟩⟩
  have s2 := same_new n2 (.tup [.str "number", .int c.2.2])
  have s3 := same_new n3 (.tup [.str "is", .ref p1, .ref p2])
  refine ⟨(by show 2 ≤ sizeLine; omega), fun p4 n4 => ⟨(by show 2 ≤ sizeLine; omega), fun p5 n5 => ⟨(by show 3 ≤ sizeLine; omega), fun p6 n6 => ⟨(by show 2 ≤ sizeLine; omega), fun p7 n7 => ?_⟩⟩⟩⟩
  have s4 := same_new n4 (.tup [.str "number", .int 0])
  have s5 := same_new n5 (.tup [.str "number", .int 1])
  have s6 := same_new n6 (.tup [.str "below", .ref p4, .ref p5])
  have s7 := same_new n7 (.lst [.ref p3, .ref p6])
  have e1 := (s2.trans (s3.trans (s4.trans (s5.trans (s6.trans s7))))) p1 _ upd_same
  have e2 := (s3.trans (s4.trans (s5.trans (s6.trans s7)))) p2 _ upd_same
  have e3 := (s4.trans (s5.trans (s6.trans s7))) p3 _ upd_same
  have e4 := (s5.trans (s6.trans s7)) p4 _ upd_same
  have e5 := (s6.trans s7) p5 _ upd_same
  have e6 := s7 p6 _ upd_same
  have e7 := @upd_same (upd (upd (upd (upd (upd (upd H5 p1 (.tup [.str "box", .str c.1])) p2 (.tup [.str "number", .int c.2.2])) p3 (.tup [.str "is", .ref p1, .ref p2])) p4 (.tup [.str "number", .int 0])) p5 (.tup [.str "number", .int 1])) p6 (.tup [.str "below", .ref p4, .ref p5])) p7 (.lst [.ref p3, .ref p6])
  have s17 := s1.trans (s2.trans (s3.trans (s4.trans (s5.trans (s6.trans s7)))))
  clear s1 s2 s3 s4 s5 s6 s7
  generalize upd (upd (upd (upd (upd (upd (upd H5 p1 (.tup [.str "box", .str c.1])) p2 (.tup [.str "number", .int c.2.2])) p3 (.tup [.str "is", .ref p1, .ref p2])) p4 (.tup [.str "number", .int 0])) p5 (.tup [.str "number", .int 1])) p6 (.tup [.str "below", .ref p4, .ref p5])) p7 (.lst [.ref p3, .ref p6]) = H7 at *
  have pS : Paired (TsAt H7) [.ref p3, .ref p6] (says2 c) := .cons (.is e3 (.box e1) (.num e2)) (.cons (.bel e6 (.num e4) (.num e5)) .nil)
  have B7 := B5.keep s17
  have b7 : p7 ≠ b := by
    intro z
    obtain ⟨ys, g, sd, cc, hb⟩ : ∃ ys g sd cc, H7 b = some (.lst [.int g, .int sd, .int cc]) ∧ ys = () := by
      obtain ⟨g, sd, cc, hb, _⟩ := B7
      exact ⟨(), g, sd, cc, hb, rfl⟩
    rw [z, hb.1] at e7
    cases e7
  refine ⟨_, rfl, _, rfl, b, 3, m + (9 + cs d), rfl, B7.less (by omega), by decide, by decide, fun dj H8 k8 B8 dj0 dj1 => ⟨dj, rfl, p7, _, rfl, SqL.of (k8 _ _ b7 e7), fun p8 n8 => ?_⟩⟩
  obtain ⟨j, rfl⟩ : ∃ j : Nat, dj = (j : Int) := ⟨dj.toNat, by omega⟩
  have ecut : cutV [V.ref p3, .ref p6] none (some (j : Int)) = [V.ref p3, .ref p6].take j := by
    have : j = 0 ∨ j = 1 ∨ j = 2 := by omega
    rcases this with rfl | rfl | rfl <;> rfl
  rw [ecut]
  have s8 := same_new n8 (.lst ([V.ref p3, .ref p6].take j))
  refine ⟨p8, _, rfl, .inl ⟨SqL.of upd_same, fun SM n9 => ?_⟩⟩
  have s9 := same_new n9 (.tup ([V.ref p3, .ref p6].take j))
  have hSM : SaysAt _ SM ((says2 c).take j) := ⟨_, @upd_same (upd H8 p8 (.lst ([V.ref p3, .ref p6].take j))) SM (.tup ([V.ref p3, .ref p6].take j)), paired_imp (fun _ _ y => y.keep (Same.tups (s8.trans s9))) (paired_imp (fun _ _ y => y.keep (B7.tups k8)) (paired_take pS j))⟩
  have k59 : Kept b H5 _ := (Kept.of s17).trans (k8.trans (.of (s8.trans s9)))
  have B9 := B8.keep (s8.trans s9)
  have I9 := hI.kept B5 k59
  have C9 := C5.kept B5 k59 bO
  have hS9 := B5.tups k59 _ _ hS5
  have k9 : Kept b H _ := k5.trans k59
  clear s8 s9 n9
  generalize upd (upd H8 p8 (.lst ([V.ref p3, .ref p6].take j))) SM (.tup ([V.ref p3, .ref p6].take j)) = H9 at *
  -- the steps
  refine ⟨_, rfl, _, rfl, _, rfl, S, _, _, _, rfl, rfl, SqT.of hS9, atI_nat (j := 3) rfl, _, rfl, S, _, _, _, rfl, rfl, SqT.of hS9, atI_nat (j := 2) rfl, (by show 1 ≤ sizeLine; omega), fun L nL => ?_⟩
  have sL := same_new nL (.lst [.int (k : Int)])
  have bL : L ≠ b := B9.ne nL
  have nL0 : H L = none := kept_none hB k9 nL B9.lst
  have D9 : DrawAt _ b I L k names (decide (V.str up = V.str "")) low mo tu N lw := ⟨I9.kept B9 (.of sL), bL, ne_of_none I9.own nL, ne_of_none I9.below nL, @upd_same H9 L (.lst [.int (k : Int)]), mo1, mo9, tu1, tu7, lowk⟩
  refine ⟨b, I, L, N, lw, d, m + 9, k, names, low, decide (V.str up = V.str ""), mo, tu, rfl, by omega, (B9.keep sL).less (by omega), D9, fun BD bd H10 k' g10 B10 hL10 at10 ok10 len10 dp10 tot10 => ?_⟩
  have k10 : Kept b H9 H10 := fun a o na ha => g10 _ _ na (ne_of_none ha nL) (sL _ _ ha)
  refine fin _ H10 b lw S N Ow I p7 SM BD nick up names low mo tu cr c j bd z7 z8 m Q rfl B10 (I9.kept B9 k10) (C9.kept B9 k10 bO) bO (hSM.keep (B9.tups k10)) at10 bx hcm ⟨ok10, by omega, by omega, by omega⟩ (fun a r H' kf Bf hat' hdr => q a r H' (k9.trans (k10.trans kf)) Bf hat' hdr)
end
end Any
set_option pp.maxSteps 600
namespace Any
open L2 PySem PySem.Spec PyProof.Rows LamX NdefX
/-! ### what drawn programs are like -/
/-- names, those above, floors, drawn so -/
structure Tree (names up : List Str) (fl : List Nat) : Prop where
  len : up.length = names.length
  lf : fl.length = names.length
  nk : Nicks 8 names
  first : up[0]? = some ("" : Str)
  one : fl[0]? = some 1
  below : ∀ i, i ≠ 0 → i < names.length → ∃ j a f, j < i ∧ names[j]? = some a ∧ up[i]? = some a ∧ fl[j]? = some f ∧ f < 4 ∧ fl[i]? = some (f + 1)
theorem nm_ne {x : Str} (h : Nm x) : x ≠ "" := fun z => by
  have := h.lo
  rw [z] at this
  exact absurd this (by decide)
theorem climb_none : ∀ (l : List Rm) (st : Nat × Str), (∀ r ∈ l, r.name ≠ st.2) → l.foldl climb st = st
  | [], _, _ => rfl
  | r :: l, st, h => by
    rw [List.foldl_cons, climb_no (h r (List.mem_cons_self ..))]
    exact climb_none l st fun x hx => h x (List.mem_cons_of_mem _ hx)
theorem nd_at {α : Type} {l : List α} (nd : l.Nodup) {i j : Nat} {x : α} (hi : l[i]? = some x) (hj : l[j]? = some x) : i = j := by
  have a := List.getElem?_eq_some_iff.mp hi
  have b := List.getElem?_eq_some_iff.mp hj
  obtain ⟨i1, e1⟩ := a
  obtain ⟨j1, e2⟩ := b
  rcases Nat.lt_trichotomy i j with h | h | h
  · exact absurd (e1.trans e2.symm) (List.pairwise_iff_getElem.mp (List.nodup_iff_pairwise_ne.mp nd) i j i1 j1 h)
  · exact h
  · exact absurd (e2.trans e1.symm) (List.pairwise_iff_getElem.mp (List.nodup_iff_pairwise_ne.mp nd) j i j1 i1 h)
/-- rooms that go by a tree -/
structure Rooms (names up : List Str) (rs : List Rm) : Prop where
  len : rs.length = names.length
  name : ∀ (i : Nat) (r : Rm), rs[i]? = some r → names[i]? = some r.name
  above : ∀ (i : Nat) (r : Rm), rs[i]? = some r → up[i]? = some r.above
theorem climb_tree {names up : List Str} {fl : List Nat} (t : Tree names up fl) {rs : List Rm} (h : Rooms names up rs) : ∀ (i n0 j f : Nat) (a : Str), i ≤ names.length → j < i → names[j]? = some a → fl[j]? = some f → ((rs.take i).reverse.foldl climb (n0, a)).1 = n0 + f
  | 0, _, _, _, _, _, hj, _, _ => absurd hj (Nat.not_lt_zero _)
  | i + 1, n0, j, f, a, hi, hj, ha, hf => by
    have ir : i < rs.length := by rw [h.len]; omega
    obtain ⟨r, hr⟩ : ∃ r, rs[i]? = some r := ⟨_, List.getElem?_eq_getElem ir⟩
    have hn := h.name i r hr
    have hab := h.above i r hr
    rw [List.take_add_one, hr, List.reverse_append]
    show ((rs.take i).reverse.foldl climb (climb (n0, a) r)).1 = n0 + f
    by_cases e : i = j
    · subst e
      rw [hn] at ha
      cases ha
      rw [climb_yes rfl]
      by_cases i0 : i = 0
      · subst i0
        rw [t.one] at hf
        cases hf
        rfl
      · obtain ⟨k, b, g, hk, hb, hu, hg, g4, hgi⟩ := t.below i i0 (by omega)
        rw [hab] at hu
        cases hu
        rw [hgi] at hf
        cases hf
        have ih := climb_tree t h i (n0 + 1) k g r.above (by omega) hk hb hg
        show ((rs.take i).reverse.foldl climb (n0 + 1, r.above)).1 = n0 + (g + 1)
        rw [ih]
        omega
    · rw [climb_no (fun z => e (nd_at t.nk.nd hn (by rw [show r.name = a from z]; exact ha)))]
      exact climb_tree t h i n0 j f a (by omega) (by omega) ha hf
/-- the names of those right beneath, in the names' order -/
def lowOf (names up : List Str) (n : Str) : List Str := ((names.zip up).filter fun z => decide (z.2 = n)).map (·.1)
theorem ben_low {names up : List Str} {rs : List Rm} (h : Rooms names up rs) (hu : up.length = names.length) (n : Str) : ben rs n = lowOf names up n := by
  have e1 : names = rs.map (·.name) := by
    refine List.ext_getElem? fun i => ?_
    rw [List.getElem?_map]
    by_cases hi : i < rs.length
    · have z := List.getElem?_eq_getElem hi
      rw [h.name i _ z, z]
      rfl
    · rw [List.getElem?_eq_none (by rw [← h.len]; omega), List.getElem?_eq_none (by omega)]
      rfl
  have e2 : up = rs.map (·.above) := by
    refine List.ext_getElem? fun i => ?_
    rw [List.getElem?_map]
    by_cases hi : i < rs.length
    · have z := List.getElem?_eq_getElem hi
      rw [h.above i _ z, z]
      rfl
    · rw [List.getElem?_eq_none (by rw [hu, ← h.len]; omega), List.getElem?_eq_none (by omega)]
      rfl
  unfold lowOf ben
  rw [e1, e2, List.zip_map', List.filter_map, List.map_map]
  rfl
theorem low_in {names up : List Str} {n x : Str} (h : x ∈ lowOf names up n) : x ∈ names := by
  unfold lowOf at h
  obtain ⟨z, h1, rfl⟩ := List.mem_map.mp h
  exact (List.of_mem_zip (List.mem_filter.mp h1).1).1
theorem low_len (names up : List Str) (n : Str) : (lowOf names up n).length ≤ names.length := by
  unfold lowOf
  rw [List.length_map]
  refine Nat.le_trans (List.length_filter_le ..) ?_
  rw [List.length_zip]
  omega
theorem right_of_tree {names up : List Str} {fl : List Nat} (t : Tree names up fl) {rs : List Rm} (h : Rooms names up rs) (hd : ∀ (i : Nat) (r : Rm), rs[i]? = some r → Drawn r.name r.above (lowOf names up r.name) r) : Right rs := by
  have n1 := t.nk.lo
  have n8 := t.nk.hi
  refine ⟨by rw [h.len]; exact n1, by rw [h.len]; exact n8, fun i r hr => ?_⟩
  have il : i < names.length := by rw [← h.len]; exact (List.getElem?_eq_some_iff.mp hr).1
  have d := hd i r hr
  have hn := h.name i r hr
  have hab := h.above i r hr
  have nm : Nm r.name := t.nk.nm _ (List.mem_of_getElem? hn)
  have up0 : i = 0 → r.above = "" := fun e => by
    subst e
    rw [t.first] at hab
    exact (Option.some.inj hab).symm
  have ben := ben_low h t.len r.name
  refine ⟨nm, fun m => ?_, ⟨up0, fun i0 => ?_⟩, d.boxes, d.asc, d.says, fun i0 => by rw [ben]; exact d.first (up0 i0), fun i0 => ?_⟩
  · obtain ⟨q, hq, e⟩ := List.mem_map.mp m
    obtain ⟨j, hj⟩ := List.getElem?_of_mem hq
    rw [List.getElem?_take] at hj
    by_cases c : j < i
    · rw [if_pos c] at hj
      have z := h.name j q hj
      rw [e] at z
      have := nd_at t.nk.nd hn z
      omega
    · rw [if_neg c] at hj
      cases hj
  · obtain ⟨j, a, f, hj, ha, hu, hf, f4, hfi⟩ := t.below i i0 il
    rw [hab] at hu
    cases hu
    refine ⟨?_, ?_⟩
    · have jl : j < rs.length := by rw [h.len]; omega
      have zr := List.getElem?_eq_getElem jl
      have z := h.name j _ zr
      rw [ha] at z
      rw [Option.some.inj z]
      exact List.mem_map_of_mem (List.mem_of_getElem? (i := j) (by rw [List.getElem?_take, if_pos hj]; exact zr))
    · unfold floorOf
      rw [climb_tree t h i 1 j f r.above (by omega) hj ha hf]
      omega
  · rw [ben]
    refine d.other ?_
    obtain ⟨j, a, f, hj, ha, hu, _⟩ := t.below i i0 il
    rw [hab] at hu
    rw [Option.some.inj hu]
    exact nm_ne (t.nk.nm _ (List.mem_of_getElem? ha))
/-! ### comprehensions over a range -/
theorem turns_rng {n : Nat} {g : TG} {tt : TT} {te : TE} {vs : List Nat} {σ : L2.St} {H1 : Hp} {D : Addr} {Qd : Hp → Prop} (gs : List (Option V)) (hD : H1 D = none) (hn : gs.length = n) (hz : n ≤ sizeLine) (hs : TurnF ((List.range n).map fun i : Nat => V.int (0 + (i : Int))) gs g tt te vs σ H1)
    (hd : ∀ H, H D = some (.lst (gs.filterMap id)) → Same H1 H → Qd H) : Turns (Itr 0 n) g tt te vs σ H1 D Qd := by
  refine lc_range (lo := 0) (n := n) (fun i Hc => Hc D = some (.lst ((gs.take i).filterMap id)) ∧ Same H1 Hc) ⟨upd_same, same_new hD _⟩ ?_ ?_
  · rintro i Hc hi ⟨hC, sm⟩
    obtain ⟨o, ho⟩ : ∃ o, gs[i]? = some o := ⟨gs[i]'(by omega), List.getElem?_eq_getElem (by omega)⟩
    have hx : ((List.range n).map fun i : Nat => V.int (0 + (i : Int)))[i]? = some (V.int (0 + (i : Int))) := by rw [List.getElem?_map, List.getElem?_range hi]; rfl
    refine hs i _ o Hc _ _ hx ho sm (fun y ey H4 s4 => ⟨_, s4 _ _ hC, ?_, ?_, fun b u hb => ?_⟩) (fun en H4 s4 => ⟨?_, sm.trans s4⟩)
    · have := fm_len (gs.take i)
      rw [List.length_take] at this
      omega
    · rw [upd_same, take_fm ho, ey]
      rfl
    · rw [upd_ne (ne_of_none hb hD)]
      exact s4 _ _ (sm _ _ hb)
    · rw [take_fm ho, en]
      show H4 D = some (.lst (_ ++ []))
      rw [List.append_nil]
      exact s4 _ _ hC
  · rintro Hc ⟨hC, sm⟩
    rw [← hn, List.take_length] at hC
    exact hd Hc hC sm
theorem fm_low (n : Str) : ∀ l : List (Str × Str), (l.map fun z => if z.2 = n then some (V.str z.1) else none).filterMap id = ((l.filter fun z => decide (z.2 = n)).map (·.1)).map V.str
  | [] => rfl
  | o :: r => by
    have ih := fm_low n r
    rw [List.map_cons]
    by_cases e : o.2 = n
    · rw [if_pos e, List.filter_cons_of_pos (by simpa using e), List.map_cons, List.map_cons, ← ih]
      rfl
    · rw [if_neg e, List.filter_cons_of_neg (by simpa using e), ← ih]
      rfl
section
variable (P : Program) (w : World) (K : PySem.W.Frag) (mg : Str → Option Value) (base : Heap)
/-- a class called with its arguments alone -/
def Mk1 (k : Nat) (x : Str) (C : Addr) (ps : List Str) (sp : Sp) : Prop := ∃ f fd, mg x = some (.ref C) ∧ Mk K C f ∧ FnOk P w K mg base CX0 k f fd ps sp ∧ Binds K fd ps []
end
theorem pe_C {X : Cx} {k : Nat} {x : Str} {C : Addr} {ps : List Str} {sp : Sp} {p pos : Pos} {e : Expr} {es : List Expr} {t : TA} (D : Mk1 X.prog X.w X.K X.mg X.base k x C ps sp) (hr : Room (k + 1) X.A) (hg : Gl X x)
    (ha : PA X (e :: es) t) (hdb : (x == ("__debug__" : Str)) = false := by decide) (he : starEach (e :: es) X.env = (false, eval e X.env) :: starEach es X.env := by rfl) (hpl : (backTo pos (starEach es X.env)).any (·.1) = false := by rfl) :
    PE X (.Call (.Name x p) (e :: es) [] pos) (tMake C sp [] E0 t) := by
  obtain ⟨f, fd, hm, M, F, hb⟩ := D
  exact pe_make M F hr hg hm hb .nil pass0 ha hdb he hpl
end Any
set_option pp.maxSteps 600
namespace Any
open L2 PySem PySem.Spec PyProof.Rows LamX NdefX
abbrev sProg : Stmt := top 98
abbrev psPg : List Str := ["_law_bag_here", "_law_many", "_law_sizes"]
abbrev nmPg : List Str := ["_law_bag_here", "_law_many", "_law_sizes", "_law_nicks_here", "_law_uppers", "_law_floors", "_law_k", "_law_at", "_law_some", "_law_found", "_law_lower"]
theorem scPg : FnScope nmPg psPg (defScope sProg) := ⟨rfl, rfl, rfl, by decide +kernel, rfl, by decide +kernel, by decide +kernel⟩
def pc (d : Nat) : Nat := 17 + 8 * (26 + cs d)
def spProg (T : List NTab) (C D : Addr) : Sp := fun vs H Q _ => ∃ (b S : Addr) (many m d k : Nat) (mo tu : Int), vs = [.ref b, .int many, .ref S] ∧ 1 ≤ many ∧ many ≤ 8 ∧ Bag H b (m + pc d) ∧
  H S = some (.tup [.int mo, .int tu, .int (k : Int), .int (d : Int)]) ∧ d ≤ 3 ∧ (1 ≤ mo ∧ mo ≤ 9) ∧ (1 ≤ tu ∧ tu ≤ 7) ∧ k ≤ 30 ∧ TabsN T H ∧ ∀ (x : Addr) (rs : List Rm) (H' : Hp), H x = none → Kg T b H H' → Bag H' b m → PgOk C D H' x rs → Right rs → Q (.ref x) H'
/-- a tree as far as it is drawn -/
structure TreeTo (names up : List Str) (fl : List Nat) (n : Nat) : Prop where
  len : up.length = n
  lf : fl.length = n
  first : up[0]? = some ("" : Str)
  one : fl[0]? = some 1
  below : ∀ i, i ≠ 0 → i < n → ∃ j a f, j < i ∧ names[j]? = some a ∧ up[i]? = some a ∧ fl[j]? = some f ∧ f < 4 ∧ fl[i]? = some (f + 1)
theorem get_app {α : Type} {l : List α} {x : α} {i : Nat} {y : α} (h : l[i]? = some y) : (l ++ [x])[i]? = some y := by
  have := (List.getElem?_eq_some_iff.mp h).1
  rw [List.getElem?_append_left this]
  exact h
theorem get_last {α : Type} {l : List α} {x : α} {n : Nat} (h : l.length = n) : (l ++ [x])[n]? = some x := by
  rw [List.getElem?_append_right (by omega), h, Nat.sub_self]
  rfl
theorem TreeTo.more {names up : List Str} {fl : List Nat} {n : Nat} (t : TreeTo names up fl n) {j f : Nat} {a : Str} (hj : j < n) (ha : names[j]? = some a) (hf : fl[j]? = some f) (f4 : f < 4) : TreeTo names (up ++ [a]) (fl ++ [f + 1]) (n + 1) := by
  refine ⟨by rw [List.length_append, t.len]; rfl, by rw [List.length_append, t.lf]; rfl, get_app t.first, get_app t.one, fun i i0 hi => ?_⟩
  by_cases e : i < n
  · obtain ⟨j', a', f', h1, h2, h3, h4, h5, h6⟩ := t.below i i0 e
    exact ⟨j', a', f', h1, h2, get_app h3, get_app h4, h5, get_app h6⟩
  · have e : i = n := by omega
    subst e
    exact ⟨j, a, f, hj, ha, get_last t.len, get_app hf, f4, get_last t.lf⟩
theorem RmAt.kept {C : Addr} {H H' : Hp} {b x : Addr} {r : Rm} {n : Nat} (h : RmAt C H x r) (B : Bag H b n) (k : Kept b H H') : RmAt C H' x r := by
  obtain ⟨ys, hb⟩ := B.lst
  obtain ⟨dx, n', a, b', s, q, t, p, y, h1, h2⟩ := h
  exact ⟨dx, n', a, b', s, q, t, p, y, k _ _ (ne_of h1 hb (by intro z; cases z)) h1, h2.keep (B.tups k)⟩
theorem RmAt.put {C : Addr} {H : Hp} {L x : Addr} {r : Rm} {xs ys : List V} (h : RmAt C H x r) (hL : H L = some (.lst xs)) : RmAt C (upd H L (.lst ys)) x r := by
  obtain ⟨dx, n', a, b', s, q, t, p, y, h1, h2⟩ := h
  refine ⟨dx, n', a, b', s, q, t, p, y, by rw [upd_ne (ne_of h1 hL (by intro z; cases z))]; exact h1, h2.keep fun a ts ha => ?_⟩
  rw [upd_ne (ne_of ha hL (by intro z; cases z))]
  exact ha
section
variable {P : Program} {w : World} {K : PySem.W.Frag} {mg : Str → Option Value} {base : Heap} {f C D_ : Addr} {fd : FuncData} {T_ : List NTab}
set_option maxHeartbeats 4000000 in
theorem ok_prog (O : Own mg) (mr : mg "range" = none) (F : Fun K "_law_program" "_law_program" sProg f fd) (DT : Df P w K mg base 1 "_law_take" psTk spTake) (DN : Df P w K mg base 2 "_law_nicks" psTk spNicks) (DR : Df P w K mg base 14 "_law_room" psRm (spRoom C)) (MP : Mk1 P w K mg base 30 "Program" D_ ["self", "rooms"] (spPInit T_ C D_)) :
    FnOk P w K mg base CX0 32 f fd psPg (spProg T_ C D_) := by
  refine F.ok scPg (fun vs H Q E h => ?_) (fun cdv A outer s H vs Q E hr h => ?_)
  · obtain ⟨b, S, many, m, d, k, mo, tu, rfl, _⟩ := h
    rfl
  obtain ⟨b, S, many, m, d, k, mo, tu, rfl, many1, many8, hB, hS, hd, hmo, htu, hk, hT, q⟩ := h
  have hs : sizeLine = 16777216 := sizeLine_eq
  have hr1 := hr.mono (show 1 ≤ 31 by decide)
  have hr2 := hr.mono (show 2 ≤ 31 by decide)
  have hr14 := hr.mono (show 14 ≤ 31 by decide)
  have epc : pc d = 17 + 8 * (26 + cs d) := rfl
  -- the rooms
  obtain ⟨t3, ht3, fin⟩ : ∃ t3, PSs (cxOf CX0 P w K mg base nmPg "_law_program" (defScope sProg) f cdv A outer s H E).nox ((defBody sProg).drop 3) t3 ∧
      ∀ (D : Ends) (H9 : Hp) (N U Fl : Addr) (names up : List Str) (fl : List Nat) (z6 z7 z8 : Option V), D.rt = Q → Kept b H H9 → Bag H9 b (m + 8 * (26 + cs d)) → H9 N = some (.lst (names.map V.str)) → N ≠ b → H9 U = some (.lst (up.map V.str)) → U ≠ b → Tree names up fl →
        t3 D [some (.ref b), some (.int many), some (.ref S), some (.ref N), some (.ref U), some (.ref Fl), z6, z7, z8, none, none] H9 := by
    refine ⟨_, pss_cons (ps_set (i := 9) scPg.nd rfl (Or.inl rfl) (pe_lst pa_nil))
      (pss_cons (ps_for PassesOwn.never rfl (pi_range1 rfl mr (pa_cons (pe_callB call_len_seq rfl O.len PySem.boot_len (pa_cons (pv 3) pa_nil)) pa_nil)) (pg_name (i := 6) scPg.nd rfl (Or.inr rfl))
        (pss_cons (ps_setLc (i := 10) (own := [("_law_at", 7)]) (g := gName 7) (tt := tTest (tOp rEq (tOp (rIxL K) (tVar 4) (tVar 7)) (tOp (rIxL K) (tVar 3) (tVar 6)))) (te := tOp (rIxL K) (tVar 3) (tVar 7)) (by rfl) scPg.nd rfl rfl (sw_true rfl rfl rfl (by decide +kernel)) (pi_range1 rfl mr (pa_cons (pe_callB call_len_seq rfl O.len PySem.boot_len (pa_cons (pv 3) pa_nil)) pa_nil)) (blkOk_by (N := nmPg) (sc := defScope sProg) (by decide +kernel))
            (fun _ _ _ _ _ => pg_name (i := 7) scPg.nd rfl (Or.inl rfl)) (fun _ _ _ _ _ => pts_one (pt_cmpR op_eq (pe_ix (show IxR _ (rIxL K) from ix_list) (pv 4) (pv 7) (fun _ _ => rfl)) (pe_ix (show IxR _ (rIxL K) from ix_list) (pv 3) (pv 6) (fun _ _ => rfl)) (nomark _))) (fun _ _ _ _ _ => pe_ix (show IxR _ (rIxL K) from ix_list) (pv 3) (pv 7) (fun _ _ => rfl)))
        (pss_one (ps_expr (pe_bm PySem.F.plainAttrs_list PySem.F.slot_list_append PySem.F.type_list_append mt_append (pv 9) (pa_cons (pe_D DR hr14 rfl (pa_cons (pv 0) (pa_cons (pe_ix ix_list (pv 3) (pv 6) (fun _ _ => rfl)) (pa_cons (pe_ix ix_list (pv 4) (pv 6) (fun _ _ => rfl)) (pa_cons (pv 10) (pa_cons (pv 2) pa_nil)))))) pa_nil))))))
      (pss_one (ps_ret (pe_C MP hr rfl (pa_cons (pe_callTy call_tuple_of rfl O.tuple (by decide +kernel) (pa_cons (pv 9) pa_nil)) pa_nil))))), ?_⟩
    intro D H9 N U Fl names up fl z6 z7 z8 eD k9 B9 hN nN hU nU t
    have nlo := t.nk.lo
    have nhi := t.nk.hi
    refine ⟨(by show 0 ≤ sizeLine; omega), fun Fd nF => ?_⟩
    have sF := same_new nF (.lst [])
    have bF : Fd ≠ b := B9.ne nF
    have NF : N ≠ Fd := ne_of_none hN nF
    have UF : U ≠ Fd := ne_of_none hU nF
    have nF0 : H Fd = none := kept_none hB k9 nF B9.lst
    refine ⟨_, rfl, N, _, rfl, .inl (SqL.of (sF _ _ hN)), _, rfl, by rw [List.length_map]; omega, by rw [List.length_map]; omega, ?_⟩
    refine for_range (lo := 0) (fun i σ Hc => ∃ (as : List Addr) (rs : List Rm) (z6 z7 z8 z10 : Option V), σ = [some (.ref b), some (.int many), some (.ref S), some (.ref N), some (.ref U), some (.ref Fl), z6, z7, z8, some (.ref Fd), z10] ∧ Hc Fd = some (.lst (as.map V.ref)) ∧ Paired (RmAt C Hc) as rs ∧ rs.length = i ∧
      (∀ (j : Nat) (r : Rm), rs[j]? = some r → names[j]? = some r.name ∧ up[j]? = some r.above ∧ Drawn r.name r.above (lowOf names up r.name) r) ∧ Bag Hc b (m + (8 - i) * (26 + cs d)) ∧ Kept b H Hc ∧ Hc N = some (.lst (names.map V.str)) ∧ Hc U = some (.lst (up.map V.str)))
      ⟨[], [], _, _, _, _, rfl, upd_same, .nil, rfl, (fun j r h => by simp at h), B9.keep sF, k9.trans (.of sF), sF _ _ hN, sF _ _ hU⟩ ?_ ?_
    · rintro i σ Hc hi ⟨as, rs, y6, y7, y8, y10, rfl, hFd, pr, lr, okr, Bc, kc, hNc, hUc⟩
      rw [List.length_map] at hi
      have hi : i < names.length := by omega
      obtain ⟨e, he⟩ : ∃ e, 8 - i = e + 1 := ⟨7 - i, by omega⟩
      have he2 : 8 - (i + 1) = e := by omega
      rw [he, Nat.succ_mul] at Bc
      obtain ⟨nm, hnm⟩ : ∃ nm, names[i]? = some nm := ⟨_, List.getElem?_eq_getElem hi⟩
      obtain ⟨u, hu⟩ : ∃ u, up[i]? = some u := ⟨_, List.getElem?_eq_getElem (by rw [t.len]; exact hi)⟩
      have inm : atI (names.map V.str) (0 + (i : Int)) = some (.str nm) := by rw [Int.zero_add]; exact atI_nat (by rw [List.getElem?_map, hnm]; rfl)
      have iu : atI (up.map V.str) (0 + (i : Int)) = some (.str u) := by rw [Int.zero_add]; exact atI_nat (by rw [List.getElem?_map, hu]; rfl)
      refine ⟨_, rfl, N, _, rfl, .inl (SqL.of hNc), _, rfl, by rw [List.length_map]; omega, by rw [List.length_map]; omega, fun lw nlw => ?_⟩
      have zl : (names.zip up).length = names.length := by rw [List.length_zip, t.len, Nat.min_self]
      refine turns_rng ((names.zip up).map fun z => if z.2 = nm then some (V.str z.1) else none) nlw (by rw [List.length_map, zl, List.length_map]; omega) (by rw [List.length_map]; omega) ?_ ?_
      · intro j z o Hd Y Nx hz ho sm hY hN2
        rw [List.getElem?_map] at hz ho
        obtain ⟨jj, hjj, rfl⟩ := Option.map_eq_some_iff.mp hz
        obtain ⟨⟨na, ua⟩, hza, rfl⟩ := Option.map_eq_some_iff.mp ho
        have ejj : jj = j := by
          have := (List.getElem?_eq_some_iff.mp hjj)
          obtain ⟨h1, h2⟩ := this
          rw [List.getElem_range] at h2
          exact h2.symm
        subst ejj
        obtain ⟨ha1, ha2⟩ := List.getElem?_zip_eq_some.mp hza
        have ina : atI (names.map V.str) (0 + (jj : Int)) = some (.str na) := by rw [Int.zero_add]; exact atI_nat (by rw [List.getElem?_map, ha1]; rfl)
        have iua : atI (up.map V.str) (0 + (jj : Int)) = some (.str ua) := by rw [Int.zero_add]; exact atI_nat (by rw [List.getElem?_map, ha2]; rfl)
        refine ⟨rfl, _, rfl, _, rfl, U, _, _, _, rfl, rfl, SqL.of (sm _ _ hUc), iua, _, rfl, _, rfl, N, _, _, _, rfl, rfl, SqL.of (sm _ _ hNc), inm, rfl, _, rfl, itD (fun c1 => ?_) (fun c1 => ?_)⟩
        · have e9 : ua = nm := V.str.inj c1
          refine ⟨_, rfl, _, rfl, N, _, _, _, rfl, rfl, SqL.of (sm _ _ hNc), ina, hY _ ?_ Hd same_refl⟩
          show (if ua = nm then some (V.str na) else none) = _
          rw [if_pos e9]
        · have e9 : ¬ ua = nm := fun z => c1 (by rw [z])
          refine hN2 ?_ Hd same_refl
          show (if ua = nm then some (V.str na) else none) = _
          rw [if_neg e9]
      intro H2 h2 s2
      rw [fm_low] at h2
      have h2 : H2 lw = some (.lst ((lowOf names up nm).map V.str)) := h2
      have B2 := Bc.keep s2
      have blw : lw ≠ b := Bc.ne nlw
      refine ⟨_, rfl, .inl ⟨rfl, _, SqL.of (s2 _ _ hFd)⟩, ?_⟩
      refine ⟨_, rfl, _, rfl, _, rfl, N, _, _, _, rfl, rfl, SqL.of (s2 _ _ hNc), inm, _, rfl, _, rfl, U, _, _, _, rfl, rfl, SqL.of (s2 _ _ hUc), iu, _, rfl, _, rfl, ?_⟩
      refine ⟨b, lw, S, nm, u, m + e * (26 + cs d), d, k, lowOf names up nm, mo, tu, rfl, B2.less (by omega), h2, blw, Nat.le_trans (low_len ..) nhi, fun r hr => nm_ok (t.nk.nm r (low_in hr)), s2 _ _ (hB.tups kc _ _ hS), hd, hmo, htu, hk, fun a r H3 k3 B3 hat hdr => ?_⟩
      have kc3 : Kept b Hc H3 := (Kept.of s2).trans k3
      have hFd3 := kc3 _ _ bF hFd
      have las := paired_len pr
      refine ⟨Fd, as.map V.ref, _, rfl, rfl, hFd3, by rw [List.length_map]; omega, as ++ [a], rs ++ [r], _, _, _, _, rfl, by rw [upd_same, List.map_append]; rfl, ?_, by rw [List.length_append, lr]; rfl, fun j r' hj => ?_, ?_, ?_, ?_, ?_⟩
      · exact p_snoc (paired_imp (fun _ _ y => (RmAt.kept y Bc kc3).put hFd3) pr) (hat.put hFd3)
      · by_cases jl : j < rs.length
        · rw [List.getElem?_append_left jl] at hj
          exact okr j r' hj
        · have ej : j = rs.length := by
            have := (List.getElem?_eq_some_iff.mp hj).1
            rw [List.length_append] at this
            simp at this
            omega
          rw [List.getElem?_append_right (by omega), ej, Nat.sub_self] at hj
          cases hj
          rw [ej, lr, hdr.name, hdr.above]
          exact ⟨hnm, hu, hdr⟩
      · rw [he2]
        exact B3.put bF.symm
      · intro a' o' na ha
        rw [upd_ne (fun z => by rw [z, nF0] at ha; cases ha)]
        exact kc3 _ _ na (kc _ _ na ha)
      · rw [upd_ne NF]
        exact kc3 _ _ nN hNc
      · rw [upd_ne UF]
        exact kc3 _ _ nU hUc
    · rintro σ Hc ⟨as, rs, y6, y7, y8, y10, rfl, hFd, pr, lr, okr, Bc, kc, hNc, hUc⟩
      rw [List.length_map] at lr
      have lr : rs.length = names.length := by omega
      have rooms : Rooms names up rs := ⟨lr, fun i r h => (okr i r h).1, fun i r h => (okr i r h).2.1⟩
      have ok := right_of_tree t rooms fun i r h => (okr i r h).2.2
      refine ⟨_, rfl, Fd, _, rfl, .inl ⟨SqL.of hFd, fun R hR => ?_⟩⟩
      have s1 := same_new hR (.tup (as.map V.ref))
      intro x dx hx hdx ne
      have r1 : RsAt C (upd Hc R (.tup (as.map V.ref))) R rs := ⟨as, upd_same, paired_imp (fun _ _ z => z.keep s1) pr⟩
      have s2 : Same (upd Hc R (.tup (as.map V.ref))) (upd (upd (upd Hc R (.tup (as.map V.ref))) dx (.own x)) x (.ins D_ dx [])) := fun a o ha => by
        rw [upd_ne (ne_of_none ha hx), upd_ne (ne_of_none ha hdx)]
        exact ha
      have kgc : Kg T_ b H Hc := (Kg.refl hT).kept hB kc
      have gR := Gr.of kgc.tabs s1
      have g2 := Gr.of gR.tabs s2
      refine ⟨x, dx, R, rs, rfl, upd_same, r1.keepS s2, ok, g2.tabs, fun p H3 k3 h3 hp3 => ⟨rfl, ?_⟩⟩
      have g3 : Gr T_ (upd Hc R (.tup (as.map V.ref))) H3 := gr_kg (Gr.of gR.tabs s2) hx k3
      rw [eD]
      refine q x rs H3 ?_ (kgc.gr (gR.trans g3)) (((Bc.less (by omega)).gr gR).gr g3) ⟨R, ⟨dx, _, h3⟩, r1.gr g3⟩ ok
      exact kept_none hB kc (s1.free hx) Bc.lst
  refine ⟨_, pss_cons (ps_set (i := 3) scPg.nd rfl (Or.inr rfl) (pe_D DN hr2 rfl (pa_cons (pv 0) (pa_cons (pe_op op_add pe_int (pe_D DT hr1 rfl (pa_cons (pv 0) (pa_cons (pv 1) pa_nil)))) pa_nil))))
    (pss_cons (ps_asg (pe_tup (pa_cons (pe_lst (pa_cons pe_str pa_nil)) (pa_cons (pe_lst (pa_cons pe_int pa_nil)) pa_nil))) (pg_tup rfl (pgs_cons (pg_name (i := 4) scPg.nd rfl (Or.inr rfl)) (pgs_cons (pg_name (i := 5) scPg.nd rfl (Or.inr rfl)) pgs_nil))))
    (pss_cons (ps_for PassesOwn.never rfl (pi_range2 rfl mr (pa_cons pe_int (pa_cons (pe_callB call_len_seq rfl O.len PySem.boot_len (pa_cons (pv 3) pa_nil)) pa_nil))) (pg_name (i := 6) scPg.nd rfl (Or.inr rfl))
      (pss_cons (ps_setLc (i := 8) (own := [("_law_at", 7)]) (g := gName 7) (tt := tTest (tOp (rI0 fun i j => V.bl (decide (i < j))) (tOp (rIxL K) (tVar 5) (tVar 7)) (tC (.int 4)))) (te := tVar 7) (by rfl) scPg.nd rfl rfl (sw_true rfl rfl rfl (by decide +kernel)) (pi_range1 rfl mr (pa_cons (pv 6) pa_nil)) (blkOk_by (N := nmPg) (sc := defScope sProg) (by decide +kernel))
          (fun _ _ _ _ _ => pg_name (i := 7) scPg.nd rfl (Or.inl rfl)) (fun _ _ _ _ _ => pts_one (pt_cmpR op_lt (pe_ix (show IxR _ (rIxL K) from ix_list) (pv 5) (pv 7) (fun _ _ => rfl)) pe_int (nomark _))) (fun _ _ _ _ _ => pv 7))
      (pss_cons (ps_set (i := 7) scPg.nd rfl (Or.inl rfl) (pe_ix ix_list (pv 8) (pe_D DT hr1 rfl (pa_cons (pv 0) (pa_cons (pe_callB call_len_seq rfl O.len PySem.boot_len (pa_cons (pv 8) pa_nil)) pa_nil))) (fun _ _ => rfl)))
      (pss_cons (ps_expr (pe_bm PySem.F.plainAttrs_list PySem.F.slot_list_append PySem.F.type_list_append mt_append (pv 4) (pa_cons (pe_ix ix_list (pv 3) (pv 7) (fun _ _ => rfl)) pa_nil)))
      (pss_one (ps_expr (pe_bm PySem.F.plainAttrs_list PySem.F.slot_list_append PySem.F.type_list_append mt_append (pv 5) (pa_cons (pe_op op_add (pe_ix ix_list (pv 5) (pv 7) (fun _ _ => rfl)) pe_int) pa_nil))))))))
    ht3)), ?_⟩
  refine ⟨_, rfl, _, rfl, _, rfl, b, (many : Int), m + (16 + 8 * (26 + cs d)), rfl, hB.less (by omega), by omega, by omega, fun d1 H1 k1 B1 d10 d11 => ⟨_, _, rfl, rfl, ?_⟩⟩
  obtain ⟨mm, hmm⟩ : ∃ mm : Nat, 1 + d1 = (mm : Int) := ⟨(1 + d1).toNat, by omega⟩
  refine ⟨b, mm, m + (7 + 8 * (26 + cs d)), (by rw [← hmm]; rfl), B1.less (by omega), by omega, by omega, fun N names H2 nN0 k2 B2 hN nk => ?_⟩
  have nk8 : Nicks 8 names := ⟨nk.lo, Nat.le_trans nk.hi (by omega), nk.nd, nk.nm⟩
  have nlo := nk8.lo
  have nhi := nk8.hi
  have k12 := k1.trans k2
  have bN : N ≠ b := B1.ne nN0
  refine ⟨(by show 1 ≤ sizeLine; omega), fun U nU => ⟨(by show 1 ≤ sizeLine; omega), fun Fl nF => ⟨(by show 2 ≤ sizeLine; omega), fun pt npt => ?_⟩⟩⟩
  have sU := same_new nU (.lst [.str ""])
  have sF := same_new nF (.lst [.int 1])
  have sp := same_new npt (.tup [.ref U, .ref Fl])
  have s3 := sU.trans (sF.trans sp)
  have hU0 := (sF.trans sp) U _ (@upd_same H2 U (.lst [.str ""]))
  have hF0 := sp Fl _ (@upd_same (upd H2 U (.lst [.str ""])) Fl (.lst [.int 1]))
  have bU : U ≠ b := B2.ne nU
  have bF : Fl ≠ b := (B2.keep sU).ne nF
  have UF : U ≠ Fl := ne_of_none (@upd_same H2 U (.lst [.str ""])) nF
  have NU : N ≠ U := ne_of_none hN nU
  have NF : N ≠ Fl := ne_of_none (sU _ _ hN) nF
  have nU0 : H U = none := kept_none hB k12 nU B2.lst
  have nF0 : H Fl = none := kept_none hB (k12.trans (.of sU)) nF (B2.keep sU).lst
  have hpt := @upd_same (upd (upd H2 U (.lst [.str ""])) Fl (.lst [.int 1])) pt (.tup [.ref U, .ref Fl])
  have B3 := B2.keep s3
  have hN3 := s3 _ _ hN
  have k3 : Kept b H _ := k12.trans (.of s3)
  clear sp sU sF
  generalize upd (upd (upd H2 U (.lst [.str ""])) Fl (.lst [.int 1])) pt (.tup [.ref U, .ref Fl]) = H3 at *
  refine ⟨pt, _, rfl, SqT.of hpt, rfl, _, _, rfl, _, _, rfl, rfl, ?_⟩
  refine ⟨_, rfl, N, _, rfl, .inl (SqL.of hN3), _, _, rfl, ⟨by omega, by omega, by omega, by rw [List.length_map]; omega⟩, ?_⟩
  refine for_range (lo := 1) (fun i σ Hc => ∃ (up : List Str) (fl : List Nat) (z6 z7 z8 : Option V), σ = [some (.ref b), some (.int many), some (.ref S), some (.ref N), some (.ref U), some (.ref Fl), z6, z7, z8, none, none] ∧ TreeTo names up fl (i + 1) ∧ Hc U = some (.lst (up.map V.str)) ∧ Hc Fl = some (.lst (fl.map fun n : Nat => V.int n)) ∧
    Bag Hc b (m + 8 * (26 + cs d) + (7 - i)) ∧ Kept b H Hc ∧ Hc N = some (.lst (names.map V.str)))
    ⟨[""], [1], none, none, none, rfl, ⟨rfl, rfl, rfl, rfl, fun i i0 hi => by omega⟩, hU0, hF0, B3.less (by omega), k3, hN3⟩ ?_ ?_
  · rintro i σ Hc hi ⟨up, fl, z6, z7, z8, rfl, t, hUc, hFc, Bc, kc, hNc⟩
    rw [List.length_map] at hi
    have hi : i + 1 < names.length := by omega
    obtain ⟨e, he⟩ : ∃ e, 7 - i = e + 1 := ⟨6 - i, by omega⟩
    have he2 : 7 - (i + 1) = e := by omega
    rw [he] at Bc
    have tl := t.lf
    have tul := t.len
    refine ⟨_, rfl, 1 + (i : Int), rfl, by omega, by omega, fun DD nD => ?_⟩
    have bD : DD ≠ b := Bc.ne nD
    have nDF : Fl ≠ DD := ne_of_none hFc nD
    refine lc_range (lo := 0) (n := (1 + (i : Int)).toNat) (fun j Hd => ∃ us : List Nat, Hd DD = some (.lst (us.map fun n : Nat => V.int n)) ∧ (∀ u ∈ us, u < j ∧ ∃ f, fl[u]? = some f ∧ f < 4) ∧ us.length ≤ j ∧ (1 ≤ j → 1 ≤ us.length) ∧ Same Hc Hd)
      ⟨[], upd_same, (fun u hu => by cases hu), Nat.le_refl _, (fun h => by omega), same_new nD _⟩ ?_ ?_
    · rintro j Hd hj ⟨us, u1, u2, u3, u4, sm⟩
      obtain ⟨f, hf⟩ : ∃ f, fl[j]? = some f := ⟨_, List.getElem?_eq_getElem (by omega)⟩
      have ifl : atI (fl.map fun n : Nat => V.int n) (0 + (j : Int)) = some (.int (f : Int)) := by rw [Int.zero_add]; exact atI_nat (by rw [List.getElem?_map, hf]; rfl)
      refine ⟨rfl, _, rfl, _, rfl, Fl, _, _, _, rfl, rfl, SqL.of (sm _ _ hFc), ifl, _, _, rfl, rfl, _, rfl, itD (fun c => ?_) (fun c => ?_)⟩
      · refine ⟨_, rfl, _, u1, by rw [List.length_map]; omega, us ++ [j], ?_, fun u hu => ?_, by rw [List.length_append]; show us.length + 1 ≤ j + 1; omega, fun _ => by rw [List.length_append]; show 1 ≤ us.length + 1; omega, fun a o ha => ?_⟩
        · rw [upd_same, List.map_append, Int.zero_add]
          rfl
        · rcases List.mem_append.mp hu with hu | hu
          · obtain ⟨g1, g2⟩ := u2 u hu
            exact ⟨by omega, g2⟩
          · rw [List.mem_singleton.mp hu]
            exact ⟨by omega, f, hf, by omega⟩
        · rw [upd_ne (ne_of_none ha nD)]
          exact sm _ _ ha
      · refine ⟨us, u1, fun u hu => ?_, by omega, fun _ => ?_, sm⟩
        · obtain ⟨g1, g2⟩ := u2 u hu
          exact ⟨by omega, g2⟩
        · by_cases j0 : j = 0
          · subst j0
            rw [t.one] at hf
            cases hf
            omega
          · exact u4 (by omega)
    rintro Hd ⟨us, u1, u2, u3, u4, sm⟩
    have us1 := u4 (by omega)
    have Bd := Bc.keep sm
    refine ⟨_, rfl, _, rfl, _, rfl, DD, _, rfl, .inl (SqL.of u1), b, (us.length : Int), m + 8 * (26 + cs d) + e, (by rw [List.length_map]; rfl), Bd, by omega, by omega, fun z H4 k4 B4 z0 z1 => ?_⟩
    obtain ⟨w_, hw⟩ : ∃ w_, us[z.toNat]? = some w_ := ⟨_, List.getElem?_eq_getElem (by omega)⟩
    have iz : atI (us.map fun n : Nat => V.int n) z = some (.int (w_ : Int)) := by
      have y : atI (us.map fun n : Nat => V.int n) ((z.toNat : Nat) : Int) = some (.int (w_ : Int)) := atI_nat (by rw [List.getElem?_map, hw]; rfl)
      rw [show ((z.toNat : Nat) : Int) = z by omega] at y
      exact y
    obtain ⟨wl, f, hf, f4⟩ := u2 w_ (List.mem_of_getElem? hw)
    obtain ⟨nm, hnm⟩ : ∃ nm, names[w_]? = some nm := ⟨_, List.getElem?_eq_getElem (by omega)⟩
    refine ⟨DD, _, _, _, rfl, rfl, SqL.of (k4 _ _ bD u1), iz, ?_⟩
    have kc4 : Kept b Hc H4 := (Kept.of sm).trans k4
    have hU4 := kc4 _ _ bU hUc
    have hF4 := kc4 _ _ bF hFc
    have hN4 := kc4 _ _ bN hNc
    have inm : atI (names.map V.str) (w_ : Int) = some (.str nm) := atI_nat (by rw [List.getElem?_map, hnm]; rfl)
    have ifl : atI (fl.map fun n : Nat => V.int n) (w_ : Int) = some (.int (f : Int)) := atI_nat (by rw [List.getElem?_map, hf]; rfl)
    refine ⟨_, rfl, .inl ⟨rfl, _, SqL.of hU4⟩, _, rfl, _, rfl, N, _, _, _, rfl, rfl, SqL.of hN4, inm, U, _, _, rfl, rfl, hU4, by rw [List.length_map]; omega, ?_⟩
    have hF5 : upd H4 U (.lst (up.map V.str ++ [.str nm])) Fl = some (.lst (fl.map fun n : Nat => V.int n)) := by rw [upd_ne UF.symm]; exact hF4
    refine ⟨_, rfl, .inl ⟨rfl, _, SqL.of hF5⟩, _, rfl, _, rfl, Fl, _, _, _, rfl, rfl, SqL.of hF5, ifl, _, _, rfl, rfl, Fl, _, _, rfl, rfl, hF5, by rw [List.length_map]; omega, up ++ [nm], fl ++ [f + 1], _, _, _, rfl, t.more (by omega) hnm hf f4, ?_, ?_, ?_, ?_, ?_⟩
    · rw [upd_ne UF, upd_same, List.map_append]
      rfl
    · rw [upd_same, List.map_append]
      rfl
    · rw [he2]
      exact (B4.put bU.symm).put bF.symm
    · intro a' o' na ha
      rw [upd_ne (fun z => by rw [z, nF0] at ha; cases ha), upd_ne (fun z => by rw [z, nU0] at ha; cases ha)]
      exact kc4 _ _ na (kc _ _ na ha)
    · rw [upd_ne NF, upd_ne NU]
      exact hN4
  · rintro σ Hc ⟨up, fl, z6, z7, z8, rfl, t, hUc, hFc, Bc, kc, hNc⟩
    rw [List.length_map] at t Bc
    have en : (((names.length : Int) - 1).toNat + 1) = names.length := by omega
    rw [en] at t
    exact fin _ Hc N U Fl names up fl z6 z7 z8 rfl kc (Bc.less (by omega)) hNc bN hUc bU ⟨t.len, t.lf, nk8, t.first, t.one, t.below⟩
end
end Any
set_option pp.maxSteps 600
namespace Any
open L2 PySem PySem.Spec PyProof.Rows LamX NdefX
/-! ### places of a right program's room; measure -/
theorem right_lays {rs : List Rm} (h : Right rs) {i : Nat} {r : Rm} (hi : rs[i]? = some r) : r.lays := by
  obtain ⟨ws, b1, b2, b3, b4⟩ := body_of h hi
  refine ⟨⟨_, _, _, b1⟩, b2, b3, ?_, fun ha => ?_⟩
  · have := Bd.sz_tot r.body
    omega
  · have z := h.all i r hi
    have i0 : i ≠ 0 := fun e => ha (z.above.1 e)
    obtain ⟨j, e, h1, _⟩ := (z.other i0).1.2.1
    exact ⟨j, e, h1⟩
abbrev sPlc : Stmt := top 35
abbrev sMe : Stmt := top 51
abbrev nmMe : List Str := ["program", "name", "room", "weights", "numbers", "behind", "fors", "step"]
theorem scPlc : FnScope ["program", "name"] ["program", "name"] (defScope sPlc) := ⟨rfl, rfl, rfl, by decide +kernel, rfl, by decide +kernel, by decide +kernel⟩
theorem scMe : FnScope nmMe ["program", "name"] (defScope sMe) := ⟨rfl, rfl, rfl, by decide +kernel, rfl, by decide +kernel, by decide +kernel⟩
def spPlc (C D : Addr) : Sp := fun vs H Q _ => ∃ (x : Addr) (rs : List Rm) (i : Nat) (r : Rm), vs = [.ref x, .str r.name] ∧ PgOk C D H x rs ∧ Right rs ∧ rs[i]? = some r ∧ ∀ p H', H p = none → Same H H' → FoundAt H' p r.places → Q (.ref p) H'
/-- a paper: what is left at the places, what the fors weigh -/
def MeAt (H : Hp) (p : Addr) (Ns Ts : List Int) : Prop := ∃ q1 q2, H p = some (.tup [.ref q1, .ref q2]) ∧ H q1 = some (.tup (Ns.map V.int)) ∧ H q2 = some (.tup (Ts.map V.int))
theorem MeAt.keep {H H' : Hp} {p : Addr} {Ns Ts : List Int} (h : MeAt H p Ns Ts) (k : Tups H H') : MeAt H' p Ns Ts := by
  obtain ⟨q1, q2, h1, h2, h3⟩ := h
  exact ⟨q1, q2, k _ _ h1, k _ _ h2, k _ _ h3⟩
def spMe (C D : Addr) : Sp := fun vs H Q _ => ∃ (x : Addr) (rs : List Rm) (i : Nat) (r : Rm), vs = [.ref x, .str r.name] ∧ PgOk C D H x rs ∧ Right rs ∧ rs[i]? = some r ∧ ∀ p H', Same H H' → MeAt H' p (r.numsR (Wt rs)) (r.body.turns (Wt rs)) → Q (.ref p) H'
theorem zeros : ∀ n : Nat, (List.replicate n [V.int 0]).flatten = (List.replicate n (0 : Int)).map V.int
  | 0 => rfl
  | n + 1 => by
    rw [List.replicate_succ, List.replicate_succ, List.flatten_cons, zeros n]
    rfl
theorem fm_turn (W : Str → Int) : ∀ l : List Sg, (l.map fun s => (turnOf W s).map V.int).filterMap id = (l.filterMap (turnOf W)).map V.int
  | [] => rfl
  | s :: r => by
    have ih := fm_turn W r
    rw [List.map_cons, List.filterMap_cons, List.filterMap_cons]
    cases turnOf W s with
    | none => exact ih
    | some b =>
      show V.int b :: _ = V.int b :: _
      rw [ih]
theorem tail2 {n : Nat} (h : 2 ≤ n) : sliceBounds (some (-2)) none none n = (((n - 2 : Nat) : Int), (n : Int), 1) := by
  unfold sliceBounds
  dsimp only [Option.getD]
  show (max (0 : Int) (min (-2 + (n : Int)) n), (n : Int), (1 : Int)) = _
  rw [show max (0 : Int) (min (-2 + (n : Int)) n) = ((n - 2 : Nat) : Int) by omega]
section
variable {P : Program} {w : World} {K : PySem.W.Frag} {mg : Str → Option Value} {base : Heap} {f C D : Addr} {fd : FuncData}
theorem ok_plc (TP : HeldC K D) (MO : Mf P w K mg base D 1 "room_of" ["self", "name"] (spRO C D)) (RP : Df P w K mg base 15 "room_places" ["room"] (spRP C)) (F : Fun K "places" "places" sPlc f fd) : FnOk P w K mg base CX0 16 f fd ["program", "name"] (spPlc C D) := by
  refine F.ok scPlc (fun vs H Q E h => ?_) (fun cdv A outer s H vs Q E hr h => ?_)
  · obtain ⟨x, rs, i, r, rfl, _⟩ := h
    rfl
  obtain ⟨x, rs, i, r, rfl, hpg, ok, hi, q⟩ := h
  obtain ⟨R, ⟨dx, v, hx⟩, hR⟩ := id hpg
  refine ⟨_, pss_one (ps_ret (pe_D RP hr rfl (pa_cons (pe_M MO TP.cl (pv 0) (hr.mono (by decide)) (pa_cons (pv 1) pa_nil)) pa_nil))), ?_⟩
  exact ⟨_, rfl, x, dx, _, rfl, hx, pf_none (by decide +kernel) (by decide +kernel), _, rfl, x, R, r.name, rs, i, r, rfl, ⟨dx, v, hx⟩, hR, hi, rfl, right_uno ok hi, fun a hat => ⟨a, r, rfl, hat, right_lays ok hi, q⟩⟩
theorem tw_of (N : Nd K mg "turn_weight" sTW ["step", "weights"]) (DB : Df P w K mg base 13 "body_weight" ["body", "weights"] (spBW 4)) : Df P w K mg base 14 "turn_weight" ["step", "weights"] (spTW 4) := by
  obtain ⟨f, fd, h1, h2, h3⟩ := N
  exact ⟨f, fd, h1, h2.kp, ok_tw h2 DB, h3⟩
set_option maxHeartbeats 1000000 in
theorem ok_me (O : Own mg) (T : RoomC K C) (TP : HeldC K D) (MO : Mf P w K mg base D 1 "room_of" ["self", "name"] (spRO C D)) (BW : Df P w K mg base 14 "body_weights" ["program"] (spBWs C D)) (DP : Df P w K mg base 16 "places" ["program", "name"] (spPlc C D)) (NB : Df P w K mg base 22 "number_body" psNB (spNB 4))
    (DA : Df P w K mg base 6 "all_steps" ["body"] (spAls 5)) (DT : Df P w K mg base 14 "turn_weight" ["step", "weights"] (spTW 4)) (F : Fun K "measure" "measure" sMe f fd) : FnOk P w K mg base CX0 23 f fd ["program", "name"] (spMe C D) := by
  refine F.ok scMe (fun vs H Q E h => ?_) (fun cdv A outer s H vs Q E hr h => ?_)
  · obtain ⟨x, rs, i, r, rfl, _⟩ := h
    rfl
  obtain ⟨x, rs, i, r, rfl, hpg, ok, hi, q⟩ := h
  obtain ⟨R, ⟨dx, v, hx⟩, hR⟩ := id hpg
  have hs : sizeLine = 16777216 := sizeLine_eq
  have hr1 := hr.mono (show 1 ≤ 22 by decide)
  have hr6 := hr.mono (show 6 ≤ 22 by decide)
  have hr14 := hr.mono (show 14 ≤ 22 by decide)
  have hr16 := hr.mono (show 16 ≤ 22 by decide)
  obtain ⟨ws, b1, b2, b3, b4⟩ := body_of ok hi
  have zt := Bd.sz_tot r.body
  have ly := right_lays ok hi
  have hfall := (room_fall (W := Wt rs) (fun y _ => wt_nn ok y) b1 ly.told).1
  have hnl : (r.numsR (Wt rs)).length = 1 + r.body.sz + r.tl.length := by
    unfold Rm.numsR
    rw [List.length_append, List.length_append, Bd.nums_len]
    rfl
  have htl : r.tl.length ≤ 2 := by
    unfold Rm.tl
    split
    · exact Nat.zero_le _
    · exact Nat.le_refl _
  -- the end
  obtain ⟨t1, ht1, leaf⟩ : ∃ t1, PSs (cxOf CX0 P w K mg base nmMe "measure" (defScope sMe) f cdv A outer s H E).nox ((defBody sMe).drop 5) t1 ∧
      ∀ (H1 : Hp) (a Wd L : Addr), Same H H1 → H L = none → RmAt C H a r → H1 Wd = some (.dK (bx (tabF gW rs.reverse))) → H1 L = some (.lst (([0] ++ List.replicate r.body.sz 0 ++ r.tl).map V.int)) →
        t1 { nx := fun _ H' => Q .non H', rt := Q } [some (.ref x), some (.str r.name), some (.ref a), some (.ref Wd), some (.ref L), some (.int r.kB), none, none] H1 := by
    refine ⟨_, pss_cons (ps_expr (pe_D NB hr rfl (pa_cons (pv 4) (pa_cons (pe_fld (pv 2) rfl) (pa_cons pe_int (pa_cons (pv 5) (pa_cons (pv 3) pa_nil)))))))
      (pss_cons (ps_setLc (i := 6) (own := [("step", 7)]) (g := gName 7) (tt := tTest (tOp rEq (tOp (rIxT K) (tVar 7) (tC (.int 0))) (tC (.str "for")))) (te := tCall (spTW 4) [] E0 (tCons (tVar 7) (tCons (tVar 3) tNil))) (by rfl) scMe.nd rfl rfl (sw_true rfl rfl rfl (by decide +kernel)) (pi_list (pe_D DA hr6 rfl (pa_cons (pe_fld (pv 2) rfl) pa_nil))) (blkOk_by (N := nmMe) (sc := defScope sMe) (by decide +kernel))
          (fun _ _ _ _ _ => pg_name (i := 7) scMe.nd rfl (Or.inl rfl)) (fun _ _ _ _ _ => pts_one (pt_cmpR op_eq (pe_ix (show IxR _ (rIxT K) from ix_tup) (pv 7) pe_int (fun _ _ => rfl)) pe_str (nomark _))) (fun _ _ _ _ _ => pe_D DT hr14 rfl (pa_cons (pv 7) (pa_cons (pv 3) pa_nil))))
      (pss_one (ps_ret (pe_tup (pa_cons (pe_callTy call_tuple_of rfl O.tuple (by decide +kernel) (pa_cons (pv 4) pa_nil)) (pa_cons (pe_callTy call_tuple_of rfl O.tuple (by decide +kernel) (pa_cons (pv 6) pa_nil)) pa_nil)))))), ?_⟩
    intro H1 a Wd L s1 nL hat hW hL
    obtain ⟨dy, n', a', b', s', k', t', p', y', g1, g2⟩ := hat
    obtain ⟨c, rfl, hc⟩ := g2.body
    have hWts : WtsAt H1 Wd (tabF gW rs.reverse) (ben rs r.name) := ⟨hW, fun y hy => by
      obtain ⟨k, o, _, ho, rfl⟩ := ben_behind ok hi hy
      exact ⟨_, look_wt ok ho⟩⟩
    refine ⟨_, rfl, _, rfl, a, C, dy, _, _, rfl, s1 _ _ g1, T.cl, T.n8, rf_body, _, rfl, _, rfl, L, c, Wd, 1, 1, r.kB, _, r.body, tabF gW rs.reverse, r.bn, ws, ben rs r.name, rfl, rfl, hL, hc.keep (Same.tups s1), b3, b1, b2, hWts, ?_, ?_, fun H2 k2 hL2 => ?_⟩
    · rw [List.length_append, List.length_append, List.length_replicate]
      show 1 + r.body.sz ≤ 1 + r.body.sz + r.tl.length
      omega
    · rw [List.length_append, List.length_append, List.length_replicate]
      show 1 + r.body.sz + r.tl.length ≤ 1000
      omega
    have s2 : Same H H2 := kept_same s1 nL k2
    have em : ow ([0] ++ List.replicate r.body.sz 0 ++ r.tl) 1 (r.body.nums (lk (tabF gW rs.reverse)) r.kB) = r.numsR (Wt rs) := ow_mid (r.body.nums (lk (tabF gW rs.reverse)) r.kB) (List.replicate r.body.sz 0) [0] r.tl (by rw [List.length_replicate, Bd.nums_len])
    rw [em] at hL2
    have hL2 : H2 L = some (.lst ((r.numsR (Wt rs)).map V.int)) := hL2
    have hWts2 := hWts.keepX k2 hL
    refine ⟨_, rfl, a, C, dy, _, _, rfl, s2 _ _ g1, T.cl, T.n8, rf_body, c, r.body, rfl, hc.keep (Same.tups s2), by omega, by omega, fun p us H3 np s3 hp3 pp => ⟨p, rfl, ⟨_, SqL.of hp3⟩, fun G nG => ?_⟩⟩
    have lus := paired_len pp
    rw [Bd.allS_len] at lus
    refine turns_list (K := K) (a := p) (xs := us) (r.body.allS.map fun z => (turnOf (Wt rs) z).map V.int) nG (fun Hc sm => SqL.of (sm _ _ hp3)) (by rw [List.length_map, Bd.allS_len]; exact lus.symm) (by omega) ?_ ?_
    · intro j z o Hc Y N hz ho sm hY hN
      obtain ⟨st, hst, hsg⟩ := paired_get pp hz
      have hsg := SgAt.keep (Same.tups sm) st hsg
      obtain ⟨ok2, dp2⟩ := Bd.allS_ok r.body b1 (List.mem_of_getElem? hst)
      rw [List.getElem?_map, hst] at ho
      have ho : o = (turnOf (Wt rs) st).map V.int := (Option.some.inj ho).symm
      cases st with
      | fors e m a2 =>
        unfold SgAt at hsg
        unfold Sg.ok at ok2
        have d2 : Sg.dp (.fors e m a2) = a2.dp + 1 := by unfold Sg.dp; rfl
        obtain ⟨pp, u, pb, bs, rfl, h1, h2, h3, h4⟩ := hsg
        refine ⟨rfl, _, rfl, _, _, _, _, rfl, rfl, SqT.of h1, atI_nat (j := 0) rfl, rfl, _, rfl, itT eq_str ?_⟩
        exact ⟨_, rfl, _, rfl, _, u, m, pp, pb, a2, Wd, tabF gW rs.reverse, r.bn, ws, ben rs r.name, rfl, rfl, h1, ⟨_, h3, h4⟩, by omega, ok2.2.2.1, ok2.2.2.2, (hWts2.keep s3).keep sm, fun H' sm' => hY _ ho H' sm'⟩
      | ifs t a2 b2 =>
        unfold SgAt at hsg
        obtain ⟨pp, u, pb, pc, bs, cs, rfl, h1, _⟩ := hsg
        exact ⟨rfl, _, rfl, _, _, _, _, rfl, rfl, SqT.of h1, atI_nat (j := 0) rfl, rfl, _, rfl, itF (ne_str (by decide)) (hN ho Hc same_refl)⟩
      | call x2 r2 e =>
        unfold SgAt at hsg
        obtain ⟨pp, u, rfl, h1, _⟩ := hsg
        exact ⟨rfl, _, rfl, _, _, _, _, rfl, rfl, SqT.of h1, atI_nat (j := 0) rfl, rfl, _, rfl, itF (ne_str (by decide)) (hN ho Hc same_refl)⟩
      | set x2 e =>
        unfold SgAt at hsg
        obtain ⟨pp, u, rfl, h1, _⟩ := hsg
        exact ⟨rfl, _, rfl, _, _, _, _, rfl, rfl, SqT.of h1, atI_nat (j := 0) rfl, rfl, _, rfl, itF (ne_str (by decide)) (hN ho Hc same_refl)⟩
      | say x2 e =>
        unfold SgAt at hsg
        obtain ⟨pp, u, rfl, h1, _⟩ := hsg
        exact ⟨rfl, _, rfl, _, _, _, _, rfl, rfl, SqT.of h1, atI_nat (j := 0) rfl, rfl, _, rfl, itF (ne_str (by decide)) (hN ho Hc same_refl)⟩
      | hear x2 =>
        unfold SgAt at hsg
        obtain ⟨pp, rfl, h1⟩ := hsg
        exact ⟨rfl, _, rfl, _, _, _, _, rfl, rfl, SqT.of h1, atI_nat (j := 0) rfl, rfl, _, rfl, itF (ne_str (by decide)) (hN ho Hc same_refl)⟩
    · intro H4 hG4 s4
      rw [fm_turn, ← Bd.turns_all] at hG4
      refine ⟨_, rfl, L, _, rfl, .inl ⟨SqL.of (s4 _ _ (s3 _ _ hL2)), fun q1 n1 => ?_⟩⟩
      have s5 := same_new n1 (.tup ((r.numsR (Wt rs)).map V.int))
      refine ⟨_, rfl, G, _, rfl, .inl ⟨SqL.of (s5 _ _ hG4), fun q2 n2 => ⟨(by show 2 ≤ sizeLine; omega), fun p3 n3 => ?_⟩⟩⟩
      have s6 := same_new n2 (.tup ((r.body.turns (Wt rs)).map V.int))
      have s7 := same_new n3 (.tup [.ref q1, .ref q2])
      refine q p3 _ (s2.trans (s3.trans (s4.trans (s5.trans (s6.trans s7))))) ⟨q1, q2, upd_same, s7 _ _ (s6 _ _ upd_same), s7 _ _ upd_same⟩
  refine ⟨_, pss_cons (ps_set (i := 2) scMe.nd rfl (Or.inl rfl) (pe_M MO TP.cl (pv 0) hr1 (pa_cons (pv 1) pa_nil)))
    (pss_cons (ps_set (i := 3) scMe.nd rfl (Or.inr rfl) (pe_D BW hr14 rfl (pa_cons (pv 0) pa_nil)))
    (pss_cons (ps_set (i := 4) scMe.nd rfl (Or.inl rfl) (pe_op op_rep (pe_lst (pa_cons pe_int pa_nil)) (pe_callB call_len_seq rfl O.len PySem.boot_len (pa_cons (pe_D DP hr16 rfl (pa_cons (pv 0) (pa_cons (pv 1) pa_nil))) pa_nil))))
    (pss_cons (ps_set (i := 5) scMe.nd rfl (Or.inl rfl) pe_int)
    (pss_cons (ps_if (pt_cmpR op_ne (pe_fld (pv 2) rfl) pe_str (nomark _)) (pss_cons (ps_asg (pe_lst (pa_cons pe_int (pa_cons pe_int pa_nil))) (pg_tail (pv 4) (pe_un un_neg pe_int) (by intro _; rfl))) (pss_one (ps_set (i := 5) scMe.nd rfl (Or.inl rfl) pe_int))) pss_nil) ht1)))), ?_⟩
  refine ⟨_, rfl, x, dx, _, rfl, hx, pf_none (by decide +kernel) (by decide +kernel), _, rfl, x, R, r.name, rs, i, r, rfl, ⟨dx, v, hx⟩, hR, hi, rfl, right_uno ok hi, fun a hat => ?_⟩
  refine ⟨_, rfl, x, rs, rfl, hpg, ok, fun Wd H1 nW s1 hW => ?_⟩
  refine ⟨(by show 1 ≤ sizeLine; omega), fun z nz => ?_⟩
  have s2 := s1.trans (same_new nz (.lst [.int 0]))
  have hz : upd H1 z (.lst [.int 0]) z = some (.lst [.int 0]) := upd_same
  have hW2 := (same_new nz (.lst [.int 0])) _ _ hW
  generalize upd H1 z (.lst [.int 0]) = H2 at *
  refine ⟨_, rfl, _, rfl, x, rs, i, r, rfl, hpg.keep s2, ok, hi, fun p H3 np s3 hF => ?_⟩
  obtain ⟨vs, hv, hpp⟩ := hF
  have hvl := paired_len hpp
  rw [hfall, hnl] at hvl
  refine ⟨p, _, rfl, .inl (SqL.of hv), z, _, _, rfl, rfl, s3 _ _ hz, by omega, by omega, (by rw [hvl, Int.toNat_natCast]; show 1 * _ ≤ sizeLine; omega), fun L nL => ?_⟩
  rw [hvl, Int.toNat_natCast, zeros]
  have nL0 : H L = none := s2.free (s3.free nL)
  have s4 := s3.trans (same_new nL (.lst ((List.replicate (1 + r.body.sz + r.tl.length) (0 : Int)).map V.int)))
  have hL4 : upd H3 L (.lst ((List.replicate (1 + r.body.sz + r.tl.length) (0 : Int)).map V.int)) L = some (.lst ((List.replicate (1 + r.body.sz + r.tl.length) (0 : Int)).map V.int)) := upd_same
  generalize upd H3 L (.lst ((List.replicate (1 + r.body.sz + r.tl.length) (0 : Int)).map V.int)) = H4 at *
  obtain ⟨dy, n', a', b', s', k', t', p', y', g1, g2⟩ := id hat
  have hab := g2.above
  subst hab
  refine ⟨_, rfl, a, C, dy, _, _, rfl, s4 _ _ (s2 _ _ g1), T.cl, T.n2, rf_above, rfl, _, rfl, itN (fun c1 => ?_) (fun c1 => ?_)⟩
  · have c1 : ¬ r.above = "" := fun e => c1 (by rw [e])
    have etl : r.tl = [3, 2] := if_neg c1
    have ekB : r.kB = 3 := if_neg c1
    refine ⟨(by show 2 ≤ sizeLine; omega), fun m nm => ?_⟩
    have s5 := same_new nm (.lst [.int 3, .int 2])
    have hm : upd H4 m (.lst [.int 3, .int 2]) m = some (.lst [.int 3, .int 2]) := upd_same
    have hL5 := s5 _ _ hL4
    have nLm : L ≠ m := ne_of_none hL4 nm
    have hW5 := s5 _ _ (s4 _ _ hW2)
    generalize upd H4 m (.lst [.int 3, .int 2]) = H5 at *
    refine ⟨_, rfl, _, rfl, _, rfl, L, m, _, _, -2, r.body.sz + 1, rfl, rfl, rfl, hL5, hm, nLm, ?_, ?_, ?_, ?_⟩
    · rw [List.length_map, List.length_replicate, tail2 (by rw [etl]; show 2 ≤ 1 + r.body.sz + 2; omega), etl]
      show ((((1 + r.body.sz + 2 - 2 : Nat)) : Int), _, _) = _
      rw [show 1 + r.body.sz + 2 - 2 = r.body.sz + 1 by omega]
    · rw [List.length_map, List.length_replicate]
      omega
    · rw [List.length_map, List.length_replicate]
      show 1 + r.body.sz + r.tl.length + 2 ≤ sizeLine
      omega
    have k6 : Kept L H5 (upd H5 L (.lst (((List.replicate (1 + r.body.sz + r.tl.length) (0 : Int)).map V.int).take (r.body.sz + 1) ++ [.int 3, .int 2]))) := Kept.put _
    have z5 := leaf _ a Wd L (kept_same (s2.trans (s4.trans s5)) nL0 k6) nL0 hat (k6 _ _ (ne_of hW5 hL5 (by intro z; cases z)) hW5) (by
      rw [upd_same, etl, ← List.map_take, List.take_replicate]
      show some (HO.lst ((List.replicate (min (r.body.sz + 1) (1 + r.body.sz + 2)) (0 : Int)).map V.int ++ [3, 2].map V.int)) = _
      rw [← List.map_append, show min (r.body.sz + 1) (1 + r.body.sz + 2) = r.body.sz + 1 by omega, List.replicate_succ]
      rfl)
    rw [ekB] at z5
    exact z5
  · have c1 : r.above = "" := V.str.inj c1
    have etl : r.tl = [] := if_pos c1
    have ekB : r.kB = 0 := if_pos c1
    have z5 := leaf _ a Wd L (s2.trans s4) nL0 hat (s4 _ _ hW2) (by
      rw [hL4, etl, show 1 + r.body.sz + ([] : List Int).length = r.body.sz + 1 by show 1 + r.body.sz + 0 = _; omega, List.replicate_succ, List.append_nil]
      rfl)
    rw [ekB] at z5
    exact z5
end
end Any
set_option pp.maxSteps 600
namespace Any
open L2 PySem PySem.Spec PyProof.Rows LamX NdefX
/-! ### what the law and measure_holds ask of the numbers -/
mutual
theorem Sg.nums_nn {xs ws rs : List Str} {W : Str → Int} (hW : ∀ r ∈ rs, 0 ≤ W r) {x : Int} : ∀ (s : Sg), s.ok xs ws rs → ∀ l : Int, 0 ≤ l - s.wt W → x ∈ s.nums W l → 0 ≤ x
  | .ifs t a b, ho, l, h, hx => by
    have w0 := Sg.wt_nn hW _ ho
    unfold Sg.ok at ho
    unfold Sg.nums at hx
    rcases List.mem_cons.mp hx with e | hx
    · omega
    rcases List.mem_append.mp hx with hx | hx
    · exact Bd.nums_nn hW a ho.2.1.1 _ h hx
    · exact Bd.nums_nn hW b ho.2.2.1 _ h hx
  | .fors e m a, ho, l, h, hx => by
    have w0 := Sg.wt_nn hW _ ho
    unfold Sg.ok at ho
    unfold Sg.nums at hx
    rcases List.mem_cons.mp hx with e | hx
    · omega
    rcases List.mem_cons.mp hx with e | hx
    · omega
    exact Bd.nums_nn hW a ho.2.2.1 _ (by omega) hx
  | .call _ _ _, ho, l, h, hx => by
    have w0 := Sg.wt_nn hW _ ho
    unfold Sg.nums at hx
    rcases List.mem_cons.mp hx with e | hx
    · omega
    rcases List.mem_cons.mp hx with e | hx
    · omega
    have := List.mem_singleton.mp hx
    omega
  | .set _ _, ho, l, h, hx => by
    have w0 := Sg.wt_nn hW _ ho
    unfold Sg.nums at hx
    have := List.mem_singleton.mp hx
    omega
  | .say _ _, ho, l, h, hx => by
    have w0 := Sg.wt_nn hW _ ho
    unfold Sg.nums at hx
    have := List.mem_singleton.mp hx
    omega
  | .hear _, ho, l, h, hx => by
    have w0 := Sg.wt_nn hW _ ho
    unfold Sg.nums at hx
    have := List.mem_singleton.mp hx
    omega
theorem Bd.nums_nn {xs ws rs : List Str} {W : Str → Int} (hW : ∀ r ∈ rs, 0 ≤ W r) {x : Int} : ∀ (b : Bd), b.ok xs ws rs → ∀ k : Int, 0 ≤ k → x ∈ b.nums W k → 0 ≤ x
  | .nil, ho, k, h, hx => by
    unfold Bd.nums at hx
    cases hx
  | .cons s b, ho, k, h, hx => by
    unfold Bd.ok at ho
    have w1 := Bd.wt_nn hW _ ho.2
    have e : Bd.wt W (.cons s b) = s.wt W + b.wt W := by rw [Bd.wt]
    unfold Bd.nums at hx
    rcases List.mem_append.mp hx with hx | hx
    · exact Sg.nums_nn hW s ho.1 _ (by omega) hx
    · exact Bd.nums_nn hW b ho.2 _ h hx
end
theorem turns_pos {xs ws rs : List Str} {W : Str → Int} (hW : ∀ r ∈ rs, 0 ≤ W r) {b : Bd} (ho : b.ok xs ws rs) {x : Int} (hx : x ∈ b.turns W) : 1 ≤ x := by
  rw [Bd.turns_all] at hx
  obtain ⟨s, hs, he⟩ := List.mem_filterMap.mp hx
  have ok2 := (Bd.allS_ok b ho hs).1
  cases s with
  | fors e m a =>
    unfold Sg.ok at ok2
    have w0 := Bd.wt_nn hW _ ok2.2.2.1
    have he : some (1 + a.wt W) = some x := he
    have := Option.some.inj he
    omega
  | ifs t a b => cases he
  | call x r e => cases he
  | set x e => cases he
  | say x e => cases he
  | hear x => cases he
/-- what the text says of a place -/
def Pl.wok (rs : List Str) : Pl → Prop
  | .forp _ _ m _ => 1 ≤ m ∧ m ≤ 9
  | .ask _ r _ _ _ => r ∈ rs
  | _ => True
mutual
theorem Sg.pls_wok {xs ws rs : List Str} {z : Pl} : ∀ (s : Sg), s.ok xs ws rs → ∀ (p f : Nat) (j : Int), z ∈ s.pls p f j → z.wok rs
  | .ifs t a b, ho, p, f, j, h => by
    unfold Sg.ok at ho
    unfold Sg.pls at h
    rcases List.mem_cons.mp h with e | h
    · rw [e]; trivial
    rcases List.mem_append.mp h with h | h
    · exact Bd.pls_wok a ho.2.1.1 _ _ _ h
    · exact Bd.pls_wok b ho.2.2.1 _ _ _ h
  | .fors e m a, ho, p, f, j, h => by
    unfold Sg.ok at ho
    unfold Sg.pls at h
    rcases List.mem_cons.mp h with e | h
    · rw [e]; exact ho.2.1
    rcases List.mem_cons.mp h with e | h
    · rw [e]; trivial
    exact Bd.pls_wok a ho.2.2.1 _ _ _ h
  | .call x r e, ho, p, f, j, h => by
    unfold Sg.ok at ho
    unfold Sg.pls at h
    rcases List.mem_cons.mp h with e | h
    · rw [e]; exact ho.2.1
    rcases List.mem_cons.mp h with e | h
    · rw [e]; trivial
    rw [List.mem_singleton.mp h]; trivial
  | .set x e, ho, p, f, j, h => by unfold Sg.pls at h; rw [List.mem_singleton.mp h]; trivial
  | .say x e, ho, p, f, j, h => by unfold Sg.pls at h; rw [List.mem_singleton.mp h]; trivial
  | .hear x, ho, p, f, j, h => by unfold Sg.pls at h; rw [List.mem_singleton.mp h]; trivial
theorem Bd.pls_wok {xs ws rs : List Str} {z : Pl} : ∀ (b : Bd), b.ok xs ws rs → ∀ (p f : Nat) (j : Int), z ∈ b.pls p f j → z.wok rs
  | .nil, ho, p, f, j, h => by unfold Bd.pls at h; cases h
  | .cons s b, ho, p, f, j, h => by
    unfold Bd.ok at ho
    unfold Bd.pls at h
    rcases List.mem_append.mp h with h | h
    · exact Sg.pls_wok s ho.1 _ _ _ h
    · exact Bd.pls_wok b ho.2 _ _ _ h
end
def Rm.plTl (r : Rm) : List Pl := if r.above = "" then [] else match r.told with
  | some (b, e) => [.tell b e (r.behind + 1), .told 0]
  | none => []
theorem Rm.places_eq (r : Rm) : r.places = [.home (begI r.body 1 r.behind)] ++ r.body.pls 1 0 r.behind ++ r.plTl := by
  unfold Rm.places Rm.plTl
  rw [addB_pls r.body _ 0 _ rfl]
  by_cases ha : r.above = ""
  · rw [if_pos ha, if_pos ha, List.append_nil]
    rfl
  · rw [if_neg ha, if_neg ha]
    cases r.told with
    | none =>
      dsimp only
      rw [List.append_nil]
      rfl
    | some q =>
      dsimp only
      rw [List.append_assoc _ [Pl.tell _ _ _] _]
      rfl
theorem Rm.places_fors (r : Rm) : fors r.places = r.body.nf := by
  rw [Rm.places_eq, fors_app, fors_app, Bd.pls_fors]
  have e1 : fors [Pl.home (begI r.body 1 r.behind)] = 0 := rfl
  have e2 : fors r.plTl = 0 := by
    unfold Rm.plTl
    split
    · rfl
    · split <;> rfl
  rw [e1, e2]
  omega
theorem Rm.places_wok {r : Rm} {xs ws rs : List Str} (ho : r.body.ok xs ws rs) {z : Pl} (h : z ∈ r.places) : z.wok rs := by
  rw [Rm.places_eq] at h
  rcases List.mem_append.mp h with h | h
  · rcases List.mem_append.mp h with h | h
    · rw [List.mem_singleton.mp h]; trivial
    · exact Bd.pls_wok r.body ho _ _ _ h
  · unfold Rm.plTl at h
    split at h
    · cases h
    · split at h
      · rcases List.mem_cons.mp h with e | h
        · rw [e]; trivial
        · rw [List.mem_singleton.mp h]; trivial
      · cases h
theorem ni_at {Ns : List Int} {i a : Int} (h : Ni Ns i a) : atI (Ns.map V.int) i = some (.int a) := by
  obtain ⟨t, rfl, h⟩ := h
  exact atI_nat (by rw [List.getElem?_map, h]; rfl)
abbrev sAre : Stmt := top 55
abbrev sFa : Stmt := top 56
abbrev nmAre : List Str := ["thing", "many", "least", "number"]
abbrev nmFa : List Str := ["found", "at", "numbers", "fors", "weights", "place", "kind", "number", "behind"]
abbrev psFa : List Str := ["found", "at", "numbers", "fors", "weights"]
theorem scAre : FnScope nmAre ["thing", "many", "least"] (defScope sAre) := ⟨rfl, rfl, rfl, by decide +kernel, rfl, by decide +kernel, by decide +kernel⟩
theorem scFa : FnScope nmFa psFa (defScope sFa) := ⟨rfl, rfl, rfl, by decide +kernel, rfl, by decide +kernel, by decide +kernel⟩
def spAre : Sp := fun vs H Q _ => ∃ (a : Addr) (ns : List Int) (m l : Int), vs = [.ref a, .int m, .int l] ∧ H a = some (.tup (ns.map V.int)) ∧ m = (ns.length : Int) ∧ (∀ n ∈ ns, l ≤ n) ∧ ns.length ≤ 1000 ∧ ∀ H', Same H H' → Q (.bl true) H'
def spFa : Sp := fun vs H Q _ => ∃ (L q1 q2 D : Addr) (i n : Int) (t : Nat) (ps : List Pl) (pl : Pl) (Ns Ts : List Int) (kvs : List (Str × Int)) (rs : List Str), vs = [.ref L, .int i, .ref q1, .ref q2, .ref D] ∧ i = (t : Int) ∧ FoundAt H L ps ∧ ps[t]? = some pl ∧ pl.wok rs ∧
  H q1 = some (.tup (Ns.map V.int)) ∧ H q2 = some (.tup (Ts.map V.int)) ∧ Ns[t]? = some n ∧ fallP ps (lk kvs) Ns Ts n pl ∧ WtsAt H D kvs rs ∧ Q (.bl true) H
section
variable {P : Program} {w : World} {K : PySem.W.Frag} {mg : Str → Option Value} {base : Heap} {f : Addr} {fd : FuncData}
theorem ok_are (O : Own mg) (IW : Df P w K mg base 1 "is_whole" ["thing"] spWhole) (F : Fun K "are_from" "are_from" sAre f fd) : FnOk P w K mg base CX0 2 f fd ["thing", "many", "least"] spAre := by
  refine F.ok scAre (fun vs H Q E h => ?_) (fun cdv A outer s H vs Q E hr h => ?_)
  · obtain ⟨a, ns, m, l, rfl, _⟩ := h
    rfl
  obtain ⟨a, ns, m, l, rfl, ha, rfl, hl, hz, q⟩ := h
  have hs : sizeLine = 16777216 := sizeLine_eq
  refine ⟨_, pss_cons (ps_if (PW.pt (pw_or (pt_not (pt_val (pe_callB call_isi rfl O.isi (by decide +kernel) (pa_cons (pv 0) (pa_cons (pe_bltn (v := .ty "tuple") rfl O.tuple (by decide +kernel) rfl) pa_nil)))))
      (pw_or1 (pt_cmpR op_ne (pe_callB call_len_seq rfl O.len PySem.boot_len (pa_cons (pv 0) pa_nil)) (pv 1) (nomark _))))) (pss_one (ps_ret pe_bl)) pss_nil)
    (pss_one (ps_ret (pe_callB (cr_all rfl) rfl O.all (by decide +kernel) (pa_cons (pe_lc (own := [("number", 3)]) (g := gName 3) (tt := tYes) rfl scAre.nd
            (pi_tup (pv 0)) (blkOk_by (N := nmAre) (sc := defScope sAre) (by decide +kernel))
            (fun _ _ _ _ _ => pg_name (i := 3) scAre.nd rfl (Or.inl rfl)) (fun _ _ _ _ _ => pts_nil)
            (fun _ _ _ _ _ => pe_and (pe_D IW hr rfl (pa_cons (pv 3) pa_nil)) (pe_one (pe_cmpR op_ge (pv 3) (pv 2) (nomark _))))) pa_nil)))), ?_⟩
  refine ⟨_, rfl, _, _, _, _, true, rfl, .ty "tuple", .base (.tup ha), kb "tuple" "tuple" true, _, rfl, itF rfl ?_⟩
  refine ⟨_, rfl, _, _, rfl, .inr (SqT.of ha), _, rfl, rfl, _, rfl, itF ?_ ?_⟩
  · rw [List.length_map, decide_eq_true rfl]
    rfl
  refine ⟨_, rfl, a, rfl, ⟨_, SqT.of ha⟩, fun C hC => ?_⟩
  refine turns_tup (K := K) (a := a) (xs := ns.map V.int) ((ns.map V.int).map fun _ => some (.bl true)) hC (fun Hc sm => SqT.of (sm _ _ ha)) (by rw [List.length_map]) (by rw [List.length_map]; omega) ?_ ?_
  · intro i z o Hc Y N hx ho sm hY hN
    have eo : o = some (.bl true) := by
      rw [List.getElem?_map, hx] at ho
      exact (Option.some.inj ho).symm
    rw [List.getElem?_map] at hx
    obtain ⟨n, hn, rfl⟩ : ∃ n, ns[i]? = some n ∧ z = .int n := by
      cases e : ns[i]? with
      | none => rw [e] at hx; cases hx
      | some n => rw [e] at hx; exact ⟨n, rfl, (Option.some.inj hx).symm⟩
    have h1 := hl n (List.mem_of_getElem? hn)
    refine ⟨rfl, _, rfl, n, rfl, _, rfl, _, rfl, _, rfl, _, _, rfl, rfl, ?_⟩
    dsimp only
    rw [decide_eq_true h1]
    exact hY _ eo Hc same_refl
  · intro Hc hc sm
    rw [fm_true (ns.map V.int)] at hc
    refine ⟨C, _, rfl, SqL.of hc, ?_⟩
    rw [show ((ns.map V.int).map fun _ => true).all id = true by rw [List.all_map]; exact List.all_eq_true.mpr fun _ _ => rfl]
    exact q Hc sm
set_option maxHeartbeats 4000000 in
theorem ok_fl (GC : Df P w K mg base 1 "call_weight" ["weight"] spCW) (F : Fun K "falls" "falls" sFa f fd) : FnOk P w K mg base CX0 2 f fd psFa spFa := by
  refine F.ok scFa (fun vs H Q E h => ?_) (fun cdv A outer s H vs Q E hr h => ?_)
  · obtain ⟨L, q1, q2, D, i, n, t, ps, pl, Ns, Ts, kvs, rs, rfl, _⟩ := h
    rfl
  obtain ⟨L, q1, q2, D, i, n, t, ps, pl, Ns, Ts, kvs, rs, rfl, rfl, ⟨vs, hL, hp⟩, hpl, hw, hN, hT, hn, hf, hD, q⟩ := h
  have hu := Nat.lt_of_le_of_lt (Nat.add_le_add_left (show 1 ≤ 64 by decide) _) hr.units
  refine ⟨_, pss_cons (ps_set (i := 5) scFa.nd rfl (Or.inl rfl) (pe_ix ix_list (pv 0) (pv 1) (fun _ _ => rfl)))
    (pss_cons (ps_set (i := 6) scFa.nd rfl (Or.inl rfl) (pe_ix ix_tup (pv 5) pe_int (fun _ _ => rfl)))
    (pss_cons (ps_set (i := 7) scFa.nd rfl (Or.inl rfl) (pe_ix ix_tup (pv 2) (pv 1) (fun _ _ => rfl)))
    (pss_cons (ps_if (pt_cmpR op_eq (pv 6) pe_str (nomark _)) (pss_one (ps_ret (pe_cmpR op_eq (pv 7) pe_int (nomark _)))) pss_nil)
    (pss_cons (ps_if (pt_cmpR op_eq (pv 6) pe_str (nomark _)) (pss_one (ps_ret (pe_cmpR op_gt (pv 7) (pe_op op_add (pe_ix ix_tup (pv 2) (pe_ix ix_tup (pv 5) pe_int (fun _ _ => rfl)) (fun _ _ => rfl)) (pe_op op_mul (pe_ix ix_tup (pv 5) pe_int (fun _ _ => rfl)) (pe_ix ix_tup (pv 3) (pe_ix ix_tup (pv 5) pe_int (fun _ _ => rfl)) (fun _ _ => rfl)))) (nomark _)))) pss_nil)
    (pss_cons (ps_if (pt_cmpR op_eq (pv 6) pe_str (nomark _)) (pss_one (ps_ret (pe_and (pe_cmpR op_gt (pv 7) (pe_ix ix_tup (pv 2) (pe_ix ix_tup (pv 5) pe_int (fun _ _ => rfl)) (fun _ _ => rfl)) (nomark _))
        (pe_one (pe_cmpR op_gt (pe_op op_add (pv 7) (pe_ix ix_tup (pv 3) (pe_ix ix_tup (pv 5) pe_int (fun _ _ => rfl)) (fun _ _ => rfl))) (pe_ix ix_tup (pv 2) (pe_ix ix_tup (pv 5) pe_int (fun _ _ => rfl)) (fun _ _ => rfl)) (nomark _)))))) pss_nil)
    (pss_cons (ps_if (pt_cmpR op_eq (pv 6) pe_str (nomark _)) (pss_one (ps_ret (pe_and (pe_cmpR op_gt (pv 7) (pe_ix ix_tup (pv 2) (pe_ix ix_tup (pv 5) pe_int (fun _ _ => rfl)) (fun _ _ => rfl)) (nomark _))
        (pe_one (pe_cmpR op_gt (pv 7) (pe_ix ix_tup (pv 2) (pe_ix ix_tup (pv 5) pe_int (fun _ _ => rfl)) (fun _ _ => rfl)) (nomark _)))))) pss_nil)
    (pss_cons (ps_if (pt_cmpR op_eq (pv 6) pe_str (nomark _)) (pss_cons (ps_set (i := 8) scFa.nd rfl (Or.inl rfl) (pe_ix ix_tup (pe_ix ix_list (pv 0) (pe_ix ix_tup (pv 5) pe_int (fun _ _ => rfl)) (fun _ _ => rfl)) pe_int (fun _ _ => rfl)))
        (pss_one (ps_ret (pe_cmpR op_ge (pv 7) (pe_op op_add (pe_ix ix_tup (pv 2) (pv 8) (fun _ _ => rfl)) (pe_D GC hr rfl (pa_cons (pe_dget hu (pv 4) (pe_ix ix_tup (pv 5) pe_int (fun _ _ => rfl)) (fun _ _ => rfl)) pa_nil))) (nomark _))))) pss_nil)
    (pss_cons (ps_if (pt_cmpR op_eq (pv 6) pe_str (nomark _)) (pss_one (ps_ret (pe_cmpR op_ge (pv 7) (pe_ix ix_tup (pv 2) (pe_ix ix_tup (pv 5) pe_int (fun _ _ => rfl)) (fun _ _ => rfl)) (nomark _)))) pss_nil)
    (pss_cons (ps_if (pt_cmpR op_eq (pv 6) pe_str (nomark _)) (pss_one (ps_ret (pe_cmpR op_ge (pv 7) (pe_op op_add (pe_ix ix_tup (pv 2) (pe_ix ix_tup (pv 5) pe_int (fun _ _ => rfl)) (fun _ _ => rfl)) pe_int) (nomark _)))) pss_nil)
    (pss_cons (ps_if (pt_cmpR op_eq (pv 6) pe_str (nomark _)) (pss_one (ps_ret (pe_cmpR op_ge (pv 7) pe_int (nomark _)))) pss_nil)
    (pss_one (ps_ret (pe_cmpR op_gt (pv 7) (pe_ix ix_tup (pv 2) (pe_ix ix_tup (pv 5) (pe_un un_neg pe_int) (fun _ _ => rfl)) (fun _ _ => rfl)) (nomark _)))))))))))))), ?_⟩
  obtain ⟨v, hv, hat⟩ := paired_put hp hpl
  have an : atI (Ns.map V.int) (t : Int) = some (.int n) := ni_at ⟨t, rfl, hn⟩
  refine ⟨_, rfl, _, rfl, L, _, _, _, rfl, rfl, SqL.of hL, atI_nat hv, ?_⟩
  cases hat with
  | home h =>
    have hf : n = 0 := hf
    subst hf
    refine ⟨_, rfl, _, _, _, _, rfl, rfl, SqT.of h, atI_nat (j := 0) rfl, _, rfl, _, rfl, q1, _, _, _, rfl, rfl, SqT.of hN, an, ?_⟩
    refine ⟨_, rfl, rfl, _, rfl, itT eq_str ?_⟩
    refine ⟨_, rfl, rfl, ?_⟩
    dsimp only
    rw [decide_eq_true rfl]
    exact q
  | ifp h g =>
    obtain ⟨a, b, hA, hB, l1, l2⟩ := hf
    refine ⟨_, rfl, _, _, _, _, rfl, rfl, SqT.of h, atI_nat (j := 0) rfl, _, rfl, _, rfl, q1, _, _, _, rfl, rfl, SqT.of hN, an, ?_⟩
    refine ⟨_, rfl, rfl, _, rfl, itF (ne_str (by decide)) ?_⟩
    refine ⟨_, rfl, rfl, _, rfl, itF (ne_str (by decide)) ?_⟩
    refine ⟨_, rfl, rfl, _, rfl, itF (ne_str (by decide)) ?_⟩
    refine ⟨_, rfl, rfl, _, rfl, itT eq_str ?_⟩
    refine ⟨_, rfl, _, rfl, _, rfl, _, _, _, _, rfl, rfl, SqT.of h, atI_nat (j := 2) rfl, q1, _, _, _, rfl, rfl, SqT.of hN, ni_at hA, _, _, rfl, rfl, ?_⟩
    dsimp only
    rw [decide_eq_true l1]
    refine ⟨_, rfl, itT rfl ⟨_, rfl, _, rfl, _, rfl, _, _, _, _, rfl, rfl, SqT.of h, atI_nat (j := 3) rfl, q1, _, _, _, rfl, rfl, SqT.of hN, ni_at hB, _, _, rfl, rfl, ?_⟩⟩
    dsimp only
    rw [decide_eq_true l2]
    exact q
  | forp h g =>
    obtain ⟨a, u, hA, hU, l1⟩ := hf
    unfold Pl.wok at hw
    refine ⟨_, rfl, _, _, _, _, rfl, rfl, SqT.of h, atI_nat (j := 0) rfl, _, rfl, _, rfl, q1, _, _, _, rfl, rfl, SqT.of hN, an, ?_⟩
    refine ⟨_, rfl, rfl, _, rfl, itF (ne_str (by decide)) ?_⟩
    refine ⟨_, rfl, rfl, _, rfl, itT eq_str ?_⟩
    refine ⟨_, rfl, _, rfl, _, rfl, _, _, _, _, rfl, rfl, SqT.of h, atI_nat (j := 4) rfl, q1, _, _, _, rfl, rfl, SqT.of hN, ni_at hA, _, rfl, _, _, _, _, rfl, rfl, SqT.of h, atI_nat (j := 3) rfl, _, rfl, _, rfl, _, _, _, _, rfl, rfl, SqT.of h, atI_nat (j := 1) rfl, q2, _, _, _, rfl, rfl, SqT.of hT, ni_at hU, _, _, rfl, rfl, .inl ⟨by omega, by omega⟩, _, _, rfl, rfl, _, _, rfl, rfl, ?_⟩
    dsimp only
    rw [decide_eq_true l1]
    exact q
  | chk h =>
    obtain ⟨a, b, u, hA, hB, hU, l1, l2⟩ := hf
    refine ⟨_, rfl, _, _, _, _, rfl, rfl, SqT.of h, atI_nat (j := 0) rfl, _, rfl, _, rfl, q1, _, _, _, rfl, rfl, SqT.of hN, an, ?_⟩
    refine ⟨_, rfl, rfl, _, rfl, itF (ne_str (by decide)) ?_⟩
    refine ⟨_, rfl, rfl, _, rfl, itF (ne_str (by decide)) ?_⟩
    refine ⟨_, rfl, rfl, _, rfl, itT eq_str ?_⟩
    refine ⟨_, rfl, _, rfl, _, rfl, _, _, _, _, rfl, rfl, SqT.of h, atI_nat (j := 3) rfl, q1, _, _, _, rfl, rfl, SqT.of hN, ni_at hA, _, _, rfl, rfl, ?_⟩
    dsimp only
    rw [decide_eq_true l1]
    refine ⟨_, rfl, itT rfl ⟨_, rfl, _, rfl, _, rfl, _, _, _, _, rfl, rfl, SqT.of h, atI_nat (j := 1) rfl, q2, _, _, _, rfl, rfl, SqT.of hT, ni_at hU, _, _, rfl, rfl, _, rfl, _, rfl, _, _, _, _, rfl, rfl, SqT.of h, atI_nat (j := 2) rfl, q1, _, _, _, rfl, rfl, SqT.of hN, ni_at hB, _, _, rfl, rfl, ?_⟩⟩
    dsimp only
    rw [decide_eq_true l2]
    exact q
  | ask h g =>
    obtain ⟨r', b, a, t2, e4, hc, hA, l1⟩ := hf
    have hw : _ ∈ rs := hw
    obtain ⟨m, hm⟩ := hD.all _ hw
    obtain ⟨v2, hv2, hat2⟩ := paired_put hp hc
    refine ⟨_, rfl, _, _, _, _, rfl, rfl, SqT.of h, atI_nat (j := 0) rfl, _, rfl, _, rfl, q1, _, _, _, rfl, rfl, SqT.of hN, an, ?_⟩
    refine ⟨_, rfl, rfl, _, rfl, itF (ne_str (by decide)) ?_⟩
    refine ⟨_, rfl, rfl, _, rfl, itF (ne_str (by decide)) ?_⟩
    refine ⟨_, rfl, rfl, _, rfl, itF (ne_str (by decide)) ?_⟩
    refine ⟨_, rfl, rfl, _, rfl, itF (ne_str (by decide)) ?_⟩
    refine ⟨_, rfl, rfl, _, rfl, itT eq_str ?_⟩
    cases hat2 with
    | clear h2 =>
      refine ⟨_, rfl, _, rfl, _, _, _, _, rfl, rfl, SqT.of h, atI_nat (j := 4) rfl, L, _, _, _, rfl, rfl, SqL.of hL, by rw [e4]; exact atI_nat hv2, _, _, _, _, rfl, rfl, SqT.of h2, atI_nat (j := 2) rfl, ?_⟩
      refine ⟨_, rfl, _, rfl, _, rfl, q1, _, _, _, rfl, rfl, SqT.of hN, ni_at hA, _, rfl, _, rfl, _, _, _, _, rfl, rfl, SqT.of h, atI_nat (j := 2) rfl, D, .int m, rfl, get_str hD.at_ hm, m, rfl, _, _, rfl, rfl, _, _, rfl, rfl, ?_⟩
      unfold lk at l1
      rw [hm] at l1
      have l1 : a + (8 + 2 * (1 + m)) ≤ n := l1
      dsimp only
      rw [decide_eq_true l1]
      exact q
  | again h =>
    obtain ⟨a, hA, l1⟩ := hf
    refine ⟨_, rfl, _, _, _, _, rfl, rfl, SqT.of h, atI_nat (j := 0) rfl, _, rfl, _, rfl, q1, _, _, _, rfl, rfl, SqT.of hN, an, ?_⟩
    refine ⟨_, rfl, rfl, _, rfl, itF (ne_str (by decide)) ?_⟩
    refine ⟨_, rfl, rfl, _, rfl, itF (ne_str (by decide)) ?_⟩
    refine ⟨_, rfl, rfl, _, rfl, itF (ne_str (by decide)) ?_⟩
    refine ⟨_, rfl, rfl, _, rfl, itF (ne_str (by decide)) ?_⟩
    refine ⟨_, rfl, rfl, _, rfl, itF (ne_str (by decide)) ?_⟩
    refine ⟨_, rfl, rfl, _, rfl, itT eq_str ?_⟩
    refine ⟨_, rfl, _, rfl, _, rfl, _, _, _, _, rfl, rfl, SqT.of h, atI_nat (j := 2) rfl, q1, _, _, _, rfl, rfl, SqT.of hN, ni_at hA, _, _, rfl, rfl, ?_⟩
    dsimp only
    rw [decide_eq_true l1]
    exact q
  | clear h =>
    obtain ⟨a, hA, l1⟩ := hf
    refine ⟨_, rfl, _, _, _, _, rfl, rfl, SqT.of h, atI_nat (j := 0) rfl, _, rfl, _, rfl, q1, _, _, _, rfl, rfl, SqT.of hN, an, ?_⟩
    refine ⟨_, rfl, rfl, _, rfl, itF (ne_str (by decide)) ?_⟩
    refine ⟨_, rfl, rfl, _, rfl, itF (ne_str (by decide)) ?_⟩
    refine ⟨_, rfl, rfl, _, rfl, itF (ne_str (by decide)) ?_⟩
    refine ⟨_, rfl, rfl, _, rfl, itF (ne_str (by decide)) ?_⟩
    refine ⟨_, rfl, rfl, _, rfl, itF (ne_str (by decide)) ?_⟩
    refine ⟨_, rfl, rfl, _, rfl, itF (ne_str (by decide)) ?_⟩
    refine ⟨_, rfl, rfl, _, rfl, itT eq_str ?_⟩
    refine ⟨_, rfl, _, rfl, _, rfl, _, _, _, _, rfl, rfl, SqT.of h, atI_nat (j := 2) rfl, q1, _, _, _, rfl, rfl, SqT.of hN, ni_at hA, _, _, rfl, rfl, _, _, rfl, rfl, ?_⟩
    dsimp only
    rw [decide_eq_true l1]
    exact q
  | told h =>
    have l1 : 2 ≤ n := hf
    refine ⟨_, rfl, _, _, _, _, rfl, rfl, SqT.of h, atI_nat (j := 0) rfl, _, rfl, _, rfl, q1, _, _, _, rfl, rfl, SqT.of hN, an, ?_⟩
    refine ⟨_, rfl, rfl, _, rfl, itF (ne_str (by decide)) ?_⟩
    refine ⟨_, rfl, rfl, _, rfl, itF (ne_str (by decide)) ?_⟩
    refine ⟨_, rfl, rfl, _, rfl, itF (ne_str (by decide)) ?_⟩
    refine ⟨_, rfl, rfl, _, rfl, itF (ne_str (by decide)) ?_⟩
    refine ⟨_, rfl, rfl, _, rfl, itF (ne_str (by decide)) ?_⟩
    refine ⟨_, rfl, rfl, _, rfl, itF (ne_str (by decide)) ?_⟩
    refine ⟨_, rfl, rfl, _, rfl, itF (ne_str (by decide)) ?_⟩
    refine ⟨_, rfl, rfl, _, rfl, itT eq_str ?_⟩
    refine ⟨_, rfl, _, _, rfl, rfl, ?_⟩
    dsimp only
    rw [decide_eq_true l1]
    exact q
  | set h g =>
    obtain ⟨a, hA, l1⟩ := hf
    refine ⟨_, rfl, _, _, _, _, rfl, rfl, SqT.of h, atI_nat (j := 0) rfl, _, rfl, _, rfl, q1, _, _, _, rfl, rfl, SqT.of hN, an, ?_⟩
    refine ⟨_, rfl, rfl, _, rfl, itF (ne_str (by decide)) ?_⟩
    refine ⟨_, rfl, rfl, _, rfl, itF (ne_str (by decide)) ?_⟩
    refine ⟨_, rfl, rfl, _, rfl, itF (ne_str (by decide)) ?_⟩
    refine ⟨_, rfl, rfl, _, rfl, itF (ne_str (by decide)) ?_⟩
    refine ⟨_, rfl, rfl, _, rfl, itF (ne_str (by decide)) ?_⟩
    refine ⟨_, rfl, rfl, _, rfl, itF (ne_str (by decide)) ?_⟩
    refine ⟨_, rfl, rfl, _, rfl, itF (ne_str (by decide)) ?_⟩
    refine ⟨_, rfl, rfl, _, rfl, itF (ne_str (by decide)) ?_⟩
    refine ⟨_, rfl, _, rfl, _, rfl, _, rfl, _, _, _, _, rfl, rfl, SqT.of h, rfl, q1, _, _, _, rfl, rfl, SqT.of hN, ni_at hA, _, _, rfl, rfl, ?_⟩
    dsimp only
    rw [decide_eq_true l1]
    exact q
  | say h g =>
    obtain ⟨a, hA, l1⟩ := hf
    refine ⟨_, rfl, _, _, _, _, rfl, rfl, SqT.of h, atI_nat (j := 0) rfl, _, rfl, _, rfl, q1, _, _, _, rfl, rfl, SqT.of hN, an, ?_⟩
    refine ⟨_, rfl, rfl, _, rfl, itF (ne_str (by decide)) ?_⟩
    refine ⟨_, rfl, rfl, _, rfl, itF (ne_str (by decide)) ?_⟩
    refine ⟨_, rfl, rfl, _, rfl, itF (ne_str (by decide)) ?_⟩
    refine ⟨_, rfl, rfl, _, rfl, itF (ne_str (by decide)) ?_⟩
    refine ⟨_, rfl, rfl, _, rfl, itF (ne_str (by decide)) ?_⟩
    refine ⟨_, rfl, rfl, _, rfl, itF (ne_str (by decide)) ?_⟩
    refine ⟨_, rfl, rfl, _, rfl, itF (ne_str (by decide)) ?_⟩
    refine ⟨_, rfl, rfl, _, rfl, itF (ne_str (by decide)) ?_⟩
    refine ⟨_, rfl, _, rfl, _, rfl, _, rfl, _, _, _, _, rfl, rfl, SqT.of h, rfl, q1, _, _, _, rfl, rfl, SqT.of hN, ni_at hA, _, _, rfl, rfl, ?_⟩
    dsimp only
    rw [decide_eq_true l1]
    exact q
  | hear h =>
    obtain ⟨a, hA, l1⟩ := hf
    refine ⟨_, rfl, _, _, _, _, rfl, rfl, SqT.of h, atI_nat (j := 0) rfl, _, rfl, _, rfl, q1, _, _, _, rfl, rfl, SqT.of hN, an, ?_⟩
    refine ⟨_, rfl, rfl, _, rfl, itF (ne_str (by decide)) ?_⟩
    refine ⟨_, rfl, rfl, _, rfl, itF (ne_str (by decide)) ?_⟩
    refine ⟨_, rfl, rfl, _, rfl, itF (ne_str (by decide)) ?_⟩
    refine ⟨_, rfl, rfl, _, rfl, itF (ne_str (by decide)) ?_⟩
    refine ⟨_, rfl, rfl, _, rfl, itF (ne_str (by decide)) ?_⟩
    refine ⟨_, rfl, rfl, _, rfl, itF (ne_str (by decide)) ?_⟩
    refine ⟨_, rfl, rfl, _, rfl, itF (ne_str (by decide)) ?_⟩
    refine ⟨_, rfl, rfl, _, rfl, itF (ne_str (by decide)) ?_⟩
    refine ⟨_, rfl, _, rfl, _, rfl, _, rfl, _, _, _, _, rfl, rfl, SqT.of h, rfl, q1, _, _, _, rfl, rfl, SqT.of hN, ni_at hA, _, _, rfl, rfl, ?_⟩
    dsimp only
    rw [decide_eq_true l1]
    exact q
  | tell h g =>
    obtain ⟨a, hA, l1⟩ := hf
    refine ⟨_, rfl, _, _, _, _, rfl, rfl, SqT.of h, atI_nat (j := 0) rfl, _, rfl, _, rfl, q1, _, _, _, rfl, rfl, SqT.of hN, an, ?_⟩
    refine ⟨_, rfl, rfl, _, rfl, itF (ne_str (by decide)) ?_⟩
    refine ⟨_, rfl, rfl, _, rfl, itF (ne_str (by decide)) ?_⟩
    refine ⟨_, rfl, rfl, _, rfl, itF (ne_str (by decide)) ?_⟩
    refine ⟨_, rfl, rfl, _, rfl, itF (ne_str (by decide)) ?_⟩
    refine ⟨_, rfl, rfl, _, rfl, itF (ne_str (by decide)) ?_⟩
    refine ⟨_, rfl, rfl, _, rfl, itF (ne_str (by decide)) ?_⟩
    refine ⟨_, rfl, rfl, _, rfl, itF (ne_str (by decide)) ?_⟩
    refine ⟨_, rfl, rfl, _, rfl, itF (ne_str (by decide)) ?_⟩
    refine ⟨_, rfl, _, rfl, _, rfl, _, rfl, _, _, _, _, rfl, rfl, SqT.of h, rfl, q1, _, _, _, rfl, rfl, SqT.of hN, ni_at hA, _, _, rfl, rfl, ?_⟩
    dsimp only
    rw [decide_eq_true l1]
    exact q
end
end Any
set_option pp.maxSteps 600
namespace Any
open L2 PySem PySem.Spec PyProof.Rows LamX NdefX
/-! ### measure_holds -/
abbrev sMH : Stmt := top 54
abbrev nmMH : List Str := ["program", "name", "thing", "found", "numbers", "fors", "many", "weights", "place", "at"]
abbrev psMH : List Str := ["program", "name", "thing"]
theorem scMH : FnScope nmMH psMH (defScope sMH) := ⟨rfl, rfl, rfl, by decide +kernel, rfl, by decide +kernel, by decide +kernel⟩
def spMH (C D : Addr) : Sp := fun vs H Q _ => ∃ (x p : Addr) (rs : List Rm) (i : Nat) (r : Rm), vs = [.ref x, .str r.name, .ref p] ∧ PgOk C D H x rs ∧ Right rs ∧ rs[i]? = some r ∧ MeAt H p (r.numsR (Wt rs)) (r.body.turns (Wt rs)) ∧ ∀ H', Same H H' → Q (.bl true) H'
/-- .. of a list -/
def spML (C D : Addr) : Sp := fun vs H Q _ => ∃ (x p : Addr) (rs : List Rm) (i : Nat) (r : Rm) (xs : List V), vs = [.ref x, .str r.name, .ref p] ∧ PgOk C D H x rs ∧ Right rs ∧ rs[i]? = some r ∧ H p = some (.lst xs) ∧ ∀ H', Same H H' → Q (.bl false) H'
theorem room_nums {rs : List Rm} (ok : Right rs) {i : Nat} {r : Rm} (hi : rs[i]? = some r) : (∀ n ∈ r.numsR (Wt rs), 0 ≤ n) ∧ (∀ n ∈ r.body.turns (Wt rs), 1 ≤ n) ∧ (r.numsR (Wt rs)).length ≤ 93 ∧ (r.body.turns (Wt rs)).length ≤ 30 := by
  obtain ⟨ws, b1, b2, b3, b4⟩ := body_of ok hi
  have hW : ∀ y ∈ ben rs r.name, 0 ≤ Wt rs y := fun y _ => wt_nn ok y
  have zt := Bd.sz_tot r.body
  refine ⟨fun n hn => ?_, fun n hn => turns_pos hW b1 hn, ?_, ?_⟩
  · unfold Rm.numsR at hn
    rcases List.mem_append.mp hn with hn | hn
    · rcases List.mem_append.mp hn with hn | hn
      · rw [List.mem_singleton.mp hn]
        exact Int.le_refl _
      · exact Bd.nums_nn hW r.body b1 r.kB (by unfold Rm.kB; split <;> decide) hn
    · unfold Rm.tl at hn
      split at hn
      · cases hn
      · rcases List.mem_cons.mp hn with e | hn
        · omega
        · have := List.mem_singleton.mp hn
          omega
  · unfold Rm.numsR Rm.tl
    rw [List.length_append, List.length_append, Bd.nums_len]
    split
    · show 1 + r.body.sz + 0 ≤ 93
      omega
    · show 1 + r.body.sz + 2 ≤ 93
      omega
  · rw [Bd.turns_all]
    refine Nat.le_trans (List.length_filterMap_le ..) ?_
    rw [Bd.allS_len]
    exact b4
section
variable {P : Program} {w : World} {K : PySem.W.Frag} {mg : Str → Option Value} {base : Heap} {f C D : Addr} {fd : FuncData}
theorem ok_mh (O : Own mg) (mr : mg "range" = none) (DP : Df P w K mg base 16 "places" ["program", "name"] (spPlc C D)) (AF : Df P w K mg base 2 "are_from" ["thing", "many", "least"] spAre) (BW : Df P w K mg base 14 "body_weights" ["program"] (spBWs C D)) (FL : Df P w K mg base 2 "falls" psFa spFa)
    (F : Fun K "measure_holds" "measure_holds" sMH f fd) : FnOk P w K mg base CX0 17 f fd psMH (spMH C D) := by
  refine F.ok scMH (fun vs H Q E h => ?_) (fun cdv A outer s H vs Q E hr h => ?_)
  · obtain ⟨x, p, rs, i, r, rfl, _⟩ := h
    rfl
  obtain ⟨x, p, rs, i, r, rfl, hpg, ok, hi, ⟨q1, q2, hp, h1, h2⟩, q⟩ := h
  have hs : sizeLine = 16777216 := sizeLine_eq
  have hr2 := hr.mono (show 2 ≤ 16 by decide)
  have hr14 := hr.mono (show 14 ≤ 16 by decide)
  obtain ⟨ws, b1, b2, b3, b4⟩ := body_of ok hi
  have ly := right_lays ok hi
  obtain ⟨hfall, af⟩ := room_fall (W := Wt rs) (fun y _ => wt_nn ok y) b1 ly.told
  obtain ⟨n1, n2, n3, n4⟩ := room_nums ok hi
  refine ⟨_, pss_cons (ps_set (i := 3) scMH.nd rfl (Or.inr rfl) (pe_D DP hr rfl (pa_cons (pv 0) (pa_cons (pv 1) pa_nil))))
    (pss_cons (ps_if (PW.pt (pw_or (pt_not (pt_val (pe_callB call_isi rfl O.isi (by decide +kernel) (pa_cons (pv 2) (pa_cons (pe_bltn (v := .ty "tuple") rfl O.tuple (by decide +kernel) rfl) pa_nil)))))
      (pw_or1 (pt_cmpR op_ne (pe_callB call_len_seq rfl O.len PySem.boot_len (pa_cons (pv 2) pa_nil)) pe_int (nomark _))))) (pss_one (ps_ret pe_bl)) pss_nil)
    (pss_cons (ps_asg (pv 2) (pg_tup rfl (pgs_cons (pg_name (i := 4) scMH.nd rfl (Or.inr rfl)) (pgs_cons (pg_name (i := 5) scMH.nd rfl (Or.inr rfl)) pgs_nil))))
    (pss_cons (ps_set (i := 6) scMH.nd rfl (Or.inl rfl) (pe_callB call_len_seq rfl O.len PySem.boot_len (pa_cons (pe_lc (own := [("place", 8)]) (g := gName 8) rfl scMH.nd (pi_list (pv 3)) (blkOk_by (N := nmMH) (sc := defScope sMH) (by decide +kernel))
        (fun _ _ _ _ _ => pg_name (i := 8) scMH.nd rfl (Or.inl rfl)) (fun _ _ _ _ _ => pts_one (pt_cmpR op_eq (pe_ix (show IxR _ (rIxT K) from ix_tup) (pv 8) pe_int (fun _ _ => rfl)) pe_str (nomark _))) (fun _ _ _ _ _ => pv 8)) pa_nil)))
    (pss_cons (ps_if (PW.pt (pw_or (pt_not (pt_val (pe_D AF hr2 rfl (pa_cons (pv 4) (pa_cons (pe_callB call_len_seq rfl O.len PySem.boot_len (pa_cons (pv 3) pa_nil)) (pa_cons pe_int pa_nil))))))
      (pw_or1 (pt_not (pt_val (pe_D AF hr2 rfl (pa_cons (pv 5) (pa_cons (pv 6) (pa_cons pe_int pa_nil))))))))) (pss_one (ps_ret pe_bl)) pss_nil)
    (pss_cons (ps_set (i := 7) scMH.nd rfl (Or.inr rfl) (pe_D BW hr14 rfl (pa_cons (pv 0) pa_nil)))
    (pss_one (ps_ret (pe_callB (cr_all rfl) rfl O.all (by decide +kernel) (pa_cons (pe_lc (own := [("at", 9)]) (g := gName 9) (tt := tYes) rfl scMH.nd
            (pi_range1 rfl mr (pa_cons (pe_callB call_len_seq rfl O.len PySem.boot_len (pa_cons (pv 3) pa_nil)) pa_nil)) (blkOk_by (N := nmMH) (sc := defScope sMH) (by decide +kernel))
            (fun _ _ _ _ _ => pg_name (i := 9) scMH.nd rfl (Or.inl rfl)) (fun _ _ _ _ _ => pts_nil)
            (fun _ _ _ _ _ => pe_D FL hr2 rfl (pa_cons (pv 3) (pa_cons (pv 9) (pa_cons (pv 4) (pa_cons (pv 5) (pa_cons (pv 7) pa_nil))))))) pa_nil))))))))), ?_⟩
  refine ⟨_, rfl, _, rfl, x, rs, i, r, rfl, hpg, ok, hi, fun L H1 nL s1 hF => ?_⟩
  obtain ⟨vs, hv, hpp⟩ := id hF
  have hvl := paired_len hpp
  rw [hfall] at hvl
  refine ⟨_, rfl, _, _, _, _, true, rfl, .ty "tuple", .base (.tup (s1 _ _ hp)), kb "tuple" "tuple" true, _, rfl, itF rfl ?_⟩
  refine ⟨_, rfl, _, _, rfl, .inr (SqT.of (s1 _ _ hp)), rfl, _, rfl, itF rfl ?_⟩
  refine ⟨_, rfl, p, _, rfl, SqT.of (s1 _ _ hp), rfl, _, _, rfl, _, _, rfl, rfl, ?_⟩
  refine ⟨_, rfl, L, rfl, ⟨_, SqL.of hv⟩, fun G nG => ?_⟩
  refine turns_list (K := K) (a := L) (xs := vs) (forG vs r.places) nG (fun Hc sm => SqL.of (sm _ _ hv)) (forG_len hpp) (by omega) ?_ ?_
  · intro j z o Hc Y N hz2 ho2 sm hY hN
    obtain ⟨pl, hat, eo⟩ := forG_at hpp hz2 ho2
    obtain ⟨b, zs, rfl, hb⟩ := hat.first
    refine ⟨rfl, _, rfl, b, _, _, _, rfl, rfl, SqT.of (sm _ _ hb), atI_nat (j := 0) rfl, rfl, _, rfl, ?_⟩
    rw [Pl.word_for]
    cases e8 : pl.isFor with
    | true =>
      rw [e8, if_pos rfl] at eo
      exact itT rfl ⟨_, rfl, hY _ eo Hc same_refl⟩
    | false =>
      rw [e8, if_neg (by decide)] at eo
      exact itF rfl (hN eo Hc same_refl)
  intro H2 hG2 s2
  have efor := forG_fm hpp
  rw [Rm.places_fors, ← Bd.turns_len (Wt rs)] at efor
  refine ⟨G, _, rfl, .inl (SqL.of hG2), ?_⟩
  have s12 := s1.trans s2
  refine ⟨_, rfl, _, rfl, L, _, rfl, .inl (SqL.of (s2 _ _ hv)), q1, _, _, 0, rfl, s12 _ _ h1, by rw [hvl], n1, by omega, fun H3 s3 => ?_⟩
  refine ⟨_, rfl, itF rfl ?_⟩
  have s13 := s12.trans s3
  refine ⟨_, rfl, _, rfl, q2, _, _, 1, rfl, s13 _ _ h2, efor, n2, by omega, fun H4 s4 => ?_⟩
  refine ⟨_, rfl, itF rfl ?_⟩
  have s14 := s13.trans s4
  refine ⟨_, rfl, x, rs, rfl, hpg.keep s14, ok, fun W H5 nW s5 hW => ?_⟩
  have s15 := s14.trans s5
  have s25 := s2.trans (s3.trans (s4.trans s5))
  refine ⟨_, rfl, L, _, rfl, .inl (SqL.of (s25 _ _ hv)), _, rfl, by omega, by omega, fun M nM => ?_⟩
  rw [Int.toNat_natCast]
  refine turns_rng ((List.range vs.length).map fun _ => some (V.bl true)) nM (by rw [List.length_map, List.length_range]) (by omega) ?_ ?_
  · intro j z o Hc Y N hz ho sm hY hN
    rw [List.getElem?_map] at hz ho
    obtain ⟨hj, ez⟩ : j < vs.length ∧ z = .int (j : Int) := by
      by_cases c : j < vs.length
      · rw [List.getElem?_range c] at hz
        have := Option.some.inj hz
        exact ⟨c, by rw [← this]; show V.int (0 + (j : Int)) = _; rw [Int.zero_add]⟩
      · rw [List.getElem?_eq_none (by rw [List.length_range]; omega)] at hz
        cases hz
    rw [List.getElem?_range hj] at ho
    have eo : o = some (.bl true) := (Option.some.inj ho).symm
    subst ez
    obtain ⟨pl, hpl⟩ : ∃ pl, r.places[j]? = some pl := ⟨_, List.getElem?_eq_getElem (by rw [hfall, ← hvl]; exact hj)⟩
    obtain ⟨n, hn, hf⟩ := af j pl hpl
    rw [Nat.zero_add] at hn
    have sH := s15.trans sm
    refine ⟨rfl, _, rfl, _, rfl, _, rfl, _, rfl, _, rfl, L, q1, q2, W, _, n, j, r.places, pl, _, _, tabF gW rs.reverse, ben rs r.name, rfl, rfl, hF.keep (s25.trans sm), hpl, Rm.places_wok b1 (List.mem_of_getElem? hpl), sH _ _ h1, sH _ _ h2, hn, hf, ⟨sm _ _ hW, fun y hy => ?_⟩, hY _ eo Hc same_refl⟩
    obtain ⟨k, o, _, ho, rfl⟩ := ben_behind ok hi hy
    exact ⟨_, look_wt ok ho⟩
  · intro H6 hM6 s6
    rw [fm_some (fun _ : Nat => V.bl true)] at hM6
    have em : (List.range vs.length).map (fun _ : Nat => V.bl true) = ((List.range vs.length).map fun _ => true).map V.bl := by rw [List.map_map]; rfl
    rw [em] at hM6
    refine ⟨M, _, rfl, SqL.of hM6, ?_⟩
    rw [show ((List.range vs.length).map fun _ => true).all id = true by rw [List.all_map]; exact List.all_eq_true.mpr fun _ _ => rfl]
    exact q H6 (s15.trans s6)
theorem ok_ml (O : Own mg) (DP : Df P w K mg base 16 "places" ["program", "name"] (spPlc C D)) (F : Fun K "measure_holds" "measure_holds" sMH f fd) : FnOk P w K mg base CX0 17 f fd psMH (spML C D) := by
  refine F.ok scMH (fun vs H Q E h => ?_) (fun cdv A outer s H vs Q E hr h => ?_)
  · obtain ⟨x, p, rs, i, r, xs, rfl, _⟩ := h
    rfl
  obtain ⟨x, p, rs, i, r, xs, rfl, hpg, ok, hi, hp, q⟩ := h
  refine ⟨_, pss_cons (ps_set (i := 3) scMH.nd rfl (Or.inr rfl) (pe_D DP hr rfl (pa_cons (pv 0) (pa_cons (pv 1) pa_nil))))
    (pss_cons (ps_if (PW.pt (pw_or (pt_not (pt_val (pe_callB call_isi rfl O.isi (by decide +kernel) (pa_cons (pv 2) (pa_cons (pe_bltn (v := .ty "tuple") rfl O.tuple (by decide +kernel) rfl) pa_nil)))))
      (pw_or1 (pt_cmpR op_ne (pe_callB call_len_seq rfl O.len PySem.boot_len (pa_cons (pv 2) pa_nil)) pe_int (nomark _))))) (pss_one (ps_ret pe_bl)) pss_nil)
    (pss_cons ps_never (pss_cons ps_never (pss_cons ps_never (pss_cons ps_never (pss_one ps_never)))))), ?_⟩
  refine ⟨_, rfl, _, rfl, x, rs, i, r, rfl, hpg, ok, hi, fun L H1 nL s1 hF => ?_⟩
  refine ⟨_, rfl, _, _, _, _, false, rfl, .ty "tuple", .base (.lst (s1 _ _ hp)), kb "list" "tuple" false, _, rfl, itT rfl ?_⟩
  exact q H1 s1
end
end Any
set_option pp.maxSteps 600
namespace Any
open L2 PySem PySem.Spec PyProof.Rows LamX NdefX
/-! ### the law's own weights -/
abbrev sLW : Stmt := top 99
abbrev sLH : Stmt := top 100
abbrev nmLW : List Str := ["_law_tree", "_law_steps_here", "_law_found", "_law_step_here", "_law_more"]
abbrev psLW : List Str := ["_law_tree", "_law_steps_here"]
theorem scLW : FnScope nmLW psLW (defScope sLW) := ⟨rfl, rfl, rfl, by decide +kernel, rfl, by decide +kernel, by decide +kernel⟩
theorem scLH : FnScope ["_law_tree", "_law_one"] ["_law_tree", "_law_one"] (defScope sLH) := ⟨rfl, rfl, rfl, by decide +kernel, rfl, by decide +kernel, by decide +kernel⟩
def spLW (C D : Addr) (n : Nat) : Sp := fun vs H Q _ => ∃ (x a : Addr) (bd : Bd) (rs : List Rm) (i : Nat) (r : Rm) (xs ws : List Str), vs = [.ref x, .ref a] ∧ PgOk C D H x rs ∧ Right rs ∧ rs[i]? = some r ∧ BdAt H a bd ∧ bd.ok xs ws (ben rs r.name) ∧ bd.len ≤ 12 ∧ bd.dp + 5 * (8 - i) < n ∧
  ∀ H', Same H H' → Q (.int (bd.wt (Wt rs))) H'
def spLH (C D : Addr) : Sp := fun vs H Q _ => ∃ (x a : Addr) (rs : List Rm) (i : Nat) (r : Rm), vs = [.ref x, .ref a] ∧ PgOk C D H x rs ∧ Right rs ∧ rs[i]? = some r ∧ RmAt C H a r ∧ ∀ H', Same H H' → Q (.int (vHome rs r)) H'
theorem ben_to (l : List Rm) (o : Rm) (n : Str) : ben (l ++ [o]) n = ben l n ++ (if o.above = n then [o.name] else []) := by
  unfold ben
  rw [List.filter_append, List.map_append]
  congr 1
  by_cases e : o.above = n
  · rw [if_pos e, List.filter_cons_of_pos (by simpa using e)]
    rfl
  · rw [if_neg e, List.filter_cons_of_neg (by simpa using e)]
    rfl
section
variable {P : Program} {w : World} {K : PySem.W.Frag} {mg : Str → Option Value} {base : Heap} {f C D : Addr} {fd : FuncData}
theorem no_lw {k : Nat} : FnOk P w K mg base CX0 k f fd psLW (spLW C D 0) := by
  have no : ∀ vs H Q E, ¬ spLW C D 0 vs H Q E := fun vs H Q E h => by
    obtain ⟨x, a, bd, rs, i, r, xs, ws, _, _, _, _, _, _, _, hd, _⟩ := h
    omega
  exact ⟨fun vs H Q E h => absurd h (no vs H Q E), fun A outer s H args us vs Q E _ _ _ _ h => absurd h (no vs H Q E)⟩
set_option maxHeartbeats 4000000 in
theorem ok_lw {n : Nat} (T : RoomC K C) (TP : HeldC K D) (mm : mg "max" = none) (MO : Mf P w K mg base D 1 "room_of" ["self", "name"] (spRO C D)) (F : Fun K "_law_weight" "_law_weight" sLW f fd) (G : Df P w K mg base (n + 1) "_law_weight" psLW (spLW C D n)) : FnOk P w K mg base CX0 (n + 2) f fd psLW (spLW C D (n + 1)) := by
  refine F.ok scLW (fun vs H Q E h => ?_) (fun cdv A outer s H vs Q E hr h => ?_)
  · obtain ⟨x, a, bd, rs, i, r, xs, ws, rfl, _⟩ := h
    rfl
  obtain ⟨x, a, bd, rs, i, r, xs, ws, rfl, hpg, ok, hi, ⟨us, ha, hu⟩, hok, hlen, hn, q⟩ := h
  have hs : sizeLine = 16777216 := sizeLine_eq
  have hp := hu.paired
  have hr1 := hr.mono (show 1 ≤ n + 1 by omega)
  have il := (List.getElem?_eq_some_iff.mp hi).1
  have z8 := ok.hi
  refine ⟨_, pss_cons (ps_set (i := 2) scLW.nd rfl (Or.inl rfl) pe_int)
    (pss_cons (ps_for PassesOwn.never rfl (pi_tup (pv 1)) (pg_name (i := 3) scLW.nd rfl (Or.inl rfl))
      (pss_cons (ps_set (i := 4) scLW.nd rfl (Or.inl rfl) pe_int)
      (pss_cons (ps_if (pt_cmpR op_eq (pe_ix ix_tup (pv 3) pe_int (fun _ _ => rfl)) pe_str (nomark _)) (pss_one (ps_set (i := 4) scLW.nd rfl (Or.inl rfl) (pe_op op_add pe_int (pe_callB (call_max2 rfl) rfl mm (by decide +kernel) (pa_cons (pe_D G hr rfl (pa_cons (pv 0) (pa_cons (pe_ix ix_tup (pv 3) pe_int (fun _ _ => rfl)) pa_nil))) (pa_cons (pe_D G hr rfl (pa_cons (pv 0) (pa_cons (pe_ix ix_tup (pv 3) pe_int (fun _ _ => rfl)) pa_nil))) pa_nil)))))) pss_nil)
      (pss_cons (ps_if (pt_cmpR op_eq (pe_ix ix_tup (pv 3) pe_int (fun _ _ => rfl)) pe_str (nomark _)) (pss_one (ps_set (i := 4) scLW.nd rfl (Or.inl rfl) (pe_op op_add pe_int (pe_op op_mul (pe_op op_add (pe_ix ix_tup (pv 3) pe_int (fun _ _ => rfl)) pe_int) (pe_op op_add (pe_D G hr rfl (pa_cons (pv 0) (pa_cons (pe_ix ix_tup (pv 3) pe_int (fun _ _ => rfl)) pa_nil))) pe_int))))) pss_nil)
      (pss_cons (ps_if (pt_cmpR op_eq (pe_ix ix_tup (pv 3) pe_int (fun _ _ => rfl)) pe_str (nomark _)) (pss_one (ps_set (i := 4) scLW.nd rfl (Or.inl rfl) (pe_op op_add pe_int (pe_op op_mul pe_int (pe_op op_add pe_int (pe_D G hr rfl (pa_cons (pv 0) (pa_cons (pe_fld (pe_M MO TP.cl (pv 0) hr1 (pa_cons (pe_ix ix_tup (pv 3) pe_int (fun _ _ => rfl)) pa_nil)) rfl) pa_nil)))))))) pss_nil)
      (pss_one (ps_set (i := 2) scLW.nd rfl (Or.inl rfl) (pe_op op_add (pv 2) (pv 4)))))))))
    (pss_one (ps_ret (pv 2)))), ?_⟩
  refine ⟨_, rfl, a, rfl, ⟨_, SqT.of ha⟩, ?_⟩
  refine for_tup (K := K) (a := a) (xs := us) (fun j σ Hc => ∃ z3 z4 : Option V, σ = [some (.ref x), some (.ref a), some (.int (((bd.toL.take j).map (Sg.wt (Wt rs))).sum)), z3, z4] ∧ Same H Hc) ⟨_, _, rfl, .refl _⟩ ?_ ?_ ?_
  · rintro j σ Hc _ ⟨z3, z4, rfl, sm⟩
    exact SqT.of (sm _ _ ha)
  · rintro j v σ Hc hv ⟨z3, z4, rfl, sm⟩
    obtain ⟨st, hst, hat⟩ := paired_get hp hv
    have hat := SgAt.keep (Same.tups sm) st hat
    have dn : st.dp ≤ bd.dp := Bd.dp_mem (List.mem_of_getElem? hst)
    have ok2 : st.ok xs ws (ben rs r.name) := Bd.okm hok (List.mem_of_getElem? hst)
    have hpgc := hpg.keep sm
    have fin : ∀ (H' : Hp) (i1 : Int), Same Hc H' → i1 = st.wt (Wt rs) → ∃ z3' z4' : Option V, [some (V.ref x), some (.ref a), some (.int ((((bd.toL.take j).map (Sg.wt (Wt rs))).sum) + i1)), some v, some (.int i1)] = [some (V.ref x), some (.ref a), some (.int (((bd.toL.take (j + 1)).map (Sg.wt (Wt rs))).sum)), z3', z4'] ∧ Same H H' := fun H' i1 s1 e => by
      refine ⟨some v, some (.int i1), ?_, sm.trans s1⟩
      rw [List.take_add_one, hst, List.map_append, List.sum_append, e]
      show _ = [some (V.ref x), some (.ref a), some (.int (((bd.toL.take j).map (Sg.wt (Wt rs))).sum + (st.wt (Wt rs) + 0))), some v, some (.int (st.wt (Wt rs)))]
      rw [Int.add_zero]
    cases st with
    | ifs t p q' =>
      unfold SgAt at hat
      unfold Sg.ok at ok2
      unfold Sg.dp at dn
      obtain ⟨ad, u, pb, pc', bs, cs', rfl, h1, h2, h3, h4, h5, h6⟩ := hat
      refine ⟨_, rfl, ad, _, _, _, rfl, rfl, SqT.of h1, atI_nat (j := 0) rfl, rfl, _, rfl, itT eq_str ?_⟩
      refine ⟨_, rfl, _, rfl, ad, _, _, _, rfl, rfl, SqT.of h1, atI_nat (j := 2) rfl, x, pb, p, rs, i, r, xs, ws, rfl, hpgc, ok, hi, ⟨_, h3, h4⟩, ok2.2.1.1, ok2.2.1.2, by omega, fun H2 s2 => ?_⟩
      refine ⟨_, rfl, _, rfl, ad, _, _, _, rfl, rfl, SqT.of (s2 _ _ h1), atI_nat (j := 3) rfl, x, pc', q', rs, i, r, xs, ws, rfl, hpgc.keep s2, ok, hi, ⟨_, s2 _ _ h5, BdL.keep (Same.tups s2) q' h6⟩, ok2.2.2.1, ok2.2.2.2, by omega, fun H3 s3 => ⟨_, _, rfl, _, _, rfl, rfl, ?_⟩⟩
      have s23 := s2.trans s3
      refine ⟨_, rfl, ad, _, _, _, rfl, rfl, SqT.of (s23 _ _ h1), atI_nat (j := 0) rfl, rfl, _, rfl, itF (ne_str (by decide)) ?_⟩
      refine ⟨_, rfl, ad, _, _, _, rfl, rfl, SqT.of (s23 _ _ h1), atI_nat (j := 0) rfl, rfl, _, rfl, itF (ne_str (by decide)) ?_⟩
      exact ⟨_, rfl, _, rfl, _, _, rfl, rfl, fin H3 _ s23 (by unfold Sg.wt mx; rfl)⟩
    | fors e m p =>
      unfold SgAt at hat
      unfold Sg.ok at ok2
      unfold Sg.dp at dn
      obtain ⟨ad, u, pb, bs, rfl, h1, h2, h3, h4⟩ := hat
      refine ⟨_, rfl, ad, _, _, _, rfl, rfl, SqT.of h1, atI_nat (j := 0) rfl, rfl, _, rfl, itF (ne_str (by decide)) ?_⟩
      refine ⟨_, rfl, ad, _, _, _, rfl, rfl, SqT.of h1, atI_nat (j := 0) rfl, rfl, _, rfl, itT eq_str ?_⟩
      refine ⟨_, rfl, ad, _, _, _, rfl, rfl, SqT.of h1, atI_nat (j := 2) rfl, _, _, rfl, rfl, _, rfl, _, rfl, ad, _, _, _, rfl, rfl, SqT.of h1, atI_nat (j := 3) rfl, x, pb, p, rs, i, r, xs, ws, rfl, hpgc, ok, hi, ⟨_, h3, h4⟩, ok2.2.2.1, ok2.2.2.2, by omega, fun H2 s2 => ⟨_, _, rfl, rfl, _, _, rfl, rfl, .inl ⟨by omega, by omega⟩, _, _, rfl, rfl, ?_⟩⟩
      refine ⟨_, rfl, ad, _, _, _, rfl, rfl, SqT.of (s2 _ _ h1), atI_nat (j := 0) rfl, rfl, _, rfl, itF (ne_str (by decide)) ?_⟩
      exact ⟨_, rfl, _, rfl, _, _, rfl, rfl, fin H2 _ s2 (by unfold Sg.wt; rw [Int.add_comm (p.wt (Wt rs)) 1])⟩
    | call xn rn e =>
      unfold SgAt at hat
      unfold Sg.ok at ok2
      unfold Sg.dp at dn
      obtain ⟨ad, u, rfl, h1, h2⟩ := hat
      refine ⟨_, rfl, ad, _, _, _, rfl, rfl, SqT.of h1, atI_nat (j := 0) rfl, rfl, _, rfl, itF (ne_str (by decide)) ?_⟩
      refine ⟨_, rfl, ad, _, _, _, rfl, rfl, SqT.of h1, atI_nat (j := 0) rfl, rfl, _, rfl, itF (ne_str (by decide)) ?_⟩
      refine ⟨_, rfl, ad, _, _, _, rfl, rfl, SqT.of h1, atI_nat (j := 0) rfl, rfl, _, rfl, itT eq_str ?_⟩
      obtain ⟨k, o, hk, ho, rfl⟩ := ben_behind ok hi ok2.2.1
      have kl := (List.getElem?_eq_some_iff.mp ho).1
      obtain ⟨R, ⟨dx, vv, hx⟩, hR⟩ := id hpgc
      obtain ⟨ws', b1, b2, b3, b4⟩ := body_of ok ho
      refine ⟨_, rfl, _, rfl, x, dx, _, rfl, hx, pf_none (by decide +kernel) (by decide +kernel), _, rfl, ad, _, _, _, rfl, rfl, SqT.of h1, atI_nat (j := 2) rfl, x, R, o.name, rs, k, o, rfl, ⟨dx, vv, hx⟩, hR, ho, rfl, right_uno ok ho, fun a2 hat2 => ?_⟩
      obtain ⟨dy, n', a', b', s', k', t', p', y', g1, g2⟩ := hat2
      obtain ⟨c, rfl, hc⟩ := g2.body
      refine ⟨a2, C, dy, _, _, rfl, g1, T.cl, T.n8, rf_body, x, c, o.body, rs, k, o, o.bn, ws', rfl, hpgc, ok, ho, hc, b1, b2, by omega, fun H2 s2 => ⟨_, _, rfl, rfl, _, _, rfl, rfl, .inl ⟨by decide, by decide⟩, _, _, rfl, rfl, ?_⟩⟩
      exact ⟨_, rfl, _, rfl, _, _, rfl, rfl, fin H2 _ s2 (by unfold Sg.wt; rw [wt_at ok ho])⟩
    | set xn e =>
      unfold SgAt at hat
      obtain ⟨ad, u, rfl, h1, h2⟩ := hat
      refine ⟨_, rfl, ad, _, _, _, rfl, rfl, SqT.of h1, atI_nat (j := 0) rfl, rfl, _, rfl, itF (ne_str (by decide)) ?_⟩
      refine ⟨_, rfl, ad, _, _, _, rfl, rfl, SqT.of h1, atI_nat (j := 0) rfl, rfl, _, rfl, itF (ne_str (by decide)) ?_⟩
      refine ⟨_, rfl, ad, _, _, _, rfl, rfl, SqT.of h1, atI_nat (j := 0) rfl, rfl, _, rfl, itF (ne_str (by decide)) ?_⟩
      exact ⟨_, rfl, _, rfl, _, _, rfl, rfl, fin Hc _ (.refl _) (by unfold Sg.wt; rfl)⟩
    | say xn e =>
      unfold SgAt at hat
      obtain ⟨ad, u, rfl, h1, h2⟩ := hat
      refine ⟨_, rfl, ad, _, _, _, rfl, rfl, SqT.of h1, atI_nat (j := 0) rfl, rfl, _, rfl, itF (ne_str (by decide)) ?_⟩
      refine ⟨_, rfl, ad, _, _, _, rfl, rfl, SqT.of h1, atI_nat (j := 0) rfl, rfl, _, rfl, itF (ne_str (by decide)) ?_⟩
      refine ⟨_, rfl, ad, _, _, _, rfl, rfl, SqT.of h1, atI_nat (j := 0) rfl, rfl, _, rfl, itF (ne_str (by decide)) ?_⟩
      exact ⟨_, rfl, _, rfl, _, _, rfl, rfl, fin Hc _ (.refl _) (by unfold Sg.wt; rfl)⟩
    | hear xn =>
      unfold SgAt at hat
      obtain ⟨ad, rfl, h1⟩ := hat
      refine ⟨_, rfl, ad, _, _, _, rfl, rfl, SqT.of h1, atI_nat (j := 0) rfl, rfl, _, rfl, itF (ne_str (by decide)) ?_⟩
      refine ⟨_, rfl, ad, _, _, _, rfl, rfl, SqT.of h1, atI_nat (j := 0) rfl, rfl, _, rfl, itF (ne_str (by decide)) ?_⟩
      refine ⟨_, rfl, ad, _, _, _, rfl, rfl, SqT.of h1, atI_nat (j := 0) rfl, rfl, _, rfl, itF (ne_str (by decide)) ?_⟩
      exact ⟨_, rfl, _, rfl, _, _, rfl, rfl, fin Hc _ (.refl _) (by unfold Sg.wt; rfl)⟩
  · rintro σ Hc ⟨z3, z4, rfl, sm⟩
    refine ⟨_, rfl, ?_⟩
    rw [paired_len hp, List.take_length, ← Bd.wt_eq]
    exact q Hc sm
theorem all_lw (T : RoomC K C) (TP : HeldC K D) (mm : mg "max" = none) (MO : Mf P w K mg base D 1 "room_of" ["self", "name"] (spRO C D)) (N : Nd K mg "_law_weight" sLW psLW) : ∀ n : Nat, Df P w K mg base (n + 1) "_law_weight" psLW (spLW C D n)
  | 0 => by
    obtain ⟨f, fd, h1, h2, h3⟩ := N
    exact ⟨f, fd, h1, h2.kp, no_lw, h3⟩
  | n + 1 => by
    have G := all_lw T TP mm MO N n
    obtain ⟨f, fd, h1, h2, h3⟩ := N
    exact ⟨f, fd, h1, h2.kp, ok_lw T TP mm MO h2 G, h3⟩
theorem ok_lh (T : RoomC K C) (LW : Df P w K mg base 46 "_law_weight" psLW (spLW C D 45)) (F : Fun K "_law_home" "_law_home" sLH f fd) : FnOk P w K mg base CX0 47 f fd ["_law_tree", "_law_one"] (spLH C D) := by
  refine F.ok scLH (fun vs H Q E h => ?_) (fun cdv A outer s H vs Q E hr h => ?_)
  · obtain ⟨x, a, rs, i, r, rfl, _⟩ := h
    rfl
  obtain ⟨x, a, rs, i, r, rfl, hpg, ok, hi, hat, q⟩ := h
  obtain ⟨dy, n', a', b', s', k', t', p', y', g1, g2⟩ := hat
  obtain ⟨c, rfl, hc⟩ := g2.body
  have hab := g2.above
  subst hab
  obtain ⟨ws', b1, b2, b3, b4⟩ := body_of ok hi
  refine ⟨_, pss_one (ps_ret (pe_op op_add (pe_D LW hr rfl (pa_cons (pv 0) (pa_cons (pe_fld (pv 1) rfl) pa_nil))) (pe_ifExp (pt_cmpR op_eq (pe_fld (pv 1) rfl) pe_str (nomark _)) pe_int pe_int))), ?_⟩
  refine ⟨_, rfl, _, rfl, a, C, dy, _, _, rfl, g1, T.cl, T.n8, rf_body, x, c, r.body, rs, i, r, r.bn, ws', rfl, hpg, ok, hi, hc, b1, b2, by omega, fun H2 s2 => ?_⟩
  have z := q H2 s2
  unfold vHome Rm.home at z
  refine ⟨_, rfl, a, C, dy, _, _, rfl, s2 _ _ g1, T.cl, T.n2, rf_above, rfl, _, rfl, itD (fun e => ?_) (fun e => ?_)⟩
  · rw [if_pos (V.str.inj e), Int.add_comm] at z
    exact ⟨_, _, rfl, rfl, z⟩
  · rw [if_neg (fun y => e (by rw [y])), Int.add_comm] at z
    exact ⟨_, _, rfl, rfl, z⟩
end
end Any
set_option pp.maxSteps 600
namespace Any
open L2 PySem PySem.Spec PyProof.Rows LamX NdefX
/-! ### _law_rings: the fors around each place -/
/-- a list of pairs -/
def RgAt (H : Hp) (a : Addr) (R : List (Int × Int)) : Prop := ∃ as : List Addr, H a = some (.lst (as.map V.ref)) ∧ Paired (fun p q => H p = some (.tup [.int q.1, .int q.2])) as R
/-- a list of such -/
def RgsAt (H : Hp) (a : Addr) (Rs : List (List (Int × Int))) : Prop := ∃ as : List Addr, H a = some (.lst (as.map V.ref)) ∧ Paired (RgAt H) as Rs
theorem RgAt.keep {H H' : Hp} {a : Addr} {R : List (Int × Int)} (h : RgAt H a R) (s : Same H H') : RgAt H' a R := by
  obtain ⟨as, h1, h2⟩ := h
  exact ⟨as, s _ _ h1, paired_imp (fun _ _ q => s _ _ q) h2⟩
theorem RgsAt.keep {H H' : Hp} {a : Addr} {Rs : List (List (Int × Int))} (h : RgsAt H a Rs) (s : Same H H') : RgsAt H' a Rs := by
  obtain ⟨as, h1, h2⟩ := h
  exact ⟨as, s _ _ h1, paired_imp (fun _ _ q => q.keep s) h2⟩
theorem rgs_app {H H' : Hp} {as bs : List Addr} {p : Addr} {xs ys : List (List (Int × Int))} (h1 : Paired (RgAt H') as xs) (h2 : Paired (RgAt H') bs ys) (hp : H' p = some (.lst (as.map V.ref ++ bs.map V.ref))) : RgsAt H' p (xs ++ ys) := ⟨as ++ bs, by rw [hp, List.map_append], paired_join h1 h2⟩
/-- one list of such behind another -/
theorem cat_rgs {H : Hp} {a b : Addr} {xs ys : List (List (Int × Int))} {Q : VK} (h1 : RgsAt H a xs) (h2 : RgsAt H b ys) (hz : xs.length + ys.length ≤ 2000) (q : ∀ p H', Same H H' → RgsAt H' p (xs ++ ys) → Q (.ref p) H') : rCat (.ref a) (.ref b) H Q := by
  obtain ⟨as, e1, p1⟩ := h1
  obtain ⟨bs, e2, p2⟩ := h2
  have hs : sizeLine = 16777216 := sizeLine_eq
  refine ⟨a, b, _, _, rfl, rfl, e1, e2, ?_, fun p hp => ?_⟩
  · rw [List.length_map, List.length_map, paired_len p1, paired_len p2]
    omega
  have s := same_new hp (.lst (as.map V.ref ++ bs.map V.ref))
  exact q p _ s (rgs_app (H := H) (paired_imp (fun _ _ z => z.keep s) p1) (paired_imp (fun _ _ z => z.keep s) p2) upd_same)
abbrev sRgs : Stmt := top 101
abbrev nmRg : List Str := ["_law_steps_here", "_law_rings_here", "_law_many", "_law_found", "_law_step_here", "_law_first", "_law_second", "_law_inner"]
abbrev psRg : List Str := ["_law_steps_here", "_law_rings_here", "_law_many"]
theorem scRg : FnScope nmRg psRg (defScope sRgs) := ⟨rfl, rfl, rfl, by decide +kernel, rfl, by decide +kernel, by decide +kernel⟩
def spRg (n : Nat) : Sp := fun vs H Q _ => ∃ (c a : Addr) (i : Int) (f : Nat) (b : Bd) (R : List (Int × Int)), vs = [.ref c, .ref a, .int i] ∧ i = (f : Int) ∧ BdAt H c b ∧ b.dp < n ∧ b.sz ≤ 1000 ∧ RgAt H a R ∧ R.length + b.dp ≤ 1000 ∧
  ∀ p g H', Same H H' → H' p = some (.tup [.ref g, .int ((f + b.nf : Nat) : Int)]) → RgsAt H' g (b.rgs f R) → Q (.ref p) H'
section
variable {P : Program} {w : World} {K : PySem.W.Frag} {mg : Str → Option Value} {base : Heap} {f : Addr} {fd : FuncData}
theorem no_rg {k : Nat} : FnOk P w K mg base CX0 k f fd psRg (spRg 0) := by
  have no : ∀ vs H Q E, ¬ spRg 0 vs H Q E := fun vs H Q E h => by
    obtain ⟨c, a, i, f, b, R, _, _, _, hd, _⟩ := h
    omega
  exact ⟨fun vs H Q E h => absurd h (no vs H Q E), fun A outer s H args us vs Q E _ _ _ _ h => absurd h (no vs H Q E)⟩
set_option maxHeartbeats 4000000 in
theorem ok_rg {n : Nat} (F : Fun K "_law_rings" "_law_rings" sRgs f fd) (G : Df P w K mg base (n + 1) "_law_rings" psRg (spRg n)) : FnOk P w K mg base CX0 (n + 2) f fd psRg (spRg (n + 1)) := by
  refine F.ok scRg (fun vs H Q E h => ?_) (fun cdv A outer s H vs Q E hr h => ?_)
  · obtain ⟨c, a, i, f, b, R, rfl, _⟩ := h
    rfl
  obtain ⟨c, a, i, f0, b, R, rfl, rfl, ⟨us, hc, hu⟩, hd, hz, hR, hRz, q⟩ := h
  have hs : sizeLine = 16777216 := sizeLine_eq
  refine ⟨_, pss_cons (ps_set (i := 3) scRg.nd rfl (Or.inl rfl) (pe_lst pa_nil))
    (pss_cons (ps_for PassesOwn.never rfl (pi_tup (pv 0)) (pg_name (i := 4) scRg.nd rfl (Or.inl rfl))
      (pss_one (ps_if (pt_cmpR op_eq (pe_ix ix_tup (pv 4) pe_int (fun _ _ => rfl)) pe_str (nomark _))
        (pss_cons (ps_asg (pe_D G hr rfl (pa_cons (pe_ix ix_tup (pv 4) pe_int (fun _ _ => rfl)) (pa_cons (pv 1) (pa_cons (pv 2) pa_nil)))) (pg_tup rfl (pgs_cons (pg_name (i := 5) scRg.nd rfl (Or.inl rfl)) (pgs_cons (pg_name (i := 2) scRg.nd rfl (Or.inl rfl)) pgs_nil))))
        (pss_cons (ps_asg (pe_D G hr rfl (pa_cons (pe_ix ix_tup (pv 4) pe_int (fun _ _ => rfl)) (pa_cons (pv 1) (pa_cons (pv 2) pa_nil)))) (pg_tup rfl (pgs_cons (pg_name (i := 6) scRg.nd rfl (Or.inl rfl)) (pgs_cons (pg_name (i := 2) scRg.nd rfl (Or.inl rfl)) pgs_nil))))
        (pss_one (ps_set (i := 3) scRg.nd rfl (Or.inl rfl) (pe_op op_cat (pe_op op_cat (pe_op op_cat (pv 3) (pe_lst (pa_cons (pv 1) pa_nil))) (pv 5)) (pv 6))))))
        (pss_one (ps_if (pt_cmpR op_eq (pe_ix ix_tup (pv 4) pe_int (fun _ _ => rfl)) pe_str (nomark _))
          (pss_cons (ps_set (i := 7) scRg.nd rfl (Or.inl rfl) (pe_op op_cat (pv 1) (pe_lst (pa_cons (pe_tup (pa_cons (pv 2) (pa_cons (pe_ix ix_tup (pv 4) pe_int (fun _ _ => rfl)) pa_nil))) pa_nil))))
          (pss_cons (ps_asg (pe_D G hr rfl (pa_cons (pe_ix ix_tup (pv 4) pe_int (fun _ _ => rfl)) (pa_cons (pv 7) (pa_cons (pe_op op_add (pv 2) pe_int) pa_nil)))) (pg_tup rfl (pgs_cons (pg_name (i := 5) scRg.nd rfl (Or.inl rfl)) (pgs_cons (pg_name (i := 2) scRg.nd rfl (Or.inl rfl)) pgs_nil))))
          (pss_one (ps_set (i := 3) scRg.nd rfl (Or.inl rfl) (pe_op op_cat (pe_op op_cat (pv 3) (pe_lst (pa_cons (pv 1) (pa_cons (pv 7) pa_nil)))) (pv 5))))))
          (pss_one (ps_set (i := 3) scRg.nd rfl (Or.inl rfl) (pe_op op_cat (pv 3) (pe_op op_rep (pe_lst (pa_cons (pv 1) pa_nil)) (pe_ifExp (pt_cmpR op_eq (pe_ix ix_tup (pv 4) pe_int (fun _ _ => rfl)) pe_str (nomark _)) pe_int pe_int))))))))))
    (pss_one (ps_ret (pe_tup (pa_cons (pv 3) (pa_cons (pv 2) pa_nil)))))), ?_⟩
  refine ⟨(by show 0 ≤ sizeLine; omega), fun F0 nF => ?_⟩
  have s0 := same_new nF (.lst [])
  refine ⟨_, rfl, c, rfl, ⟨us, SqT.of (s0 _ _ hc)⟩, ?_⟩
  refine for_tup (K := K) (a := c) (xs := us) (fun j σ Hc => ∃ (F1 : Addr) (g : Nat) (y4 y5 y6 y7 : Option V) (done : List (List (Int × Int))) (r : Bd), σ = [some (.ref c), some (.ref a), some (.int (g : Int)), some (.ref F1), y4, y5, y6, y7] ∧ Same H Hc ∧ RgsAt Hc F1 done ∧ BdL Hc (us.drop j) r ∧ r.dp ≤ b.dp ∧ g + r.nf = f0 + b.nf ∧ done.length + r.sz = b.sz ∧ done ++ r.rgs g R = b.rgs f0 R) ?_ ?_ ?_ ?_
  · exact ⟨F0, f0, _, _, _, _, [], b, rfl, s0, ⟨[], upd_same, .nil⟩, hu.keep (Same.tups s0), Nat.le_refl _, rfl, by rw [List.length_nil, Nat.zero_add], rfl⟩
  · rintro j σ Hc _ ⟨F1, g, y4, y5, y6, y7, done, r, rfl, sm, _⟩
    exact SqT.of (sm _ _ hc)
  · rintro j z σ Hc hst ⟨F1, g, y4, y5, y6, y7, done, r, rfl, sm, hF1, hr2, hd2, hg, hl, he⟩
    have dr : us.drop j = z :: us.drop (j + 1) := by
      rw [List.getElem?_eq_some_iff] at hst
      obtain ⟨lt, e⟩ := hst
      rw [← e]
      exact List.drop_eq_getElem_cons lt
    rw [dr] at hr2
    cases r with
    | nil =>
      unfold BdL at hr2
      cases hr2
    | cons sg r =>
      unfold BdL at hr2
      obtain ⟨v, us2, e2, hsg, hr2⟩ := hr2
      cases e2
      rw [show Bd.dp (.cons sg r) = max sg.dp r.dp by rw [Bd.dp]] at hd2
      rw [show Bd.nf (.cons sg r) = sg.nf + r.nf by rw [Bd.nf]] at hg
      rw [show Bd.sz (.cons sg r) = sg.sz + r.sz by rw [Bd.sz]] at hl
      have er : Bd.rgs (.cons sg r) g R = sg.rgs g R ++ r.rgs (g + sg.nf) R := by rw [Bd.rgs]
      rw [er] at he
      have lz := Sg.rgs_len sg g R
      -- a plain step
      have plain : ∀ (k : Int) (m : Nat), k = (m : Int) → sg.rgs g R = List.replicate m R → sg.nf = 0 → m ≤ 3 → ∀ Hd, Same Hc Hd → ∀ D : Ends, (∀ σ' H', (∃ (F1 : Addr) (g : Nat) (y4 y5 y6 y7 : Option V) (done : List (List (Int × Int))) (r : Bd), σ' = [some (.ref c), some (.ref a), some (.int (g : Int)), some (.ref F1), y4, y5, y6, y7] ∧ Same H H' ∧ RgsAt H' F1 done ∧ BdL H' (us.drop (j + 1)) r ∧ r.dp ≤ b.dp ∧ g + r.nf = f0 + b.nf ∧ done.length + r.sz = b.sz ∧ done ++ r.rgs g R = b.rgs f0 R) → D.nx σ' H') →
          ∀ l Hl, Same Hd Hl → Hd l = none → Hl l = some (.lst [.ref a]) → rRep (.ref l) (.int k) Hl fun y H2 => rCat (.ref F1) y H2 fun x H3 => D.nx [some (.ref c), some (.ref a), some (.int (g : Int)), some x, some z, y5, y6, y7] H3 := fun k m ek erg enf m3 Hd sd D nx l Hl sl nl hl2 => by
        refine ⟨l, k, _, rfl, rfl, hl2, by omega, by omega, by rw [ek, Int.toNat_natCast]; show 1 * m ≤ sizeLine; omega, fun p hp => ?_⟩
        have sp := same_new hp (.lst (List.replicate k.toNat [V.ref a]).flatten)
        have hrep : (List.replicate k.toNat [V.ref a]).flatten = (List.replicate m a).map V.ref := by
          rw [ek, Int.toNat_natCast, List.map_replicate]
          clear ek erg m3 hl2 sp
          induction m with
          | zero => rfl
          | succ m ih => rw [List.replicate_succ, List.flatten_cons, ih, List.replicate_succ]; rfl
        have sall := sd.trans (sl.trans sp)
        have hR2 : RgAt (upd Hl p (.lst (List.replicate k.toNat [V.ref a]).flatten)) a R := (hR.keep sm).keep sall
        have hp2 : RgsAt (upd Hl p (.lst (List.replicate k.toNat [V.ref a]).flatten)) p (List.replicate m R) := by
          refine ⟨List.replicate m a, by rw [upd_same, hrep], ?_⟩
          clear ek erg m3 hrep
          induction m with
          | zero => exact .nil
          | succ m ih => exact .cons hR2 ih
        refine cat_rgs (hF1.keep sall) hp2 (by rw [List.length_replicate]; omega) fun p2 H2 s2 hh => nx _ _ ⟨p2, g + sg.nf, some z, y5, y6, y7, done ++ sg.rgs g R, r, ?_, sm.trans (sall.trans s2), by rw [erg]; exact hh, (hr2.keep (Same.tups sall)).keep (Same.tups s2), by omega, by omega, by rw [List.length_append]; omega, ?_⟩
        · rw [enf]
          rfl
        · rw [List.append_assoc]
          exact he
      cases sg with
      | ifs t a2 b2 =>
        unfold SgAt at hsg
        obtain ⟨pp, u, pb, pc, bs, cs, rfl, h1, h2, h3, h4, h5, h6⟩ := hsg
        have d2 : Sg.dp (.ifs t a2 b2) = max a2.dp b2.dp + 1 := by unfold Sg.dp; rfl
        have z2 : Sg.sz (.ifs t a2 b2) = 1 + a2.sz + b2.sz := by unfold Sg.sz; rfl
        have n2 : Sg.nf (.ifs t a2 b2) = a2.nf + b2.nf := by unfold Sg.nf; rfl
        have e3 : Sg.rgs (.ifs t a2 b2) g R = R :: (a2.rgs g R ++ b2.rgs (g + a2.nf) R) := by unfold Sg.rgs; rfl
        refine ⟨_, rfl, _, _, _, _, rfl, rfl, SqT.of h1, atI_nat (j := 0) rfl, rfl, _, rfl, itT eq_str ?_⟩
        refine ⟨_, rfl, _, _, _, _, rfl, rfl, SqT.of h1, atI_nat (j := 2) rfl, _, rfl, _, rfl, pb, a, _, g, a2, R, rfl, rfl, ⟨_, h3, h4⟩, by omega, by omega, hR.keep sm, by omega, fun p1 g1 H1 s1 hp1 hg1 => ?_⟩
        refine ⟨p1, _, rfl, SqT.of hp1, rfl, _, _, rfl, _, _, rfl, rfl, ?_⟩
        refine ⟨_, rfl, _, _, _, _, rfl, rfl, SqT.of (s1 _ _ h1), atI_nat (j := 3) rfl, _, rfl, _, rfl, pc, a, _, g + a2.nf, b2, R, rfl, rfl, ⟨_, s1 _ _ h5, h6.keep (Same.tups s1)⟩, by omega, by omega, (hR.keep sm).keep s1, by omega, fun p2 g2 H2 s2 hp2 hg2 => ?_⟩
        refine ⟨p2, _, rfl, SqT.of hp2, rfl, _, _, rfl, _, _, rfl, rfl, ?_⟩
        have s12 := s1.trans s2
        refine ⟨_, rfl, _, rfl, (by show 1 ≤ sizeLine; omega), fun l nl => ?_⟩
        have s3 := same_new nl (.lst [.ref a])
        have hl3 : RgsAt (upd H2 l (.lst [.ref a])) l [R] := ⟨[a], upd_same, .cons (((hR.keep sm).keep s12).keep s3) .nil⟩
        generalize upd H2 l (.lst [.ref a]) = H3 at *
        have la := Bd.rgs_len a2 g R
        have lb := Bd.rgs_len b2 (g + a2.nf) R
        refine cat_rgs ((hF1.keep s12).keep s3) hl3 (by show done.length + 1 ≤ 2000; omega) fun p4 H4 s4 h4' => ?_
        refine ⟨_, rfl, cat_rgs h4' (((hg1.keep s2).keep s3).keep s4) (by rw [List.length_append, la]; show done.length + 1 + _ ≤ 2000; omega) fun p5 H5 s5 h5' => ?_⟩
        refine ⟨_, rfl, cat_rgs h5' (((hg2.keep s3).keep s4).keep s5) (by rw [List.length_append, List.length_append, la, lb]; show done.length + 1 + _ + _ ≤ 2000; omega) fun p6 H6 s6 h6' => ?_⟩
        have sA := s12.trans (s3.trans (s4.trans (s5.trans s6)))
        have lz2 : (done ++ [R] ++ a2.rgs g R ++ b2.rgs (g + a2.nf) R).length = done.length + 1 + a2.sz + b2.sz := by
          rw [List.length_append, List.length_append, List.length_append, la, lb]
          rfl
        refine ⟨p6, g + a2.nf + b2.nf, _, _, _, _, done ++ [R] ++ a2.rgs g R ++ b2.rgs (g + a2.nf) R, r, rfl, sm.trans sA, h6', hr2.keep (Same.tups sA), by omega, by omega, by rw [lz2]; omega, ?_⟩
        rw [← he, e3, n2, Nat.add_assoc]
        simp
      | fors e m a2 =>
        unfold SgAt at hsg
        obtain ⟨pp, u, pb, bs, rfl, h1, h2, h3, h4⟩ := hsg
        have d2 : Sg.dp (.fors e m a2) = a2.dp + 1 := by unfold Sg.dp; rfl
        have z2 : Sg.sz (.fors e m a2) = 2 + a2.sz := by unfold Sg.sz; rfl
        have n2 : Sg.nf (.fors e m a2) = 1 + a2.nf := by unfold Sg.nf; rfl
        have e3 : Sg.rgs (.fors e m a2) g R = R :: (R ++ [((g : Int), m)]) :: a2.rgs (g + 1) (R ++ [((g : Int), m)]) := by unfold Sg.rgs; rfl
        refine ⟨_, rfl, _, _, _, _, rfl, rfl, SqT.of h1, atI_nat (j := 0) rfl, rfl, _, rfl, itF (ne_str (by decide)) ?_⟩
        refine ⟨_, rfl, _, _, _, _, rfl, rfl, SqT.of h1, atI_nat (j := 0) rfl, rfl, _, rfl, itT eq_str ?_⟩
        refine ⟨_, rfl, _, rfl, _, rfl, _, _, _, _, rfl, rfl, SqT.of h1, atI_nat (j := 2) rfl, (by show 2 ≤ sizeLine; omega), fun p1 n1 => ⟨(by show 1 ≤ sizeLine; omega), fun l1 m1 => ?_⟩⟩
        have s1 := same_new n1 (.tup [.int (g : Int), .int m])
        have s2 := same_new m1 (.lst [.ref p1])
        have g1 := s2 _ _ (@upd_same Hc p1 (.tup [.int (g : Int), .int m]))
        have g2 := @upd_same (upd Hc p1 (.tup [.int (g : Int), .int m])) l1 (.lst [.ref p1])
        have s12 := s1.trans s2
        clear s1 s2
        generalize upd (upd Hc p1 (.tup [.int (g : Int), .int m])) l1 (.lst [.ref p1]) = H1 at *
        obtain ⟨as, ha, hpa⟩ := (hR.keep sm).keep s12
        have las := paired_len hpa
        refine ⟨a, l1, _, _, rfl, rfl, ha, g2, by rw [List.length_map, las]; show _ + 1 ≤ sizeLine; omega, fun p2 n2' => ?_⟩
        have s3 := same_new n2' (.lst (as.map V.ref ++ [.ref p1]))
        have hI : RgAt (upd H1 p2 (.lst (as.map V.ref ++ [.ref p1]))) p2 (R ++ [((g : Int), m)]) := ⟨as ++ [p1], by rw [upd_same, List.map_append]; rfl, paired_join (paired_imp (fun _ _ q => s3 _ _ q) hpa) (.cons (s3 _ _ g1) .nil)⟩
        have s13 := s12.trans s3
        clear s3
        generalize upd H1 p2 (.lst (as.map V.ref ++ [.ref p1])) = H3 at *
        refine ⟨_, rfl, _, _, _, _, rfl, rfl, SqT.of (s13 _ _ h1), atI_nat (j := 3) rfl, _, rfl, _, rfl, _, _, rfl, rfl, pb, p2, _, g + 1, a2, R ++ [((g : Int), m)], rfl, rfl, ⟨_, s13 _ _ h3, h4.keep (Same.tups s13)⟩, by omega, by omega, hI, by rw [List.length_append, List.length_singleton]; omega, fun p4 g4 H4 s4 hp4 hg4 => ?_⟩
        refine ⟨p4, _, rfl, SqT.of hp4, rfl, _, _, rfl, _, _, rfl, rfl, ?_⟩
        have s14 := s13.trans s4
        refine ⟨_, rfl, _, rfl, _, rfl, (by show 2 ≤ sizeLine; omega), fun l nl => ?_⟩
        have s5 := same_new nl (.lst [.ref a, .ref p2])
        have hl3 : RgsAt (upd H4 l (.lst [.ref a, .ref p2])) l [R, R ++ [((g : Int), m)]] := ⟨[a, p2], upd_same, .cons (((hR.keep sm).keep s14).keep s5) (.cons ((hI.keep s4).keep s5) .nil)⟩
        generalize upd H4 l (.lst [.ref a, .ref p2]) = H5 at *
        have la := Bd.rgs_len a2 (g + 1) (R ++ [((g : Int), m)])
        refine cat_rgs ((hF1.keep s14).keep s5) hl3 (by show done.length + 2 ≤ 2000; omega) fun p6 H6 s6 h6 => ?_
        refine ⟨_, rfl, cat_rgs h6 ((hg4.keep s5).keep s6) (by rw [List.length_append, la]; show done.length + 2 + _ ≤ 2000; omega) fun p7 H7 s7 h7 => ?_⟩
        have sA := s14.trans (s5.trans (s6.trans s7))
        have lz2 : (done ++ [R, R ++ [((g : Int), m)]] ++ a2.rgs (g + 1) (R ++ [((g : Int), m)])).length = done.length + 2 + a2.sz := by
          rw [List.length_append, List.length_append, la]
          rfl
        refine ⟨p7, g + 1 + a2.nf, _, _, _, _, done ++ [R, R ++ [((g : Int), m)]] ++ a2.rgs (g + 1) (R ++ [((g : Int), m)]), r, rfl, sm.trans sA, h7, hr2.keep (Same.tups sA), by omega, by omega, by rw [lz2]; omega, ?_⟩
        rw [← he, e3, n2, Nat.add_assoc]
        simp
      | call x2 r2 e =>
        unfold SgAt at hsg
        obtain ⟨pp, u, rfl, h1, h2⟩ := hsg
        refine ⟨_, rfl, _, _, _, _, rfl, rfl, SqT.of h1, atI_nat (j := 0) rfl, rfl, _, rfl, itF (ne_str (by decide)) ?_⟩
        refine ⟨_, rfl, _, _, _, _, rfl, rfl, SqT.of h1, atI_nat (j := 0) rfl, rfl, _, rfl, itF (ne_str (by decide)) ?_⟩
        refine ⟨_, rfl, _, rfl, (by show 1 ≤ sizeLine; omega), fun l nl => ?_⟩
        have s1 := same_new nl (.lst [.ref a])
        refine ⟨_, rfl, _, _, _, _, rfl, rfl, SqT.of (s1 _ _ h1), atI_nat (j := 0) rfl, rfl, _, rfl, itT eq_str ?_⟩
        exact plain 3 3 rfl (by unfold Sg.rgs; rfl) (by unfold Sg.nf; rfl) (Nat.le_refl _) Hc same_refl _ (fun _ _ h => h) l _ s1 nl upd_same
      | set x2 e =>
        unfold SgAt at hsg
        obtain ⟨pp, u, rfl, h1, h2⟩ := hsg
        refine ⟨_, rfl, _, _, _, _, rfl, rfl, SqT.of h1, atI_nat (j := 0) rfl, rfl, _, rfl, itF (ne_str (by decide)) ?_⟩
        refine ⟨_, rfl, _, _, _, _, rfl, rfl, SqT.of h1, atI_nat (j := 0) rfl, rfl, _, rfl, itF (ne_str (by decide)) ?_⟩
        refine ⟨_, rfl, _, rfl, (by show 1 ≤ sizeLine; omega), fun l nl => ?_⟩
        have s1 := same_new nl (.lst [.ref a])
        refine ⟨_, rfl, _, _, _, _, rfl, rfl, SqT.of (s1 _ _ h1), atI_nat (j := 0) rfl, rfl, _, rfl, itF (ne_str (by decide)) ?_⟩
        exact plain 1 1 rfl (by unfold Sg.rgs; rfl) (by unfold Sg.nf; rfl) (by decide) Hc same_refl _ (fun _ _ h => h) l _ s1 nl upd_same
      | say x2 e =>
        unfold SgAt at hsg
        obtain ⟨pp, u, rfl, h1, h2⟩ := hsg
        refine ⟨_, rfl, _, _, _, _, rfl, rfl, SqT.of h1, atI_nat (j := 0) rfl, rfl, _, rfl, itF (ne_str (by decide)) ?_⟩
        refine ⟨_, rfl, _, _, _, _, rfl, rfl, SqT.of h1, atI_nat (j := 0) rfl, rfl, _, rfl, itF (ne_str (by decide)) ?_⟩
        refine ⟨_, rfl, _, rfl, (by show 1 ≤ sizeLine; omega), fun l nl => ?_⟩
        have s1 := same_new nl (.lst [.ref a])
        refine ⟨_, rfl, _, _, _, _, rfl, rfl, SqT.of (s1 _ _ h1), atI_nat (j := 0) rfl, rfl, _, rfl, itF (ne_str (by decide)) ?_⟩
        exact plain 1 1 rfl (by unfold Sg.rgs; rfl) (by unfold Sg.nf; rfl) (by decide) Hc same_refl _ (fun _ _ h => h) l _ s1 nl upd_same
      | hear x2 =>
        unfold SgAt at hsg
        obtain ⟨pp, rfl, h1⟩ := hsg
        refine ⟨_, rfl, _, _, _, _, rfl, rfl, SqT.of h1, atI_nat (j := 0) rfl, rfl, _, rfl, itF (ne_str (by decide)) ?_⟩
        refine ⟨_, rfl, _, _, _, _, rfl, rfl, SqT.of h1, atI_nat (j := 0) rfl, rfl, _, rfl, itF (ne_str (by decide)) ?_⟩
        refine ⟨_, rfl, _, rfl, (by show 1 ≤ sizeLine; omega), fun l nl => ?_⟩
        have s1 := same_new nl (.lst [.ref a])
        refine ⟨_, rfl, _, _, _, _, rfl, rfl, SqT.of (s1 _ _ h1), atI_nat (j := 0) rfl, rfl, _, rfl, itF (ne_str (by decide)) ?_⟩
        exact plain 1 1 rfl (by unfold Sg.rgs; rfl) (by unfold Sg.nf; rfl) (by decide) Hc same_refl _ (fun _ _ h => h) l _ s1 nl upd_same
  · rintro σ Hc ⟨F1, g, y4, y5, y6, y7, done, r, rfl, sm, hF1, hr2, hd2, hg, hl, he⟩
    rw [List.drop_length] at hr2
    cases r with
    | nil =>
      have er : Bd.rgs .nil g R = [] := by rw [Bd.rgs]
      have en : Bd.nf .nil = 0 := by rw [Bd.nf]
      rw [er, List.append_nil] at he
      rw [en] at hg
      refine ⟨_, rfl, _, rfl, (by show 2 ≤ sizeLine; omega), fun p np => ?_⟩
      have s1 := same_new np (.tup [.ref F1, .int (g : Int)])
      refine q p F1 _ (sm.trans s1) ?_ (by rw [← he]; exact hF1.keep s1)
      rw [upd_same, ← hg, Nat.add_zero]
    | cons sg r =>
      unfold BdL at hr2
      obtain ⟨v, us2, e2, _⟩ := hr2
      cases e2
theorem all_rg (N : Nd K mg "_law_rings" sRgs psRg) : ∀ n : Nat, Df P w K mg base (n + 1) "_law_rings" psRg (spRg n)
  | 0 => by
    obtain ⟨f, fd, h1, h2, h3⟩ := N
    exact ⟨f, fd, h1, h2.kp, no_rg, h3⟩
  | n + 1 => by
    have G := all_rg N n
    obtain ⟨f, fd, h1, h2, h3⟩ := N
    exact ⟨f, fd, h1, h2.kp, ok_rg h2 G, h3⟩
end
end Any
set_option pp.maxSteps 600
namespace Any
open L2 PySem PySem.Spec PyProof.Rows LamX NdefX
/-! ### _law_falls, _law_are_numbers -/
abbrev sLF : Stmt := top 102
abbrev nmLF : List Str := ["_law_tree", "_law_rows", "_law_at", "_law_paper", "_law_numbers", "_law_weights", "_law_row", "_law_own", "_law_lower"]
abbrev psLF : List Str := ["_law_tree", "_law_rows", "_law_at", "_law_paper"]
theorem scLF : FnScope nmLF psLF (defScope sLF) := ⟨rfl, rfl, rfl, by decide +kernel, rfl, by decide +kernel, by decide +kernel⟩
def spLF (C D : Addr) : Sp := fun vs H Q _ => ∃ (x L p : Addr) (i n : Int) (t ri : Nat) (rs : List Rm) (r : Rm) (ps : List Pl) (pl : Pl) (Ns Ts : List Int), vs = [.ref x, .ref L, .int i, .ref p] ∧ i = (t : Int) ∧ PgOk C D H x rs ∧ Right rs ∧ rs[ri]? = some r ∧ FoundAt H L ps ∧ ps[t]? = some pl ∧ pl.wok (ben rs r.name) ∧
  MeAt H p Ns Ts ∧ Ns[t]? = some n ∧ fallP ps (Wt rs) Ns Ts n pl ∧ ∀ H', Same H H' → Q (.bl true) H'
section
variable {P : Program} {w : World} {K : PySem.W.Frag} {mg : Str → Option Value} {base : Heap} {f C D : Addr} {fd : FuncData}
set_option maxHeartbeats 4000000 in
theorem ok_lf (T : RoomC K C) (TP : HeldC K D) (MO : Mf P w K mg base D 1 "room_of" ["self", "name"] (spRO C D)) (LW : Df P w K mg base 46 "_law_weight" psLW (spLW C D 45)) (F : Fun K "_law_falls" "_law_falls" sLF f fd) : FnOk P w K mg base CX0 47 f fd psLF (spLF C D) := by
  refine F.ok scLF (fun vs H Q E h => ?_) (fun cdv A outer s H vs Q E hr h => ?_)
  · obtain ⟨x, L, p, i, n, t, ri, rs, r, ps, pl, Ns, Ts, rfl, _⟩ := h
    rfl
  obtain ⟨x, L, p, i, n, t, ri, rs, r, ps, pl, Ns, Ts, rfl, rfl, hpg, ok, hri, ⟨vs, hL, hp⟩, hpl, hw, ⟨q1, q2, hme, hN, hT⟩, hn, hf, q⟩ := h
  have hr1 := hr.mono (show 1 ≤ 46 by decide)
  have hs : sizeLine = 16777216 := sizeLine_eq
  have two : 2 ≤ sizeLine := by decide
  refine ⟨_, pss_cons (ps_asg (pv 3) (pg_tup rfl (pgs_cons (pg_name (i := 4) scLF.nd rfl (Or.inl rfl)) (pgs_cons (pg_name (i := 5) scLF.nd rfl (Or.inl rfl)) pgs_nil))))
    (pss_cons (ps_par (i := 6) (j := 7) (by rfl) scLF.nd rfl rfl (by decide) rfl rfl (pa_cons (pe_ix ix_list (pv 1) (pv 2) (fun _ _ => rfl)) (pa_cons (pe_ix ix_tup (pe_ix ix_tup (pv 3) pe_int (fun _ _ => rfl)) (pv 2) (fun _ _ => rfl)) pa_nil)) (by rfl))
    (pss_cons (ps_if (pt_cmpR op_in_seq (pe_ix ix_tup (pv 6) pe_int (fun _ _ => rfl)) (pe_tup (pa_cons pe_str (pa_cons pe_str pa_nil))) (by rfl)) (pss_one (ps_ret (pe_ifExp (pt_cmpR op_eq (pe_ix ix_tup (pv 6) pe_int (fun _ _ => rfl)) pe_str (nomark _)) (pe_cmpR op_eq (pv 7) pe_int (nomark _)) (pe_cmpR op_ge (pv 7) pe_int (nomark _))))) pss_nil)
    (pss_cons (ps_if (pt_cmpR op_eq (pe_ix ix_tup (pv 6) pe_int (fun _ _ => rfl)) pe_str (nomark _)) (pss_one (ps_ret (pe_and (pe_cmpR op_gt (pv 7) (pe_ix ix_tup (pv 4) (pe_ix ix_tup (pv 6) pe_int (fun _ _ => rfl)) (fun _ _ => rfl)) (nomark _))
        (pe_one (pe_cmpR op_gt (pv 7) (pe_ix ix_tup (pv 4) (pe_ix ix_tup (pv 6) pe_int (fun _ _ => rfl)) (fun _ _ => rfl)) (nomark _)))))) pss_nil)
    (pss_cons (ps_if (pt_cmpR op_eq (pe_ix ix_tup (pv 6) pe_int (fun _ _ => rfl)) pe_str (nomark _)) (pss_one (ps_ret (pe_cmpR op_gt (pv 7) (pe_op op_add (pe_ix ix_tup (pv 4) (pe_ix ix_tup (pv 6) pe_int (fun _ _ => rfl)) (fun _ _ => rfl)) (pe_op op_mul (pe_ix ix_tup (pv 6) pe_int (fun _ _ => rfl)) (pe_ix ix_tup (pv 5) (pe_ix ix_tup (pv 6) pe_int (fun _ _ => rfl)) (fun _ _ => rfl)))) (nomark _)))) pss_nil)
    (pss_cons (ps_if (pt_cmpR op_eq (pe_ix ix_tup (pv 6) pe_int (fun _ _ => rfl)) pe_str (nomark _)) (pss_one (ps_ret (pe_and (pe_cmpR op_gt (pv 7) (pe_ix ix_tup (pv 4) (pe_ix ix_tup (pv 6) pe_int (fun _ _ => rfl)) (fun _ _ => rfl)) (nomark _))
        (pe_one (pe_cmpR op_gt (pe_op op_add (pv 7) (pe_ix ix_tup (pv 5) (pe_ix ix_tup (pv 6) pe_int (fun _ _ => rfl)) (fun _ _ => rfl))) (pe_ix ix_tup (pv 4) (pe_ix ix_tup (pv 6) pe_int (fun _ _ => rfl)) (fun _ _ => rfl)) (nomark _)))))) pss_nil)
    (pss_cons (ps_if (pt_cmpR op_eq (pe_ix ix_tup (pv 6) pe_int (fun _ _ => rfl)) pe_str (nomark _)) (pss_cons (ps_set (i := 8) scLF.nd rfl (Or.inl rfl) (pe_D LW hr rfl (pa_cons (pv 0) (pa_cons (pe_fld (pe_M MO TP.cl (pv 0) hr1 (pa_cons (pe_ix ix_tup (pv 6) pe_int (fun _ _ => rfl)) pa_nil)) rfl) pa_nil))))
        (pss_one (ps_ret (pe_cmpR op_ge (pv 7) (pe_op op_add (pe_op op_add (pe_ix ix_tup (pv 4) (pe_ix ix_tup (pe_ix ix_list (pv 1) (pe_ix ix_tup (pv 6) pe_int (fun _ _ => rfl)) (fun _ _ => rfl)) pe_int (fun _ _ => rfl)) (fun _ _ => rfl)) pe_int) (pe_op op_mul pe_int (pe_op op_add (pv 8) pe_int))) (nomark _))))) pss_nil)
    (pss_cons (ps_if (pt_cmpR op_in_seq (pe_ix ix_tup (pv 6) pe_int (fun _ _ => rfl)) (pe_tup (pa_cons pe_str (pa_cons pe_str pa_nil))) (by rfl)) (pss_one (ps_ret (pe_cmpR op_ge (pv 7) (pe_op op_add (pe_ix ix_tup (pv 4) (pe_ix ix_tup (pv 6) pe_int (fun _ _ => rfl)) (fun _ _ => rfl)) (pe_ifExp (pt_cmpR op_eq (pe_ix ix_tup (pv 6) pe_int (fun _ _ => rfl)) pe_str (nomark _)) pe_int pe_int)) (nomark _)))) pss_nil)
    (pss_one (ps_ret (pe_cmpR op_gt (pv 7) (pe_ix ix_tup (pv 4) (pe_ix ix_tup (pv 6) (pe_un un_neg pe_int) (fun _ _ => rfl)) (fun _ _ => rfl)) (nomark _))))))))))), ?_⟩
  obtain ⟨v, hv, hat⟩ := paired_put hp hpl
  have an : atI (Ns.map V.int) (t : Int) = some (.int n) := ni_at ⟨t, rfl, hn⟩
  refine ⟨_, rfl, p, _, rfl, SqT.of hme, rfl, _, _, rfl, _, _, rfl, rfl, ?_⟩
  refine ⟨_, rfl, _, rfl, L, _, _, _, rfl, rfl, SqL.of hL, atI_nat hv, _, rfl, p, _, _, _, rfl, rfl, SqT.of hme, atI_nat (j := 0) rfl, _, rfl, q1, _, _, _, rfl, rfl, SqT.of hN, an, _, _, rfl, ?_⟩
  cases hat with
  | home h =>
    have hf : n = 0 := hf
    subst hf
    refine ⟨_, rfl, _, _, _, _, rfl, rfl, SqT.of h, atI_nat (j := 0) rfl, two, fun w1 m1 => ⟨w1, _, rfl, .inr (SqT.of upd_same), rfl, rfl, _, rfl, itT rfl ?_⟩⟩
    have s1 := same_new m1 (.tup [.str "home", .str "told"])
    have h := s1 _ _ h
    have hN := s1 _ _ hN
    have hT := s1 _ _ hT
    refine ⟨_, rfl, _, _, _, _, rfl, rfl, SqT.of h, atI_nat (j := 0) rfl, rfl, _, rfl, itT eq_str ?_⟩
    refine ⟨_, rfl, rfl, ?_⟩
    dsimp only
    rw [decide_eq_true rfl]
    exact q _ s1
  | told h =>
    have l1 : 2 ≤ n := hf
    refine ⟨_, rfl, _, _, _, _, rfl, rfl, SqT.of h, atI_nat (j := 0) rfl, two, fun w1 m1 => ⟨w1, _, rfl, .inr (SqT.of upd_same), rfl, rfl, _, rfl, itT rfl ?_⟩⟩
    have s1 := same_new m1 (.tup [.str "home", .str "told"])
    have h := s1 _ _ h
    have hN := s1 _ _ hN
    have hT := s1 _ _ hT
    refine ⟨_, rfl, _, _, _, _, rfl, rfl, SqT.of h, atI_nat (j := 0) rfl, rfl, _, rfl, itF (ne_str (by decide)) ?_⟩
    refine ⟨_, rfl, _, _, rfl, rfl, ?_⟩
    dsimp only
    rw [decide_eq_true l1]
    exact q _ s1
  | ifp h g =>
    obtain ⟨a, b, hA, hB, l1, l2⟩ := hf
    refine ⟨_, rfl, _, _, _, _, rfl, rfl, SqT.of h, atI_nat (j := 0) rfl, two, fun w1 m1 => ⟨w1, _, rfl, .inr (SqT.of upd_same), rfl, rfl, _, rfl, itF rfl ?_⟩⟩
    have s1 := same_new m1 (.tup [.str "home", .str "told"])
    have h := s1 _ _ h
    have hN := s1 _ _ hN
    have hT := s1 _ _ hT
    refine ⟨_, rfl, _, _, _, _, rfl, rfl, SqT.of h, atI_nat (j := 0) rfl, rfl, _, rfl, itT eq_str ?_⟩
    refine ⟨_, rfl, _, rfl, _, rfl, _, _, _, _, rfl, rfl, SqT.of h, atI_nat (j := 2) rfl, q1, _, _, _, rfl, rfl, SqT.of hN, ni_at hA, _, _, rfl, rfl, ?_⟩
    dsimp only
    rw [decide_eq_true l1]
    refine ⟨_, rfl, itT rfl ⟨_, rfl, _, rfl, _, rfl, _, _, _, _, rfl, rfl, SqT.of h, atI_nat (j := 3) rfl, q1, _, _, _, rfl, rfl, SqT.of hN, ni_at hB, _, _, rfl, rfl, ?_⟩⟩
    dsimp only
    rw [decide_eq_true l2]
    exact q _ s1
  | forp h g =>
    obtain ⟨a, u, hA, hU, l1⟩ := hf
    unfold Pl.wok at hw
    refine ⟨_, rfl, _, _, _, _, rfl, rfl, SqT.of h, atI_nat (j := 0) rfl, two, fun w1 m1 => ⟨w1, _, rfl, .inr (SqT.of upd_same), rfl, rfl, _, rfl, itF rfl ?_⟩⟩
    have s1 := same_new m1 (.tup [.str "home", .str "told"])
    have h := s1 _ _ h
    have hN := s1 _ _ hN
    have hT := s1 _ _ hT
    refine ⟨_, rfl, _, _, _, _, rfl, rfl, SqT.of h, atI_nat (j := 0) rfl, rfl, _, rfl, itF (ne_str (by decide)) ?_⟩
    refine ⟨_, rfl, _, _, _, _, rfl, rfl, SqT.of h, atI_nat (j := 0) rfl, rfl, _, rfl, itT eq_str ?_⟩
    refine ⟨_, rfl, _, rfl, _, rfl, _, _, _, _, rfl, rfl, SqT.of h, atI_nat (j := 4) rfl, q1, _, _, _, rfl, rfl, SqT.of hN, ni_at hA, _, rfl, _, _, _, _, rfl, rfl, SqT.of h, atI_nat (j := 3) rfl, _, rfl, _, rfl, _, _, _, _, rfl, rfl, SqT.of h, atI_nat (j := 1) rfl, q2, _, _, _, rfl, rfl, SqT.of hT, ni_at hU, _, _, rfl, rfl, .inl ⟨by omega, by omega⟩, _, _, rfl, rfl, _, _, rfl, rfl, ?_⟩
    dsimp only
    rw [decide_eq_true l1]
    exact q _ s1
  | chk h =>
    obtain ⟨a, b, u, hA, hB, hU, l1, l2⟩ := hf
    refine ⟨_, rfl, _, _, _, _, rfl, rfl, SqT.of h, atI_nat (j := 0) rfl, two, fun w1 m1 => ⟨w1, _, rfl, .inr (SqT.of upd_same), rfl, rfl, _, rfl, itF rfl ?_⟩⟩
    have s1 := same_new m1 (.tup [.str "home", .str "told"])
    have h := s1 _ _ h
    have hN := s1 _ _ hN
    have hT := s1 _ _ hT
    refine ⟨_, rfl, _, _, _, _, rfl, rfl, SqT.of h, atI_nat (j := 0) rfl, rfl, _, rfl, itF (ne_str (by decide)) ?_⟩
    refine ⟨_, rfl, _, _, _, _, rfl, rfl, SqT.of h, atI_nat (j := 0) rfl, rfl, _, rfl, itF (ne_str (by decide)) ?_⟩
    refine ⟨_, rfl, _, _, _, _, rfl, rfl, SqT.of h, atI_nat (j := 0) rfl, rfl, _, rfl, itT eq_str ?_⟩
    refine ⟨_, rfl, _, rfl, _, rfl, _, _, _, _, rfl, rfl, SqT.of h, atI_nat (j := 3) rfl, q1, _, _, _, rfl, rfl, SqT.of hN, ni_at hA, _, _, rfl, rfl, ?_⟩
    dsimp only
    rw [decide_eq_true l1]
    refine ⟨_, rfl, itT rfl ⟨_, rfl, _, rfl, _, rfl, _, _, _, _, rfl, rfl, SqT.of h, atI_nat (j := 1) rfl, q2, _, _, _, rfl, rfl, SqT.of hT, ni_at hU, _, _, rfl, rfl, _, rfl, _, rfl, _, _, _, _, rfl, rfl, SqT.of h, atI_nat (j := 2) rfl, q1, _, _, _, rfl, rfl, SqT.of hN, ni_at hB, _, _, rfl, rfl, ?_⟩⟩
    dsimp only
    rw [decide_eq_true l2]
    exact q _ s1
  | ask h g =>
    obtain ⟨r', b, a, t2, e4, hc, hA, l1⟩ := hf
    unfold Pl.wok at hw
    obtain ⟨v2, hv2, hat2⟩ := paired_put hp hc
    obtain ⟨k, o, hk, ho, eo⟩ := ben_behind ok hri hw
    have kl := (List.getElem?_eq_some_iff.mp ho).1
    have z8 := ok.hi
    obtain ⟨ws', b1, b2, b3, b4⟩ := body_of ok ho
    refine ⟨_, rfl, _, _, _, _, rfl, rfl, SqT.of h, atI_nat (j := 0) rfl, two, fun w1 m1 => ⟨w1, _, rfl, .inr (SqT.of upd_same), rfl, rfl, _, rfl, itF rfl ?_⟩⟩
    have s1 := same_new m1 (.tup [.str "home", .str "told"])
    have h := s1 _ _ h
    have hN := s1 _ _ hN
    have hT := s1 _ _ hT
    refine ⟨_, rfl, _, _, _, _, rfl, rfl, SqT.of h, atI_nat (j := 0) rfl, rfl, _, rfl, itF (ne_str (by decide)) ?_⟩
    refine ⟨_, rfl, _, _, _, _, rfl, rfl, SqT.of h, atI_nat (j := 0) rfl, rfl, _, rfl, itF (ne_str (by decide)) ?_⟩
    refine ⟨_, rfl, _, _, _, _, rfl, rfl, SqT.of h, atI_nat (j := 0) rfl, rfl, _, rfl, itF (ne_str (by decide)) ?_⟩
    refine ⟨_, rfl, _, _, _, _, rfl, rfl, SqT.of h, atI_nat (j := 0) rfl, rfl, _, rfl, itT eq_str ?_⟩
    cases hat2 with
    | clear h2 =>
      have hpg1 := hpg.keep s1
      obtain ⟨R, ⟨dx, vv, hx⟩, hR⟩ := id hpg1
      refine ⟨_, rfl, _, rfl, x, dx, _, rfl, hx, pf_none (by decide +kernel) (by decide +kernel), _, rfl, _, _, _, _, rfl, rfl, SqT.of h, atI_nat (j := 2) rfl, x, R, _, rs, k, o, rfl, ⟨dx, vv, hx⟩, hR, ho, eo, (by rw [← eo]; exact right_uno ok ho), fun a2 hat3 => ?_⟩
      obtain ⟨dy, n', a', b', s', k', t', p', y', g1, g2⟩ := hat3
      obtain ⟨c, rfl, hcb⟩ := g2.body
      refine ⟨a2, C, dy, _, _, rfl, g1, T.cl, T.n8, rf_body, x, c, o.body, rs, k, o, o.bn, ws', rfl, hpg1, ok, ho, hcb, b1, b2, by omega, fun H2 s2 => ?_⟩
      have h := s2 _ _ h
      have hN := s2 _ _ hN
      have hL2 := s2 _ _ (s1 _ _ hL)
      have h2 := s2 _ _ (s1 _ _ h2)
      refine ⟨_, rfl, _, rfl, _, rfl, _, rfl, _, _, _, _, rfl, rfl, SqT.of h, atI_nat (j := 4) rfl, L, _, _, _, rfl, rfl, SqL.of hL2, by rw [e4]; exact atI_nat hv2, _, _, _, _, rfl, rfl, SqT.of h2, atI_nat (j := 2) rfl, q1, _, _, _, rfl, rfl, SqT.of hN, ni_at hA, _, _, rfl, rfl, _, rfl, _, _, rfl, rfl, _, _, rfl, rfl, .inl ⟨by decide, by decide⟩, _, _, rfl, rfl, _, _, rfl, rfl, ?_⟩
      rw [← eo, wt_at ok ho] at l1
      dsimp only
      rw [decide_eq_true (show a + 8 + 2 * (o.body.wt (Wt rs) + 1) ≤ n by omega)]
      exact q _ (s1.trans s2)
  | clear h =>
    obtain ⟨a, hA, l1⟩ := hf
    refine ⟨_, rfl, _, _, _, _, rfl, rfl, SqT.of h, atI_nat (j := 0) rfl, two, fun w1 m1 => ⟨w1, _, rfl, .inr (SqT.of upd_same), rfl, rfl, _, rfl, itF rfl ?_⟩⟩
    have s1 := same_new m1 (.tup [.str "home", .str "told"])
    have h := s1 _ _ h
    have hN := s1 _ _ hN
    have hT := s1 _ _ hT
    refine ⟨_, rfl, _, _, _, _, rfl, rfl, SqT.of h, atI_nat (j := 0) rfl, rfl, _, rfl, itF (ne_str (by decide)) ?_⟩
    refine ⟨_, rfl, _, _, _, _, rfl, rfl, SqT.of h, atI_nat (j := 0) rfl, rfl, _, rfl, itF (ne_str (by decide)) ?_⟩
    refine ⟨_, rfl, _, _, _, _, rfl, rfl, SqT.of h, atI_nat (j := 0) rfl, rfl, _, rfl, itF (ne_str (by decide)) ?_⟩
    refine ⟨_, rfl, _, _, _, _, rfl, rfl, SqT.of h, atI_nat (j := 0) rfl, rfl, _, rfl, itF (ne_str (by decide)) ?_⟩
    refine ⟨_, rfl, _, _, _, _, rfl, rfl, SqT.of h, atI_nat (j := 0) rfl, two, fun w2 m2 => ⟨w2, _, rfl, .inr (SqT.of upd_same), rfl, rfl, _, rfl, itT rfl ?_⟩⟩
    have s2 := same_new m2 (.tup [.str "clear", .str "again"])
    have h := s2 _ _ h
    have hN := s2 _ _ hN
    have hT := s2 _ _ hT
    refine ⟨_, rfl, _, rfl, _, rfl, _, _, _, _, rfl, rfl, SqT.of h, atI_nat (j := 2) rfl, q1, _, _, _, rfl, rfl, SqT.of hN, ni_at hA, _, rfl, _, _, _, _, rfl, rfl, SqT.of h, atI_nat (j := 0) rfl, rfl, _, rfl, itT eq_str ⟨_, _, rfl, rfl, _, _, rfl, rfl, ?_⟩⟩
    dsimp only
    rw [decide_eq_true l1]
    exact q _ (s1.trans s2)
  | again h =>
    obtain ⟨a, hA, l1⟩ := hf
    refine ⟨_, rfl, _, _, _, _, rfl, rfl, SqT.of h, atI_nat (j := 0) rfl, two, fun w1 m1 => ⟨w1, _, rfl, .inr (SqT.of upd_same), rfl, rfl, _, rfl, itF rfl ?_⟩⟩
    have s1 := same_new m1 (.tup [.str "home", .str "told"])
    have h := s1 _ _ h
    have hN := s1 _ _ hN
    have hT := s1 _ _ hT
    refine ⟨_, rfl, _, _, _, _, rfl, rfl, SqT.of h, atI_nat (j := 0) rfl, rfl, _, rfl, itF (ne_str (by decide)) ?_⟩
    refine ⟨_, rfl, _, _, _, _, rfl, rfl, SqT.of h, atI_nat (j := 0) rfl, rfl, _, rfl, itF (ne_str (by decide)) ?_⟩
    refine ⟨_, rfl, _, _, _, _, rfl, rfl, SqT.of h, atI_nat (j := 0) rfl, rfl, _, rfl, itF (ne_str (by decide)) ?_⟩
    refine ⟨_, rfl, _, _, _, _, rfl, rfl, SqT.of h, atI_nat (j := 0) rfl, rfl, _, rfl, itF (ne_str (by decide)) ?_⟩
    refine ⟨_, rfl, _, _, _, _, rfl, rfl, SqT.of h, atI_nat (j := 0) rfl, two, fun w2 m2 => ⟨w2, _, rfl, .inr (SqT.of upd_same), rfl, rfl, _, rfl, itT rfl ?_⟩⟩
    have s2 := same_new m2 (.tup [.str "clear", .str "again"])
    have h := s2 _ _ h
    have hN := s2 _ _ hN
    have hT := s2 _ _ hT
    refine ⟨_, rfl, _, rfl, _, rfl, _, _, _, _, rfl, rfl, SqT.of h, atI_nat (j := 2) rfl, q1, _, _, _, rfl, rfl, SqT.of hN, ni_at hA, _, rfl, _, _, _, _, rfl, rfl, SqT.of h, atI_nat (j := 0) rfl, rfl, _, rfl, itF (ne_str (by decide)) ⟨_, _, rfl, rfl, _, _, rfl, rfl, ?_⟩⟩
    dsimp only
    rw [decide_eq_true (show a + 0 ≤ n by omega)]
    exact q _ (s1.trans s2)
  | set h g =>
    obtain ⟨a, hA, l1⟩ := hf
    refine ⟨_, rfl, _, _, _, _, rfl, rfl, SqT.of h, atI_nat (j := 0) rfl, two, fun w1 m1 => ⟨w1, _, rfl, .inr (SqT.of upd_same), rfl, rfl, _, rfl, itF rfl ?_⟩⟩
    have s1 := same_new m1 (.tup [.str "home", .str "told"])
    have h := s1 _ _ h
    have hN := s1 _ _ hN
    have hT := s1 _ _ hT
    refine ⟨_, rfl, _, _, _, _, rfl, rfl, SqT.of h, atI_nat (j := 0) rfl, rfl, _, rfl, itF (ne_str (by decide)) ?_⟩
    refine ⟨_, rfl, _, _, _, _, rfl, rfl, SqT.of h, atI_nat (j := 0) rfl, rfl, _, rfl, itF (ne_str (by decide)) ?_⟩
    refine ⟨_, rfl, _, _, _, _, rfl, rfl, SqT.of h, atI_nat (j := 0) rfl, rfl, _, rfl, itF (ne_str (by decide)) ?_⟩
    refine ⟨_, rfl, _, _, _, _, rfl, rfl, SqT.of h, atI_nat (j := 0) rfl, rfl, _, rfl, itF (ne_str (by decide)) ?_⟩
    refine ⟨_, rfl, _, _, _, _, rfl, rfl, SqT.of h, atI_nat (j := 0) rfl, two, fun w2 m2 => ⟨w2, _, rfl, .inr (SqT.of upd_same), rfl, rfl, _, rfl, itF rfl ?_⟩⟩
    have s2 := same_new m2 (.tup [.str "clear", .str "again"])
    have h := s2 _ _ h
    have hN := s2 _ _ hN
    have hT := s2 _ _ hT
    refine ⟨_, rfl, _, rfl, _, rfl, _, rfl, _, _, _, _, rfl, rfl, SqT.of h, rfl, q1, _, _, _, rfl, rfl, SqT.of hN, ni_at hA, _, _, rfl, rfl, ?_⟩
    dsimp only
    rw [decide_eq_true l1]
    exact q _ (s1.trans s2)
  | say h g =>
    obtain ⟨a, hA, l1⟩ := hf
    refine ⟨_, rfl, _, _, _, _, rfl, rfl, SqT.of h, atI_nat (j := 0) rfl, two, fun w1 m1 => ⟨w1, _, rfl, .inr (SqT.of upd_same), rfl, rfl, _, rfl, itF rfl ?_⟩⟩
    have s1 := same_new m1 (.tup [.str "home", .str "told"])
    have h := s1 _ _ h
    have hN := s1 _ _ hN
    have hT := s1 _ _ hT
    refine ⟨_, rfl, _, _, _, _, rfl, rfl, SqT.of h, atI_nat (j := 0) rfl, rfl, _, rfl, itF (ne_str (by decide)) ?_⟩
    refine ⟨_, rfl, _, _, _, _, rfl, rfl, SqT.of h, atI_nat (j := 0) rfl, rfl, _, rfl, itF (ne_str (by decide)) ?_⟩
    refine ⟨_, rfl, _, _, _, _, rfl, rfl, SqT.of h, atI_nat (j := 0) rfl, rfl, _, rfl, itF (ne_str (by decide)) ?_⟩
    refine ⟨_, rfl, _, _, _, _, rfl, rfl, SqT.of h, atI_nat (j := 0) rfl, rfl, _, rfl, itF (ne_str (by decide)) ?_⟩
    refine ⟨_, rfl, _, _, _, _, rfl, rfl, SqT.of h, atI_nat (j := 0) rfl, two, fun w2 m2 => ⟨w2, _, rfl, .inr (SqT.of upd_same), rfl, rfl, _, rfl, itF rfl ?_⟩⟩
    have s2 := same_new m2 (.tup [.str "clear", .str "again"])
    have h := s2 _ _ h
    have hN := s2 _ _ hN
    have hT := s2 _ _ hT
    refine ⟨_, rfl, _, rfl, _, rfl, _, rfl, _, _, _, _, rfl, rfl, SqT.of h, rfl, q1, _, _, _, rfl, rfl, SqT.of hN, ni_at hA, _, _, rfl, rfl, ?_⟩
    dsimp only
    rw [decide_eq_true l1]
    exact q _ (s1.trans s2)
  | hear h =>
    obtain ⟨a, hA, l1⟩ := hf
    refine ⟨_, rfl, _, _, _, _, rfl, rfl, SqT.of h, atI_nat (j := 0) rfl, two, fun w1 m1 => ⟨w1, _, rfl, .inr (SqT.of upd_same), rfl, rfl, _, rfl, itF rfl ?_⟩⟩
    have s1 := same_new m1 (.tup [.str "home", .str "told"])
    have h := s1 _ _ h
    have hN := s1 _ _ hN
    have hT := s1 _ _ hT
    refine ⟨_, rfl, _, _, _, _, rfl, rfl, SqT.of h, atI_nat (j := 0) rfl, rfl, _, rfl, itF (ne_str (by decide)) ?_⟩
    refine ⟨_, rfl, _, _, _, _, rfl, rfl, SqT.of h, atI_nat (j := 0) rfl, rfl, _, rfl, itF (ne_str (by decide)) ?_⟩
    refine ⟨_, rfl, _, _, _, _, rfl, rfl, SqT.of h, atI_nat (j := 0) rfl, rfl, _, rfl, itF (ne_str (by decide)) ?_⟩
    refine ⟨_, rfl, _, _, _, _, rfl, rfl, SqT.of h, atI_nat (j := 0) rfl, rfl, _, rfl, itF (ne_str (by decide)) ?_⟩
    refine ⟨_, rfl, _, _, _, _, rfl, rfl, SqT.of h, atI_nat (j := 0) rfl, two, fun w2 m2 => ⟨w2, _, rfl, .inr (SqT.of upd_same), rfl, rfl, _, rfl, itF rfl ?_⟩⟩
    have s2 := same_new m2 (.tup [.str "clear", .str "again"])
    have h := s2 _ _ h
    have hN := s2 _ _ hN
    have hT := s2 _ _ hT
    refine ⟨_, rfl, _, rfl, _, rfl, _, rfl, _, _, _, _, rfl, rfl, SqT.of h, rfl, q1, _, _, _, rfl, rfl, SqT.of hN, ni_at hA, _, _, rfl, rfl, ?_⟩
    dsimp only
    rw [decide_eq_true l1]
    exact q _ (s1.trans s2)
  | tell h g =>
    obtain ⟨a, hA, l1⟩ := hf
    refine ⟨_, rfl, _, _, _, _, rfl, rfl, SqT.of h, atI_nat (j := 0) rfl, two, fun w1 m1 => ⟨w1, _, rfl, .inr (SqT.of upd_same), rfl, rfl, _, rfl, itF rfl ?_⟩⟩
    have s1 := same_new m1 (.tup [.str "home", .str "told"])
    have h := s1 _ _ h
    have hN := s1 _ _ hN
    have hT := s1 _ _ hT
    refine ⟨_, rfl, _, _, _, _, rfl, rfl, SqT.of h, atI_nat (j := 0) rfl, rfl, _, rfl, itF (ne_str (by decide)) ?_⟩
    refine ⟨_, rfl, _, _, _, _, rfl, rfl, SqT.of h, atI_nat (j := 0) rfl, rfl, _, rfl, itF (ne_str (by decide)) ?_⟩
    refine ⟨_, rfl, _, _, _, _, rfl, rfl, SqT.of h, atI_nat (j := 0) rfl, rfl, _, rfl, itF (ne_str (by decide)) ?_⟩
    refine ⟨_, rfl, _, _, _, _, rfl, rfl, SqT.of h, atI_nat (j := 0) rfl, rfl, _, rfl, itF (ne_str (by decide)) ?_⟩
    refine ⟨_, rfl, _, _, _, _, rfl, rfl, SqT.of h, atI_nat (j := 0) rfl, two, fun w2 m2 => ⟨w2, _, rfl, .inr (SqT.of upd_same), rfl, rfl, _, rfl, itF rfl ?_⟩⟩
    have s2 := same_new m2 (.tup [.str "clear", .str "again"])
    have h := s2 _ _ h
    have hN := s2 _ _ hN
    have hT := s2 _ _ hT
    refine ⟨_, rfl, _, rfl, _, rfl, _, rfl, _, _, _, _, rfl, rfl, SqT.of h, rfl, q1, _, _, _, rfl, rfl, SqT.of hN, ni_at hA, _, _, rfl, rfl, ?_⟩
    dsimp only
    rw [decide_eq_true l1]
    exact q _ (s1.trans s2)
/-! ### numbers -/
abbrev sLN : Stmt := top 103
abbrev psLN : List Str := ["_law_some", "_law_many", "_law_least"]
abbrev nmLN : List Str := ["_law_some", "_law_many", "_law_least", "_law_one"]
theorem scLN : FnScope nmLN psLN (defScope sLN) := ⟨rfl, rfl, rfl, by decide +kernel, rfl, by decide +kernel, by decide +kernel⟩
theorem ok_ln (O : Own mg) (F : Fun K "_law_are_numbers" "_law_are_numbers" sLN f fd) : FnOk P w K mg base CX0 1 f fd psLN spAre := by
  refine F.ok scLN (fun vs H Q E h => ?_) (fun cdv A outer s H vs Q E hr h => ?_)
  · obtain ⟨a, ns, m, l, rfl, _⟩ := h
    rfl
  obtain ⟨a, ns, m, l, rfl, ha, rfl, hl, hz, q⟩ := h
  have hs : sizeLine = 16777216 := sizeLine_eq
  refine ⟨_, pss_cons (ps_if (PW.pt (pw_or (pt_not (pt_val (pe_callB call_isi rfl O.isi (by decide +kernel) (pa_cons (pv 0) (pa_cons (pe_bltn (v := .ty "tuple") rfl O.tuple (by decide +kernel) rfl) pa_nil)))))
      (pw_or1 (pt_cmpR op_ne (pe_callB call_len_seq rfl O.len PySem.boot_len (pa_cons (pv 0) pa_nil)) (pv 1) (nomark _))))) (pss_one (ps_ret pe_bl)) pss_nil)
    (pss_one (ps_ret (pe_callB (cr_all rfl) rfl O.all (by decide +kernel) (pa_cons (pe_lc (own := [("_law_one", 3)]) (g := gName 3) (tt := tYes) rfl scLN.nd
            (pi_tup (pv 0)) (blkOk_by (N := nmLN) (sc := defScope sLN) (by decide +kernel))
            (fun _ _ _ _ _ => pg_name (i := 3) scLN.nd rfl (Or.inl rfl)) (fun _ _ _ _ _ => pts_nil)
            (fun _ _ _ _ _ => pe_and (pe_callB (show CallR _ (.builtin "isinstance") (rIsi K) from call_isi) rfl O.isi (by decide +kernel) (pa_cons (pv 3) (pa_cons (pe_bltn (v := .ty "int") rfl O.int (by decide +kernel) rfl) pa_nil)))
              (pe_and (pe_not (pe_callB (show CallR _ (.builtin "isinstance") (rIsi K) from call_isi) rfl O.isi (by decide +kernel) (pa_cons (pv 3) (pa_cons (pe_bltn (v := .ty "bool") rfl O.bool (by decide +kernel) rfl) pa_nil)))) (pe_one (pe_cmpR op_ge (pv 3) (pv 2) (nomark _)))))) pa_nil)))), ?_⟩
  refine ⟨_, rfl, _, _, _, _, true, rfl, .ty "tuple", .base (.tup ha), kb "tuple" "tuple" true, _, rfl, itF rfl ?_⟩
  refine ⟨_, rfl, _, _, rfl, .inr (SqT.of ha), _, rfl, rfl, _, rfl, itF ?_ ?_⟩
  · rw [List.length_map, decide_eq_true rfl]
    rfl
  refine ⟨_, rfl, a, rfl, ⟨_, SqT.of ha⟩, fun C hC => ?_⟩
  refine turns_tup (K := K) (a := a) (xs := ns.map V.int) ((ns.map V.int).map fun _ => some (.bl true)) hC (fun Hc sm => SqT.of (sm _ _ ha)) (by rw [List.length_map]) (by rw [List.length_map]; omega) ?_ ?_
  · intro i z o Hc Y N hx ho sm hY hN
    have eo : o = some (.bl true) := by
      rw [List.getElem?_map, hx] at ho
      exact (Option.some.inj ho).symm
    rw [List.getElem?_map] at hx
    obtain ⟨n, hn, rfl⟩ : ∃ n, ns[i]? = some n ∧ z = .int n := by
      cases e : ns[i]? with
      | none => rw [e] at hx; cases hx
      | some n => rw [e] at hx; exact ⟨n, rfl, (Option.some.inj hx).symm⟩
    have h1 := hl n (List.mem_of_getElem? hn)
    refine ⟨rfl, _, rfl, _, _, _, _, true, rfl, .ty "int", .base (.int n), kb "int" "int" true, _, rfl, _, rfl, _, _, _, _, false, rfl, .ty "bool", .base (.int n), kb "int" "bool" false, _, rfl, _, rfl, _, rfl, _, rfl, _, _, rfl, rfl, ?_⟩
    dsimp only
    rw [decide_eq_true h1]
    exact hY _ eo Hc same_refl
  · intro Hc hc sm
    rw [fm_true (ns.map V.int)] at hc
    refine ⟨C, _, rfl, SqL.of hc, ?_⟩
    rw [show ((ns.map V.int).map fun _ => true).all id = true by rw [List.all_map]; exact List.all_eq_true.mpr fun _ _ => rfl]
    exact q Hc sm
end
end Any
set_option pp.maxSteps 600
namespace Any
open L2 PySem PySem.Spec PyProof.Rows LamX NdefX
/-! ### what the measure comes to -/
mutual
theorem Sg.rgs_in {xs ws rs : List Str} {Z : List (Int × Int)} : ∀ (s : Sg), s.ok xs ws rs → ∀ (f : Nat) (R : List (Int × Int)), Z ∈ s.rgs f R → Z.length ≤ R.length + s.dp ∧ ∀ q ∈ Z, q ∈ R ∨ (1 ≤ q.2 ∧ q.2 ≤ 9)
  | .ifs t a b, ho, f, R, h => by
    unfold Sg.ok at ho
    have d2 : Sg.dp (.ifs t a b) = max a.dp b.dp + 1 := by unfold Sg.dp; rfl
    unfold Sg.rgs at h
    rcases List.mem_cons.mp h with e | h
    · rw [e]
      exact ⟨by omega, fun q hq => .inl hq⟩
    rcases List.mem_append.mp h with h | h
    · obtain ⟨h1, h2⟩ := Bd.rgs_in a ho.2.1.1 _ _ h
      exact ⟨by omega, h2⟩
    · obtain ⟨h1, h2⟩ := Bd.rgs_in b ho.2.2.1 _ _ h
      exact ⟨by omega, h2⟩
  | .fors e m a, ho, f, R, h => by
    unfold Sg.ok at ho
    have d2 : Sg.dp (.fors e m a) = a.dp + 1 := by unfold Sg.dp; rfl
    have inn : ∀ q ∈ R ++ [((f : Int), m)], q ∈ R ∨ (1 ≤ q.2 ∧ q.2 ≤ 9) := fun q hq => by
      rcases List.mem_append.mp hq with z | z
      · exact .inl z
      · rw [List.mem_singleton.mp z]
        exact .inr ho.2.1
    unfold Sg.rgs at h
    rcases List.mem_cons.mp h with e | h
    · rw [e]
      exact ⟨by omega, fun q hq => .inl hq⟩
    rcases List.mem_cons.mp h with e | h
    · rw [e]
      exact ⟨by rw [List.length_append, List.length_singleton]; omega, inn⟩
    obtain ⟨h1, h2⟩ := Bd.rgs_in a ho.2.2.1 _ _ h
    rw [List.length_append, List.length_singleton] at h1
    refine ⟨by omega, fun q hq => ?_⟩
    rcases h2 q hq with z | z
    · exact inn q z
    · exact .inr z
  | .call _ _ _, ho, f, R, h => by
    unfold Sg.rgs at h
    have e : Z = R := by
      rcases List.mem_cons.mp h with e | h
      · exact e
      rcases List.mem_cons.mp h with e | h
      · exact e
      exact List.mem_singleton.mp h
    rw [e]
    exact ⟨by omega, fun q hq => .inl hq⟩
  | .set _ _, ho, f, R, h => by unfold Sg.rgs at h; rw [List.mem_singleton.mp h]; exact ⟨by omega, fun q hq => .inl hq⟩
  | .say _ _, ho, f, R, h => by unfold Sg.rgs at h; rw [List.mem_singleton.mp h]; exact ⟨by omega, fun q hq => .inl hq⟩
  | .hear _, ho, f, R, h => by unfold Sg.rgs at h; rw [List.mem_singleton.mp h]; exact ⟨by omega, fun q hq => .inl hq⟩
theorem Bd.rgs_in {xs ws rs : List Str} {Z : List (Int × Int)} : ∀ (b : Bd), b.ok xs ws rs → ∀ (f : Nat) (R : List (Int × Int)), Z ∈ b.rgs f R → Z.length ≤ R.length + b.dp ∧ ∀ q ∈ Z, q ∈ R ∨ (1 ≤ q.2 ∧ q.2 ≤ 9)
  | .nil, ho, f, R, h => by unfold Bd.rgs at h; cases h
  | .cons s b, ho, f, R, h => by
    unfold Bd.ok at ho
    have d2 : Bd.dp (.cons s b) = max s.dp b.dp := by rw [Bd.dp]
    unfold Bd.rgs at h
    rcases List.mem_append.mp h with h | h
    · obtain ⟨h1, h2⟩ := Sg.rgs_in s ho.1 _ _ h
      exact ⟨by omega, h2⟩
    · obtain ⟨h1, h2⟩ := Bd.rgs_in b ho.2 _ _ h
      exact ⟨by omega, h2⟩
end
/-- the fors around each place of a room; the last two are more than the first room has -/
def Rm.rings (r : Rm) : List (List (Int × Int)) := [[]] ++ r.body.rgs 0 [] ++ [[], []]
/-- what stands at each place with all counts at their most -/
def Rm.tops (W : Str → Int) (r : Rm) : List Int := (List.range (r.numsR W).length).map fun t => (r.numsR W)[t]?.getD 0 + ringV (r.body.turns W) ((r.rings)[t]?.getD [])
theorem home_kB {W : Str → Int} (r : Rm) : r.home W = r.kB + r.body.wt W + 1 := by
  unfold Rm.home Rm.kB
  split <;> omega
theorem room_ring {W : Str → Int} {r : Rm} {xs ws rs : List Str} (hW : ∀ x ∈ rs, 0 ≤ W x) (ho : r.body.ok xs ws rs) {t : Nat} {n : Int} (ht : (r.numsR W)[t]? = some n) : ∃ R, r.rings[t]? = some R ∧ RingOk (r.body.turns W) R ∧ n + ringV (r.body.turns W) R ≤ r.home W - 1 ∧ R.length ≤ r.body.dp ∧ ∀ q ∈ R, 1 ≤ q.2 ∧ q.2 ≤ 9 := by
  have w0 := Bd.wt_nn hW _ ho
  have hT : Seg (r.body.turns W) 0 (r.body.turns W) := fun t x e => by rw [Nat.zero_add]; exact e
  have hN : Seg (r.numsR W) 1 (r.body.nums W r.kB) := Seg.self [0] _ _
  have z := Bd.ring hW r.body ho 1 0 r.kB [] hN hT (fun q hq => nomatch hq)
  have v0 : ringV (r.body.turns W) [] = 0 := rfl
  have kB0 : 0 ≤ r.kB := by unfold Rm.kB; split <;> decide
  rw [v0, Int.add_zero] at z
  have hh := home_kB (W := W) r
  have hlen : ([[]] ++ r.body.rgs 0 []).length = 1 + r.body.sz := by rw [List.length_append, Bd.rgs_len]; rfl
  by_cases h0 : t = 0
  · subst h0
    have : n = 0 := (Option.some.inj ht).symm
    exact ⟨[], rfl, (fun q hq => nomatch hq), by rw [v0]; omega, Nat.zero_le _, (fun q hq => nomatch hq)⟩
  by_cases h1 : t < 1 + r.body.sz
  · obtain ⟨R, hR⟩ : ∃ R, (r.body.rgs 0 [])[t - 1]? = some R := ⟨_, List.getElem?_eq_getElem (by rw [Bd.rgs_len]; omega)⟩
    obtain ⟨g0, m, g1, g2⟩ := z _ _ hR
    rw [show 1 + (t - 1) = t by omega, ht] at g1
    have : n = m := Option.some.inj g1
    obtain ⟨i1, i2⟩ := Bd.rgs_in r.body ho _ _ (List.mem_of_getElem? hR)
    refine ⟨R, ?_, g0, by omega, by rw [List.length_nil, Nat.zero_add] at i1; exact i1, fun q hq => (i2 q hq).elim (fun z => (nomatch z)) id⟩
    unfold Rm.rings
    rw [List.getElem?_append_left (by rw [hlen]; exact h1), List.getElem?_append_right (by show 1 ≤ t; omega)]
    exact hR
  · have hl : t < (r.numsR W).length := (List.getElem?_eq_some_iff.mp ht).1
    unfold Rm.numsR at ht hl
    have hl1 : ([(0 : Int)] ++ r.body.nums W r.kB).length = 1 + r.body.sz := by rw [List.length_append, Bd.nums_len]; rfl
    rw [List.getElem?_append_right (by rw [hl1]; omega), hl1] at ht
    rw [List.length_append, hl1] at hl
    refine ⟨[], ?_, (fun q hq => nomatch hq), ?_, Nat.zero_le _, (fun q hq => nomatch hq)⟩
    · unfold Rm.rings
      rw [List.getElem?_append_right (by rw [hlen]; omega), hlen]
      have : r.tl.length ≤ 2 := by unfold Rm.tl; split; exact Nat.zero_le _; exact Nat.le_refl _
      have : t - (1 + r.body.sz) = 0 ∨ t - (1 + r.body.sz) = 1 := by omega
      rcases this with e | e <;> rw [e] <;> rfl
    · rw [v0]
      unfold Rm.tl at ht
      unfold Rm.kB at hh
      split at ht
      · simp at ht
      · rename_i c
        rw [if_neg c] at hh
        have : n ≤ 3 := by
          have hm := List.mem_of_getElem? ht
          rcases List.mem_cons.mp hm with e | hm
          · omega
          · have := List.mem_singleton.mp hm
            omega
        omega
theorem room_top {W : Str → Int} (r : Rm) : ∃ t : Nat, (r.numsR W)[t]? = some (r.home W - 1) ∧ r.rings[t]? = some [] := by
  have hh := home_kB (W := W) r
  cases hb : r.body with
  | nil =>
    have en : Bd.nums W .nil r.kB = [] := by rw [Bd.nums]
    have er : Bd.rgs .nil 0 [] = [] := by rw [Bd.rgs]
    have ew : Bd.wt W .nil = 0 := by rw [Bd.wt]
    rw [hb, ew] at hh
    unfold Rm.numsR Rm.rings Rm.tl
    rw [hb, en, er]
    by_cases c : r.above = ""
    · have k : r.kB = 0 := if_pos c
      refine ⟨0, ?_, rfl⟩
      rw [hh, k]
      rfl
    · have k : r.kB = 3 := if_neg c
      refine ⟨1, ?_, rfl⟩
      rw [hh, k, if_neg c]
      rfl
  | cons s b =>
    obtain ⟨rr, e1⟩ := Sg.nums_head W s (r.kB + Bd.wt W (.cons s b))
    have en : Bd.nums W (.cons s b) r.kB = s.nums W (r.kB + Bd.wt W (.cons s b)) ++ b.nums W r.kB := by rw [Bd.nums]
    have er : Bd.rgs (.cons s b) 0 [] = s.rgs 0 [] ++ b.rgs (0 + s.nf) [] := by rw [Bd.rgs]
    have es : ∃ q, s.rgs 0 [] = [] :: q := by
      cases s with
      | ifs t p q => unfold Sg.rgs; exact ⟨_, rfl⟩
      | fors e m a => unfold Sg.rgs; exact ⟨_, rfl⟩
      | call x y e => unfold Sg.rgs; exact ⟨_, rfl⟩
      | set x e => unfold Sg.rgs; exact ⟨_, rfl⟩
      | say x e => unfold Sg.rgs; exact ⟨_, rfl⟩
      | hear x => unfold Sg.rgs; exact ⟨_, rfl⟩
    obtain ⟨qq, e2⟩ := es
    refine ⟨1, ?_, ?_⟩
    · unfold Rm.numsR
      rw [hb, en, e1, show r.home W - 1 = r.kB + Bd.wt W (.cons s b) by rw [hh, hb]; omega]
      rfl
    · unfold Rm.rings
      rw [hb, er, e2]
      rfl
theorem tops_max {W : Str → Int} {r : Rm} {xs ws rs : List Str} (hW : ∀ x ∈ rs, 0 ≤ W x) (ho : r.body.ok xs ws rs) : (r.home W - 1) ∈ r.tops W ∧ ∀ y ∈ r.tops W, y ≤ r.home W - 1 := by
  refine ⟨?_, fun y hy => ?_⟩
  · obtain ⟨t, h1, h2⟩ := room_top (W := W) r
    refine List.mem_map.mpr ⟨t, List.mem_range.mpr (List.getElem?_eq_some_iff.mp h1).1, ?_⟩
    rw [h1, h2]
    show r.home W - 1 + 0 = _
    omega
  · obtain ⟨t, ht, rfl⟩ := List.mem_map.mp hy
    have ht := List.mem_range.mp ht
    obtain ⟨n, hn⟩ : ∃ n, (r.numsR W)[t]? = some n := ⟨_, List.getElem?_eq_getElem ht⟩
    obtain ⟨R, h1, _, h2, _⟩ := room_ring hW ho hn
    rw [hn, h1]
    exact h2
end Any
set_option pp.maxSteps 600
namespace Any
open L2 PySem PySem.Spec PyProof.Rows LamX NdefX
/-! ### _law_is_measure -/
abbrev sIM : Stmt := top 104
abbrev nmIM : List Str := ["_law_tree", "_law_one", "_law_paper", "_law_rows", "_law_inner", "_law_many", "_law_at", "_law_rings_here", "_law_found", "_law_number", "_law_most"]
abbrev psIM : List Str := ["_law_tree", "_law_one", "_law_paper"]
theorem scIM : FnScope nmIM psIM (defScope sIM) := ⟨rfl, rfl, rfl, by decide +kernel, rfl, by decide +kernel, by decide +kernel⟩
def spIM (C D : Addr) : Sp := fun vs H Q _ => ∃ (x a p : Addr) (rs : List Rm) (i : Nat) (r : Rm), vs = [.ref x, .ref a, .ref p] ∧ PgOk C D H x rs ∧ Right rs ∧ rs[i]? = some r ∧ RmAt C H a r ∧ MeAt H p (r.numsR (Wt rs)) (r.body.turns (Wt rs)) ∧ ∀ H', Same H H' → Q (.bl true) H'
theorem at_rng {n j : Nat} {z : V} (h : ((List.range n).map fun i : Nat => V.int (0 + (i : Int)))[j]? = some z) : j < n ∧ z = .int (j : Int) := by
  rw [List.getElem?_map] at h
  by_cases c : j < n
  · rw [List.getElem?_range c] at h
    have := Option.some.inj h
    exact ⟨c, by rw [← this]; show V.int (0 + (j : Int)) = _; rw [Int.zero_add]⟩
  · rw [List.getElem?_eq_none (by rw [List.length_range]; omega)] at h
    cases h
theorem all_rng (n : Nat) : ((List.range n).map fun _ => true).all id = true := by
  rw [List.all_map]
  exact List.all_eq_true.mpr fun _ _ => rfl
theorem rng_true (n : Nat) : ((List.range n).map fun _ : Nat => some (V.bl true)).filterMap id = ((List.range n).map fun _ => true).map V.bl := by
  rw [fm_some (fun _ : Nat => V.bl true), List.map_map]
  rfl
section
variable {P : Program} {w : World} {K : PySem.W.Frag} {mg : Str → Option Value} {base : Heap} {f C D : Addr} {fd : FuncData}
set_option maxHeartbeats 4000000 in
theorem ok_im (O : Own mg) (mr : mg "range" = none) (mm : mg "max" = none) (T : RoomC K C) (DP : Df P w K mg base 16 "places" ["program", "name"] (spPlc C D)) (RG : Df P w K mg base 6 "_law_rings" psRg (spRg 5)) (LN : Df P w K mg base 1 "_law_are_numbers" psLN spAre) (LF : Df P w K mg base 47 "_law_falls" psLF (spLF C D)) (LH : Df P w K mg base 47 "_law_home" ["_law_tree", "_law_one"] (spLH C D))
    (F : Fun K "_law_is_measure" "_law_is_measure" sIM f fd) : FnOk P w K mg base CX0 48 f fd psIM (spIM C D) := by
  refine F.ok scIM (fun vs H Q E h => ?_) (fun cdv A outer s H vs Q E hr h => ?_)
  · obtain ⟨x, a, p, rs, i, r, rfl, _⟩ := h
    rfl
  obtain ⟨x, a, p, rs, i, r, rfl, hpg, ok, hi, hat, hme, q⟩ := h
  have hs : sizeLine = 16777216 := sizeLine_eq
  have hr1 := hr.mono (show 1 ≤ 47 by decide)
  have hr6 := hr.mono (show 6 ≤ 47 by decide)
  have hr16 := hr.mono (show 16 ≤ 47 by decide)
  obtain ⟨ws, b1, b2, b3, b4⟩ := body_of ok hi
  have zt := Bd.sz_tot r.body
  have ly := right_lays ok hi
  have hW : ∀ y ∈ ben rs r.name, 0 ≤ Wt rs y := fun y _ => wt_nn ok y
  obtain ⟨hfall, af⟩ := room_fall hW b1 ly.told
  obtain ⟨n1, n2, n3, n4⟩ := room_nums ok hi
  obtain ⟨tm1, tm2⟩ := tops_max hW b1
  obtain ⟨t1, ht1, leaf⟩ : ∃ t1, PSs (cxOf CX0 P w K mg base nmIM "_law_is_measure" (defScope sIM) f cdv A outer s H E).nox ((defBody sIM).drop 5) t1 ∧
      ∀ (H1 : Hp) (L I : Addr) (k : V) (y6 : Option V) (vs : List V), Same H H1 → H1 L = some (.lst vs) → vs.length = (r.numsR (Wt rs)).length → RgsAt H1 I (r.body.rgs 0 []) →
        t1 { nx := fun _ H' => Q .non H', rt := Q } [some (.ref x), some (.ref a), some (.ref p), some (.ref L), some (.ref I), some k, y6, none, none, none, none] H1 := by
    refine ⟨_, pss_cons (ps_par (i := 7) (j := 8) (by rfl) scIM.nd rfl rfl (by decide) rfl rfl (pa_cons (pe_op op_cat (pe_op op_cat (pe_lst (pa_cons (pe_lst pa_nil) pa_nil)) (pv 4)) (pe_lst (pa_cons (pe_lst pa_nil) (pa_cons (pe_lst pa_nil) pa_nil)))) (pa_cons (pe_lst pa_nil) pa_nil)) (by rfl))
      (pss_cons (ps_for PassesOwn.never rfl (pi_range1 rfl mr (pa_cons (pe_callB call_len_seq rfl O.len PySem.boot_len (pa_cons (pv 3) pa_nil)) pa_nil)) (pg_name (i := 6) scIM.nd rfl (Or.inl rfl))
        (pss_one (ps_expr (pe_bm PySem.F.plainAttrs_list PySem.F.slot_list_append PySem.F.type_list_append mt_append (pv 8) (pa_cons (pe_op op_add (pe_ix ix_tup (pe_ix ix_tup (pv 2) pe_int (fun _ _ => rfl)) (pv 6) (fun _ _ => rfl))
          (pe_callB (cr_sum rfl) rfl O.sum (by decide +kernel) (pa_cons (pe_lc (own := [("_law_number", 9), ("_law_most", 10)]) (g := gTup K 2 (gCons (gName 9) (gCons (gName 10) gNil))) (tt := tYes) rfl scIM.nd (pi_list (pe_ix ix_list (pv 7) (pv 6) (fun _ _ => rfl))) (blkOk_by (N := nmIM) (sc := defScope sIM) (by decide +kernel))
            (fun _ _ _ _ _ => pg_tup rfl (pgs_cons (pg_name (i := 9) scIM.nd rfl (Or.inl rfl)) (pgs_cons (pg_name (i := 10) scIM.nd rfl (Or.inl rfl)) pgs_nil))) (fun _ _ _ _ _ => pts_nil)
            (fun _ _ _ _ _ => pe_op op_mul (pv 10) (pe_ix (show IxR _ (rIxT K) from ix_tup) (pe_ix (show IxR _ (rIxT K) from ix_tup) (pv 2) pe_int (fun _ _ => rfl)) (pv 9) (fun _ _ => rfl)))) pa_nil))) pa_nil)))))
      (pss_one (ps_ret (pe_cmpR op_eq (pe_op op_add (pe_callB (cr_max rfl) rfl mm (by decide +kernel) (pa_cons (pv 8) pa_nil)) pe_int) (pe_D LH hr rfl (pa_cons (pv 0) (pa_cons (pv 1) pa_nil))) (nomark _))))), ?_⟩
    intro H1 L I k y6 vs s1 hL hvl hI
    refine ⟨(by show 0 ≤ sizeLine; omega), fun e1 m1 => ⟨(by show 1 ≤ sizeLine; omega), fun l1 o1 => ?_⟩⟩
    have a1 := same_new m1 (.lst [])
    have a2 := same_new o1 (.lst [.ref e1])
    have g1 : RgsAt (upd (upd H1 e1 (.lst [])) l1 (.lst [.ref e1])) l1 [[]] := ⟨[e1], upd_same, .cons ⟨[], a2 _ _ upd_same, .nil⟩ .nil⟩
    have s2 := a1.trans a2
    clear a1 a2
    generalize upd (upd H1 e1 (.lst [])) l1 (.lst [.ref e1]) = H2 at *
    refine ⟨_, rfl, cat_rgs g1 (hI.keep s2) (by rw [Bd.rgs_len]; show 1 + _ ≤ 2000; omega) fun p3 H3 s3 g3 => ?_⟩
    refine ⟨(by show 0 ≤ sizeLine; omega), fun e2 m2 => ⟨(by show 0 ≤ sizeLine; omega), fun e3 m3 => ⟨(by show 2 ≤ sizeLine; omega), fun l2 o2 => ?_⟩⟩⟩
    have a1 := same_new m2 (.lst [])
    have a2 := same_new m3 (.lst [])
    have a3 := same_new o2 (.lst [.ref e2, .ref e3])
    have g4 : RgsAt (upd (upd (upd H3 e2 (.lst [])) e3 (.lst [])) l2 (.lst [.ref e2, .ref e3])) l2 [[], []] := ⟨[e2, e3], upd_same, .cons ⟨[], a3 _ _ (a2 _ _ upd_same), .nil⟩ (.cons ⟨[], a3 _ _ upd_same, .nil⟩ .nil)⟩
    have s4 := a1.trans (a2.trans a3)
    clear a1 a2 a3
    generalize upd (upd (upd H3 e2 (.lst [])) e3 (.lst [])) l2 (.lst [.ref e2, .ref e3]) = H4 at *
    refine cat_rgs (g3.keep s4) g4 (by rw [List.length_append, Bd.rgs_len]; show 1 + _ + 2 ≤ 2000; omega) fun Rr H5 s5 g5 => ?_
    have g5 : RgsAt H5 Rr r.rings := g5
    refine ⟨(by show 0 ≤ sizeLine; omega), fun G nG => ⟨_, _, rfl, ?_⟩⟩
    have s15 := s2.trans (s3.trans (s4.trans s5))
    have s05 := s1.trans s15
    have s6 := same_new nG (.lst [])
    refine ⟨_, rfl, L, _, rfl, .inl (SqL.of (s6 _ _ (s15 _ _ hL))), _, rfl, by omega, by omega, ?_⟩
    rw [Int.toNat_natCast]
    obtain ⟨q1, q2, hp, hN, hTn⟩ := hme
    obtain ⟨as, hRr, hpR⟩ := id g5
    refine for_range (lo := 0) (fun j σ Hc => ∃ y6 y9 y10 : Option V, σ = [some (.ref x), some (.ref a), some (.ref p), some (.ref L), some (.ref I), some k, y6, some (.ref Rr), some (.ref G), y9, y10] ∧ Same H5 Hc ∧ Hc G = some (.lst (((r.tops (Wt rs)).take j).map V.int))) ⟨_, _, _, rfl, s6, upd_same⟩ ?_ ?_
    · rintro j σ Hc hj ⟨y6, y9, y10, rfl, sm, hG⟩
      obtain ⟨n, hn⟩ : ∃ n, (r.numsR (Wt rs))[j]? = some n := ⟨_, List.getElem?_eq_getElem (by rw [← hvl]; exact hj)⟩
      obtain ⟨Rj, hRj, hok, _, hlen, hm⟩ := room_ring hW b1 hn
      obtain ⟨ea, hea, hat2⟩ := paired_put hpR hRj
      have sH := s05.trans sm
      refine ⟨_, rfl, .inl ⟨rfl, _, SqL.of hG⟩, ?_⟩
      refine ⟨_, rfl, p, _, _, _, rfl, rfl, SqT.of (sH _ _ hp), atI_nat (j := 0) rfl, _, rfl, q1, _, _, _, rfl, rfl, SqT.of (sH _ _ hN), ni_at ⟨j, by omega, hn⟩, ?_⟩
      obtain ⟨bs, hbs, hpb⟩ := hat2.keep sm
      have hbl := paired_len hpb
      refine ⟨_, rfl, _, rfl, Rr, _, _, _, rfl, rfl, SqL.of (sm _ _ hRr), (by rw [Int.zero_add]; exact atI_nat (v := V.ref ea) (by rw [List.getElem?_map, hea]; rfl)), ea, rfl, ⟨_, SqL.of hbs⟩, fun M nM => ?_⟩
      refine turns_list (K := K) (a := ea) (xs := bs.map V.ref) (Rj.map fun q => some (.int (q.2 * ((r.body.turns (Wt rs))[q.1.toNat]?.getD 0)))) nM (fun Hd sd => SqL.of (sd _ _ hbs)) (by rw [List.length_map, List.length_map]; exact hbl.symm) (by rw [List.length_map]; omega) ?_ ?_
      · intro t z o Hd Y N hz ho sd hY hN2
        obtain ⟨e, he, rfl⟩ := refs_at hz
        obtain ⟨qq, hq, hqt⟩ := paired_get hpb he
        rw [List.getElem?_map, hq] at ho
        have ho : o = some (V.int (qq.2 * ((r.body.turns (Wt rs))[qq.1.toNat]?.getD 0))) := (Option.some.inj ho).symm
        have hqm := List.mem_of_getElem? hq
        obtain ⟨u, hu⟩ := hok qq hqm
        obtain ⟨m1, m2⟩ := hm qq hqm
        have sHd := sH.trans sd
        refine ⟨e, _, rfl, SqT.of (sd _ _ hqt), rfl, _, _, rfl, _, _, rfl, rfl, rfl, ?_⟩
        refine ⟨_, rfl, _, rfl, p, _, _, _, rfl, rfl, SqT.of (sHd _ _ hp), atI_nat (j := 1) rfl, _, rfl, q2, _, _, _, rfl, rfl, SqT.of (sHd _ _ hTn), ni_at hu, _, _, rfl, rfl, .inl ⟨by omega, by omega⟩, ?_⟩
        obtain ⟨t2, et, hu2⟩ := hu
        rw [et, Int.toNat_natCast, hu2] at ho
        exact hY _ ho Hd same_refl
      · intro Hd hM sd
        rw [fm_some (fun q : Int × Int => V.int (q.2 * ((r.body.turns (Wt rs))[q.1.toNat]?.getD 0)))] at hM
        have em : Rj.map (fun q : Int × Int => V.int (q.2 * ((r.body.turns (Wt rs))[q.1.toNat]?.getD 0))) = (Rj.map fun q : Int × Int => q.2 * ((r.body.turns (Wt rs))[q.1.toNat]?.getD 0)).map V.int := by rw [List.map_map]; rfl
        rw [em] at hM
        refine ⟨M, _, rfl, SqL.of hM, _, _, rfl, rfl, ?_⟩
        have hGd := sd _ _ hG
        refine ⟨G, _, _, rfl, rfl, hGd, by rw [List.length_map, List.length_take]; omega, ?_⟩
        refine ⟨_, _, _, rfl, fun b o hb => ?_, ?_⟩
        · rw [upd_ne (ne_of_none hb nG)]
          exact sd _ _ (sm _ _ hb)
        · rw [upd_same]
          have et : (r.tops (Wt rs))[j]? = some (n + ringV (r.body.turns (Wt rs)) Rj) := by
            unfold Rm.tops
            rw [List.getElem?_map, List.getElem?_range (by rw [← hvl]; exact hj)]
            show some ((r.numsR (Wt rs))[j]?.getD 0 + ringV _ (r.rings[j]?.getD [])) = _
            rw [hn, hRj]
            rfl
          rw [List.take_add_one, et, List.map_append]
          rfl
    · rintro σ Hc ⟨y6, y9, y10, rfl, sm, hG⟩
      have lt : (r.tops (Wt rs)).length = vs.length := by
        unfold Rm.tops
        rw [List.length_map, List.length_range, hvl]
      rw [← lt, List.take_length] at hG
      have sH := s05.trans sm
      refine ⟨_, rfl, G, _, rfl, SqL.of hG, ?_, fun m hm1 hm2 => ?_⟩
      · exact List.length_pos_of_mem tm1
      have em : m = r.home (Wt rs) - 1 := by
        have z1 := tm2 m hm1
        have z2 := hm2 _ tm1
        omega
      refine ⟨_, _, rfl, rfl, _, rfl, _, rfl, x, a, rs, i, r, rfl, hpg.keep sH, ok, hi, hat.keep sH, fun H9 s9 => ⟨rfl, ?_⟩⟩
      dsimp only
      rw [decide_eq_true (show V.int (m + 1) = V.int (vHome rs r) by rw [em, show r.home (Wt rs) - 1 + 1 = vHome rs r by unfold vHome; omega])]
      exact q H9 (sH.trans s9)
  refine ⟨_, pss_cons (ps_set (i := 3) scIM.nd rfl (Or.inr rfl) (pe_D DP hr16 rfl (pa_cons (pv 0) (pa_cons (pe_fld (pv 1) rfl) pa_nil))))
    (pss_cons (ps_asg (pe_D RG hr6 rfl (pa_cons (pe_fld (pv 1) rfl) (pa_cons (pe_lst pa_nil) (pa_cons pe_int pa_nil)))) (pg_tup rfl (pgs_cons (pg_name (i := 4) scIM.nd rfl (Or.inl rfl)) (pgs_cons (pg_name (i := 5) scIM.nd rfl (Or.inl rfl)) pgs_nil))))
    (pss_cons (ps_if (PW.pt (pw_or (pt_not (pt_val (pe_callB call_isi rfl O.isi (by decide +kernel) (pa_cons (pv 2) (pa_cons (pe_bltn (v := .ty "tuple") rfl O.tuple (by decide +kernel) rfl) pa_nil)))))
      (pw_or (pt_cmpR op_ne (pe_callB call_len_seq rfl O.len PySem.boot_len (pa_cons (pv 2) pa_nil)) pe_int (nomark _))
      (pw_or1 (pt_not (pt_val (pe_D LN hr1 rfl (pa_cons (pe_ix ix_tup (pv 2) pe_int (fun _ _ => rfl)) (pa_cons (pe_callB call_len_seq rfl O.len PySem.boot_len (pa_cons (pv 3) pa_nil)) (pa_cons pe_int pa_nil)))))))))) (pss_one (ps_ret pe_bl)) pss_nil)
    (pss_cons (ps_if (pt_not (pt_val (pe_D LN hr1 rfl (pa_cons (pe_ix ix_tup (pv 2) pe_int (fun _ _ => rfl)) (pa_cons (pv 5) (pa_cons pe_int pa_nil)))))) (pss_one (ps_ret pe_bl)) pss_nil)
    (pss_cons (ps_if (pt_not (pt_val (pe_callB (cr_all rfl) rfl O.all (by decide +kernel) (pa_cons (pe_lc (own := [("_law_at", 6)]) (g := gName 6) (tt := tYes) rfl scIM.nd
            (pi_range1 rfl mr (pa_cons (pe_callB call_len_seq rfl O.len PySem.boot_len (pa_cons (pv 3) pa_nil)) pa_nil)) (blkOk_by (N := nmIM) (sc := defScope sIM) (by decide +kernel))
            (fun _ _ _ _ _ => pg_name (i := 6) scIM.nd rfl (Or.inl rfl)) (fun _ _ _ _ _ => pts_nil)
            (fun _ _ _ _ _ => pe_D LF hr rfl (pa_cons (pv 0) (pa_cons (pv 3) (pa_cons (pv 6) (pa_cons (pv 2) pa_nil)))))) pa_nil)))) (pss_one (ps_ret pe_bl)) pss_nil) ht1)))), ?_⟩
  obtain ⟨dy, n', a', b', s', k', t', p', y', g1, g2⟩ := id hat
  obtain ⟨c, rfl, hc⟩ := g2.body
  have hnm := g2.name
  subst hnm
  refine ⟨_, rfl, _, rfl, a, C, dy, _, _, rfl, g1, T.cl, T.n1, rf_name, x, rs, i, r, rfl, hpg, ok, hi, fun L H1 nL s1 hF => ?_⟩
  obtain ⟨vs, hv, hpp⟩ := id hF
  have hvl := paired_len hpp
  rw [hfall] at hvl
  refine ⟨_, rfl, a, C, dy, _, _, rfl, s1 _ _ g1, T.cl, T.n8, rf_body, (by show 0 ≤ sizeLine; omega), fun e me => ?_⟩
  have s2 := s1.trans (same_new me (.lst []))
  have hv2 := (same_new me (.lst [])) _ _ hv
  refine ⟨c, e, 0, 0, r.body, [], rfl, rfl, hc.keep (Same.tups s2), by omega, by omega, ⟨[], upd_same, .nil⟩, by show 0 + _ ≤ 1000; omega, fun p2 I H3 s3 hp2 hI => ?_⟩
  refine ⟨p2, _, rfl, SqT.of hp2, rfl, _, _, rfl, _, _, rfl, rfl, ?_⟩
  have s03 := s2.trans s3
  have hv3 := s3 _ _ hv2
  obtain ⟨q1, q2, hp, hN, hTn⟩ := id hme
  refine ⟨_, rfl, _, _, _, _, true, rfl, .ty "tuple", .base (.tup (s03 _ _ hp)), kb "tuple" "tuple" true, _, rfl, itF rfl ?_⟩
  refine ⟨_, rfl, _, _, rfl, .inr (SqT.of (s03 _ _ hp)), rfl, _, rfl, itF rfl ?_⟩
  refine ⟨_, rfl, p, _, _, _, rfl, rfl, SqT.of (s03 _ _ hp), atI_nat (j := 0) rfl, _, rfl, L, _, rfl, .inl (SqL.of hv3), q1, _, _, 0, rfl, s03 _ _ hN, by rw [hvl], n1, by omega, fun H4 s4 => ?_⟩
  refine ⟨_, rfl, itF rfl ?_⟩
  have s04 := s03.trans s4
  refine ⟨_, rfl, p, _, _, _, rfl, rfl, SqT.of (s04 _ _ hp), atI_nat (j := 1) rfl, _, rfl, q2, _, _, 1, rfl, s04 _ _ hTn, by rw [Bd.turns_len, Nat.zero_add], n2, by omega, fun H5 s5 => ?_⟩
  refine ⟨_, rfl, itF rfl ?_⟩
  have s05 := s04.trans s5
  have s15 : Same H1 H5 := (same_new me (.lst [])).trans (s3.trans (s4.trans s5))
  refine ⟨_, rfl, L, _, rfl, .inl (SqL.of (s15 _ _ hv)), _, rfl, by omega, by omega, fun M nM => ?_⟩
  rw [Int.toNat_natCast]
  refine turns_rng ((List.range vs.length).map fun _ => some (V.bl true)) nM (by rw [List.length_map, List.length_range]) (by omega) ?_ ?_
  · intro j z o Hc Y N hz ho sm hY hN2
    obtain ⟨hj, ez⟩ := at_rng hz
    rw [List.getElem?_map, List.getElem?_range hj] at ho
    have eo : o = some (.bl true) := (Option.some.inj ho).symm
    subst ez
    obtain ⟨pl, hpl⟩ : ∃ pl, r.places[j]? = some pl := ⟨_, List.getElem?_eq_getElem (by rw [hfall, ← hvl]; exact hj)⟩
    obtain ⟨n, hn, hf⟩ := af j pl hpl
    rw [Nat.zero_add] at hn
    have sH := s05.trans sm
    exact ⟨rfl, _, rfl, _, rfl, _, rfl, _, rfl, x, L, p, _, n, j, i, rs, r, r.places, pl, _, _, rfl, rfl, hpg.keep sH, ok, hi, hF.keep (s15.trans sm), hpl, Rm.places_wok b1 (List.mem_of_getElem? hpl), hme.keep (Same.tups sH), hn, hf, fun H' sm' => hY _ eo H' sm'⟩
  · intro H6 hM6 s6
    rw [rng_true] at hM6
    refine ⟨M, _, rfl, SqL.of hM6, ?_⟩
    rw [all_rng]
    refine ⟨_, rfl, itF rfl ?_⟩
    exact leaf H6 L I _ _ vs (s05.trans s6) (s6 _ _ (s15 _ _ hv)) hvl ((hI.keep (s4.trans s5)).keep s6)
end
end Any
set_option pp.maxSteps 600
namespace Any
open L2 PySem PySem.Spec PyProof.Rows LamX NdefX
/-! ### how great the numbers of a measure get -/
def pw (c : Int) : Nat → Int
  | 0 => c
  | n + 1 => 20 * pw c n
theorem pw_ge {c : Int} (h : 0 ≤ c) : ∀ n : Nat, c ≤ pw c n
  | 0 => Int.le_refl _
  | n + 1 => by
    have := pw_ge h n
    unfold pw
    omega
theorem mul_two (p q x y : Int) : 20 * p * (1 + (x + y)) = 20 * p + 20 * (p * x) + 20 * (p * y) := by
  rw [Int.mul_add, Int.mul_add, Int.mul_one, Int.mul_assoc, Int.mul_assoc]
  omega
mutual
theorem Sg.wt_le {xs ws rs : List Str} {W : Str → Int} {c : Int} (hW : ∀ r ∈ rs, 0 ≤ W r ∧ 11 + 2 * W r ≤ c) (hc : 11 ≤ c) : ∀ (s : Sg), s.ok xs ws rs → ∀ n : Nat, s.dp ≤ n → s.wt W ≤ pw c n * (s.tot : Int)
  | .ifs t a b, ho, n, hn => by
    unfold Sg.ok at ho
    have d2 : Sg.dp (.ifs t a b) = max a.dp b.dp + 1 := by unfold Sg.dp; rfl
    have t2 : Sg.tot (.ifs t a b) = 1 + (a.tot + b.tot) := by unfold Sg.tot; rfl
    have ew : Sg.wt W (.ifs t a b) = 1 + mx (a.wt W) (b.wt W) := by unfold Sg.wt; rfl
    cases n with
    | zero => omega
    | succ n =>
      have h1 := Bd.wt_le hW hc a ho.2.1.1 n (by omega)
      have h2 := Bd.wt_le hW hc b ho.2.2.1 n (by omega)
      have w1 := Bd.wt_nn (fun r hr => (hW r hr).1) a ho.2.1.1
      have w2 := Bd.wt_nn (fun r hr => (hW r hr).1) b ho.2.2.1
      have g := pw_ge (show 0 ≤ c by omega) n
      have e := mul_two (pw c n) 0 (a.tot : Int) (b.tot : Int)
      rw [ew, t2, show pw c (n + 1) = 20 * pw c n from rfl, show (((1 + (a.tot + b.tot) : Nat)) : Int) = 1 + ((a.tot : Int) + (b.tot : Int)) by omega, e]
      unfold mx
      split <;> omega
  | .fors e m a, ho, n, hn => by
    unfold Sg.ok at ho
    have d2 : Sg.dp (.fors e m a) = a.dp + 1 := by unfold Sg.dp; rfl
    have t2 : Sg.tot (.fors e m a) = 1 + a.tot := by unfold Sg.tot; rfl
    have ew : Sg.wt W (.fors e m a) = 1 + (m + 1) * (1 + a.wt W) := by unfold Sg.wt; rfl
    cases n with
    | zero => omega
    | succ n =>
      have h1 := Bd.wt_le hW hc a ho.2.2.1 n (by omega)
      have w1 := Bd.wt_nn (fun r hr => (hW r hr).1) a ho.2.2.1
      have g := pw_ge (show 0 ≤ c by omega) n
      have e := mul_two (pw c n) 0 (a.tot : Int) 0
      have hm : (m + 1) * (1 + a.wt W) ≤ 10 * (1 + a.wt W) := Int.mul_le_mul_of_nonneg_right (by omega) (by omega)
      rw [Int.add_zero, Int.mul_zero] at e
      rw [ew, t2, show pw c (n + 1) = 20 * pw c n from rfl, show (((1 + a.tot : Nat)) : Int) = 1 + (a.tot : Int) by omega, e]
      omega
  | .call x r e, ho, n, hn => by
    unfold Sg.ok at ho
    have t2 : Sg.tot (.call x r e) = 1 := by unfold Sg.tot; rfl
    have ew : Sg.wt W (.call x r e) = 8 + 2 * (1 + W r) := by unfold Sg.wt; rfl
    have h1 := (hW r ho.2.1).2
    have g := pw_ge (show 0 ≤ c by omega) n
    rw [ew, t2]
    omega
  | .set x e, ho, n, hn => by
    have t2 : Sg.tot (.set x e) = 1 := by unfold Sg.tot; rfl
    have ew : Sg.wt W (.set x e) = 1 := by unfold Sg.wt; rfl
    have g := pw_ge (show 0 ≤ c by omega) n
    rw [ew, t2]
    omega
  | .say x e, ho, n, hn => by
    have t2 : Sg.tot (.say x e) = 1 := by unfold Sg.tot; rfl
    have ew : Sg.wt W (.say x e) = 1 := by unfold Sg.wt; rfl
    have g := pw_ge (show 0 ≤ c by omega) n
    rw [ew, t2]
    omega
  | .hear x, ho, n, hn => by
    have t2 : Sg.tot (.hear x) = 1 := by unfold Sg.tot; rfl
    have ew : Sg.wt W (.hear x) = 1 := by unfold Sg.wt; rfl
    have g := pw_ge (show 0 ≤ c by omega) n
    rw [ew, t2]
    omega
theorem Bd.wt_le {xs ws rs : List Str} {W : Str → Int} {c : Int} (hW : ∀ r ∈ rs, 0 ≤ W r ∧ 11 + 2 * W r ≤ c) (hc : 11 ≤ c) : ∀ (b : Bd), b.ok xs ws rs → ∀ n : Nat, b.dp ≤ n → b.wt W ≤ pw c n * (b.tot : Int)
  | .nil, ho, n, hn => by
    have t2 : Bd.tot .nil = 0 := by unfold Bd.tot; rfl
    have ew : Bd.wt W .nil = 0 := by unfold Bd.wt; rfl
    rw [ew, t2]
    show 0 ≤ pw c n * 0
    omega
  | .cons s b, ho, n, hn => by
    unfold Bd.ok at ho
    have d2 : Bd.dp (.cons s b) = max s.dp b.dp := by rw [Bd.dp]
    have t2 : Bd.tot (.cons s b) = s.tot + b.tot := by rw [Bd.tot]
    have ew : Bd.wt W (.cons s b) = s.wt W + b.wt W := by rw [Bd.wt]
    have h1 := Sg.wt_le hW hc s ho.1 n (by omega)
    have h2 := Bd.wt_le hW hc b ho.2 n (by omega)
    rw [ew, t2, show (((s.tot + b.tot : Nat)) : Int) = (s.tot : Int) + (b.tot : Int) by omega, Int.mul_add]
    omega
end
def bnW : Nat → Int
  | 0 => 0
  | k + 1 => 4800000 * (11 + 2 * bnW k)
theorem bnW_nn : ∀ k, 0 ≤ bnW k
  | 0 => Int.le_refl _
  | k + 1 => by
    have := bnW_nn k
    unfold bnW
    omega
theorem bnW_mono : ∀ {j k : Nat}, j ≤ k → bnW j ≤ bnW k
  | j, 0, h => by
    have : j = 0 := by omega
    rw [this]
    exact Int.le_refl _
  | 0, k + 1, h => bnW_nn _
  | j + 1, k + 1, h => by
    have := bnW_mono (j := j) (k := k) (by omega)
    unfold bnW
    omega
theorem body_le {rs : List Rm} (ok : Right rs) {i : Nat} {r : Rm} (hi : rs[i]? = some r) {B : Int} (hB : 0 ≤ B) (h : ∀ y ∈ ben rs r.name, Wt rs y ≤ B) {b : Bd} {ws : List Str} (ho : b.ok r.bn ws (ben rs r.name)) (hd : b.dp ≤ 4) (ht : b.tot ≤ 30) : b.wt (Wt rs) ≤ 4800000 * (11 + 2 * B) := by
  have z := Bd.wt_le (W := Wt rs) (c := 11 + 2 * B) (fun y hy => ⟨wt_nn ok y, by have := h y hy; omega⟩) (by omega) b ho 4 hd
  have e : pw (11 + 2 * B) 4 = 160000 * (11 + 2 * B) := by
    show 20 * (20 * (20 * (20 * (11 + 2 * B)))) = _
    omega
  rw [e] at z
  have h3 : 160000 * (11 + 2 * B) * (b.tot : Int) ≤ 160000 * (11 + 2 * B) * 30 := Int.mul_le_mul_of_nonneg_left (by omega) (by omega)
  omega
theorem wt_hi {rs : List Rm} (ok : Right rs) : ∀ (k i : Nat) (r : Rm), rs[i]? = some r → 8 - i ≤ k → Wt rs r.name ≤ bnW k
  | 0, i, r, hi, h => by
    have := (List.getElem?_eq_some_iff.mp hi).1
    have := ok.hi
    omega
  | k + 1, i, r, hi, h => by
    obtain ⟨ws, b1, b2, b3, b4⟩ := body_of ok hi
    rw [wt_at ok hi]
    refine body_le ok hi (bnW_nn k) (fun y hy => ?_) b1 b3 b4
    obtain ⟨j, o, hj, ho, rfl⟩ := ben_behind ok hi hy
    exact wt_hi ok k j o ho (by omega)
def topW : Int := 4800000 * (11 + 2 * bnW 8) + 4
theorem topW_lt : topW < 2 ^ 300 := by decide +kernel
mutual
theorem Sg.allS_tot {z : Sg} : ∀ s : Sg, z ∈ s.allS → z.tot ≤ s.tot
  | .ifs t a b, h => by
    have t2 : Sg.tot (.ifs t a b) = 1 + (a.tot + b.tot) := by unfold Sg.tot; rfl
    unfold Sg.allS at h
    rcases List.mem_cons.mp h with h | h
    · rw [h]
      exact Nat.le_refl _
    rcases List.mem_append.mp h with h | h
    · have := Bd.allS_tot a h
      omega
    · have := Bd.allS_tot b h
      omega
  | .fors e m a, h => by
    have t2 : Sg.tot (.fors e m a) = 1 + a.tot := by unfold Sg.tot; rfl
    unfold Sg.allS at h
    rcases List.mem_cons.mp h with h | h
    · rw [h]
      exact Nat.le_refl _
    have := Bd.allS_tot a h
    omega
  | .call x r e, h => by unfold Sg.allS at h; rw [List.mem_singleton.mp h]; exact Nat.le_refl _
  | .set x e, h => by unfold Sg.allS at h; rw [List.mem_singleton.mp h]; exact Nat.le_refl _
  | .say x e, h => by unfold Sg.allS at h; rw [List.mem_singleton.mp h]; exact Nat.le_refl _
  | .hear x, h => by unfold Sg.allS at h; rw [List.mem_singleton.mp h]; exact Nat.le_refl _
theorem Bd.allS_tot {z : Sg} : ∀ b : Bd, z ∈ b.allS → z.tot ≤ b.tot
  | .nil, h => by unfold Bd.allS at h; cases h
  | .cons s b, h => by
    have t2 : Bd.tot (.cons s b) = s.tot + b.tot := by rw [Bd.tot]
    unfold Bd.allS at h
    rcases List.mem_append.mp h with h | h
    · have := Sg.allS_tot s h
      omega
    · have := Bd.allS_tot b h
      omega
end
theorem ringV_nn {T : List Int} (hT : ∀ x ∈ T, 1 ≤ x) : ∀ R : List (Int × Int), (∀ q ∈ R, 1 ≤ q.2) → 0 ≤ ringV T R
  | [], _ => Int.le_refl _
  | q :: R, h => by
    have ih := ringV_nn hT R fun x hx => h x (List.mem_cons_of_mem _ hx)
    have h1 := h q (List.mem_cons_self ..)
    have h2 : 0 ≤ T[q.1.toNat]?.getD 0 := by
      cases e : T[q.1.toNat]? with
      | none => exact Int.le_refl _
      | some x =>
        have := hT x (List.mem_of_getElem? e)
        show 0 ≤ x
        omega
    have h3 : 0 ≤ q.2 * (T[q.1.toNat]?.getD 0) := Int.mul_nonneg (by omega) h2
    unfold ringV at ih ⊢
    rw [List.map_cons, List.sum_cons]
    omega
/-- all numbers of a measure are small enough to be written -/
theorem room_small {rs : List Rm} (ok : Right rs) {i : Nat} {r : Rm} (hi : rs[i]? = some r) : (∀ n ∈ r.numsR (Wt rs), n ≤ topW) ∧ (∀ n ∈ r.body.turns (Wt rs), n ≤ topW) := by
  obtain ⟨ws, b1, b2, b3, b4⟩ := body_of ok hi
  obtain ⟨n1, n2, n3, n4⟩ := room_nums ok hi
  have hW : ∀ y ∈ ben rs r.name, 0 ≤ Wt rs y := fun y _ => wt_nn ok y
  have hB : ∀ y ∈ ben rs r.name, Wt rs y ≤ bnW 8 := fun y hy => by
    obtain ⟨j, o, hj, ho, rfl⟩ := ben_behind ok hi hy
    exact wt_hi ok 8 j o ho (by omega)
  have hb := body_le ok hi (bnW_nn 8) hB b1 b3 b4
  constructor
  · intro n hn
    obtain ⟨t, ht⟩ := List.getElem?_of_mem hn
    obtain ⟨R, _, _, h1, _, h2⟩ := room_ring hW b1 ht
    have h3 := ringV_nn n2 R fun q hq => (h2 q hq).1
    have hh := home_kB (W := Wt rs) r
    have : r.kB ≤ 3 := by unfold Rm.kB; split <;> decide
    unfold topW
    omega
  · intro n hn
    rw [Bd.turns_all] at hn
    obtain ⟨s, hs, he⟩ := List.mem_filterMap.mp hn
    obtain ⟨ok2, d2⟩ := Bd.allS_ok r.body b1 hs
    have t2 := Bd.allS_tot r.body hs
    cases s with
    | fors e m a =>
      unfold Sg.ok at ok2
      have dd : Sg.dp (.fors e m a) = a.dp + 1 := by unfold Sg.dp; rfl
      have tt : Sg.tot (.fors e m a) = 1 + a.tot := by unfold Sg.tot; rfl
      have he : some (1 + a.wt (Wt rs)) = some n := he
      have := Option.some.inj he
      have z := body_le ok hi (bnW_nn 8) hB ok2.2.2.1 (by omega) (by omega)
      unfold topW
      omega
    | ifs t a b => cases he
    | call x r e => cases he
    | set x e => cases he
    | say x e => cases he
    | hear x => cases he
/-! ### the text of a measure -/
theorem ints_all {Ns : List Int} (h0 : ∀ n ∈ Ns, 0 ≤ n) (h1 : ∀ n ∈ Ns, n ≤ topW) : PyData.leavesShortAll 1921 (Ns.map PyData.int) = true ∧ PyData.showableAll (Ns.map PyData.int) = true ∧ PyData.bulkAll (Ns.map PyData.int) = Ns.length ∧ PyData.depthAll (Ns.map PyData.int) = 0 ∧ PyData.hasDictAll (Ns.map PyData.int) = false := by
  induction Ns with
  | nil => exact ⟨rfl, rfl, rfl, rfl, rfl⟩
  | cons n Ns ih =>
    obtain ⟨i1, i2, i3, i4, i5⟩ := ih (fun x hx => h0 x (List.mem_cons_of_mem _ hx)) (fun x hx => h1 x (List.mem_cons_of_mem _ hx))
    have g0 := h0 n (List.mem_cons_self ..)
    have g1 := h1 n (List.mem_cons_self ..)
    have g2 := topW_lt
    have lg : n.natAbs.log2 < 1920 := by
      by_cases z : n.natAbs = 0
      · rw [z]; decide
      · have := (Nat.log2_lt z).mpr (show n.natAbs < 2 ^ 300 by omega)
        omega
    refine ⟨?_, ?_, ?_, ?_, ?_⟩
    · show (PyData.leavesShort 1921 (.int n) && _) = true
      rw [i1, show PyData.leavesShort 1921 (.int n) = true from decide_eq_true (int_text_len_1921 lg)]
      rfl
    · show (PyData.showable (.int n) && _) = true
      rw [i2, show PyData.showable (.int n) = true from decide_eq_true lg]
      rfl
    · show PyData.bulk (.int n) + 1 + PyData.bulkAll (Ns.map PyData.int) = Ns.length + 1
      rw [i3]
      show 0 + 1 + Ns.length = _
      omega
    · show max (PyData.depth (.int n)) (PyData.depthAll (Ns.map PyData.int)) = 0
      rw [i4]
      rfl
    · show (PyData.hasDict (.int n) || PyData.hasDictAll (Ns.map PyData.int)) = false
      rw [i5]
      rfl
theorem dp_ints {K : PySem.W.Frag} {H : Hp} : ∀ Ns : List Int, DpAll K H (Ns.map V.int) (Ns.map PyData.int)
  | [] => .nil
  | n :: r => .cons (.int n) (dp_ints r)
theorem me_shows {K : PySem.W.Frag} {rs : List Rm} (ok : Right rs) {i : Nat} {r : Rm} (hi : rs[i]? = some r) : ∃ d : PyData, d.showable = true ∧ d.depth ≤ 60 ∧ d.shown.length ≤ sizeLine ∧ ∀ H p, MeAt H p (r.numsR (Wt rs)) (r.body.turns (Wt rs)) → Shows K H p d := by
  obtain ⟨n1, n2, n3, n4⟩ := room_nums ok hi
  obtain ⟨m1, m2⟩ := room_small ok hi
  obtain ⟨a1, a2, a3, a4, a5⟩ := ints_all n1 m1
  obtain ⟨b1, b2, b3, b4, b5⟩ := ints_all (fun n hn => Int.le_trans (by decide) (n2 n hn)) m2
  have sh : PyData.leavesShort 1921 (.tuple [.tuple ((r.numsR (Wt rs)).map PyData.int), .tuple ((r.body.turns (Wt rs)).map PyData.int)]) = true := by
    show (PyData.leavesShortAll 1921 _ && (PyData.leavesShortAll 1921 _ && true)) = true
    rw [a1, b1]
    rfl
  refine ⟨.tuple [.tuple ((r.numsR (Wt rs)).map PyData.int), .tuple ((r.body.turns (Wt rs)).map PyData.int)], ?_, ?_, ?_, fun H p h => ?_⟩
  · show (PyData.showableAll _ && (PyData.showableAll _ && true)) = true
    rw [a2, b2]
    rfl
  · show max (PyData.depthAll _ + 1) (max (PyData.depthAll _ + 1) 0) + 1 ≤ 60
    rw [a4, b4]
    decide
  · have z := PyData.shown_le_bulk 1921 (by decide) _ sh
    have eb : PyData.bulk (.tuple [.tuple ((r.numsR (Wt rs)).map PyData.int), .tuple ((r.body.turns (Wt rs)).map PyData.int)]) = (r.numsR (Wt rs)).length + 1 + ((r.body.turns (Wt rs)).length + 1 + 0) := by
      show PyData.bulkAll _ + 1 + (PyData.bulkAll _ + 1 + 0) = _
      rw [a3, b3]
    rw [eb] at z
    rw [sizeLine_eq]
    omega
  · obtain ⟨q1, q2, h1, h2, h3⟩ := h
    refine .seq (.tup (SqT.of h1) (.cons (.tup (SqT.of h2) (dp_ints _)) (.cons (.tup (SqT.of h3) (dp_ints _)) .nil))) ?_
    show (PyData.hasDictAll _ || (PyData.hasDictAll _ || false)) = false
    rw [a5, b5]
    rfl
end Any
set_option pp.maxSteps 600
set_option maxHeartbeats 4000000
namespace Any
open L2 PySem PySem.Spec PyProof.Rows LamX NdefX
/-! ### the law -/
def forB : Stmt → List Stmt
  | .For _ _ b _ _ => b
  | _ => []
def stA (l : List Stmt) (i : Nat) : Stmt := l.getD i (.Pass ⟨0, 0, 0, 0⟩)
abbrev sLaw : Stmt := top 105
abbrev nmLaw : List Str := ["_law_script", "_law_at", "_law_bag_here", "_law_turn", "_law_tree", "_law_one", "_law_paper"]
theorem scLaw : FnScope nmLaw ["_law_script"] (defScope sLaw) := ⟨rfl, rfl, rfl, by decide +kernel, rfl, by decide +kernel, by decide +kernel⟩
abbrev turnB : List Stmt := forB (stA (forB (stA (defBody sLaw) 0)) 1)
def DfK (P : Program) (w : World) (K : PySem.W.Frag) (mg : Str → Option Value) (base : Heap) (k : Nat) (x : Str) (n : Nat) (ps ks : List Str) (gV : List V → List V → List V) (sp : Sp) : Prop :=
  ∃ f fd g, mg x = some (.ref f) ∧ PySem.W.keepIn K (.ref f) = true ∧ FnOk P w K mg base CX0 k f fd ps sp ∧ KBn K fd ps n ks g gV
section
variable {X : Cx} {k n : Nat} {x m : Str} {C : Addr} {ps ks : List Str} {sp : Sp} {p pos : Pos} {e : Expr} {es : List Expr} {t tk : TA} {kws : List Keyword} {gV : List V → List V → List V}
theorem pe_DK0 (D : DfK X.prog X.w X.K X.mg X.base k x 0 ps ks gV sp) (hr : Room k X.A) (hg : Gl X x) (hkw : PK X kws tk) (hall : (backToKw pos (keywordEach kws X.env)).all (·.1.isSome) = true := by rfl)
    (hks : (backToKw pos (keywordEach kws X.env)).filterMap (·.1) = ks := by rfl) (h1 : (x == ("__debug__" : Str)) = false := by decide)
    (h3 : ((backTo pos (starEach [] X.env)).any (·.1) || (backToKw pos (keywordEach kws X.env)).any (·.1.isNone)) = false := by rfl) :
    PE X (.Call (.Name x p) [] kws pos) (fun σ H Q => tk σ H fun zs H1 => zs.length = ks.length ∧ sp (gV [] zs) H1 Q E0) := by
  obtain ⟨f, fd, g, hm, hk, F, hb⟩ := D
  exact pe_callK0 F hr hg hm hk hb pass0 hkw hall hks h1 h3
end
/-- what the law asks -/
structure Fns (P : Program) (w : World) (K : PySem.W.Frag) (mg : Str → Option Value) (base : Heap) (T_ : List NTab) (C D : Addr) : Prop where
  O : Own mg
  mr : mg "range" = none
  mre : mg "repr" = none
  RC : RoomC K C
  TP : HeldC K D
  rms : Mf P w K mg base D 1 "rooms" ["self"] (spRms D)
  bag : Df P w K mg base 1 "_law_bag" ["_law_script", "_law_at"] (spBag K)
  prog : Df P w K mg base 32 "_law_program" psPg (spProg T_ C D)
  me : Df P w K mg base 23 "measure" ["program", "name"] (spMe C D)
  mek : DfK P w K mg base 23 "measure" 0 ["program", "name"] ["name", "program"] (fun vs zs => vs ++ zs.reverse) (spMe C D)
  im : Df P w K mg base 48 "_law_is_measure" psIM (spIM C D)
  mh : Df P w K mg base 17 "measure_holds" psMH (spMH C D)
  ml : Df P w K mg base 17 "measure_holds" psMH (spML C D)
def spLaw (K : PySem.W.Frag) (T_ : List NTab) : Sp := fun vs H Q _ => ∃ (a : Addr) (ns : List Int), vs = [.ref a] ∧ SqL K H a (ns.map V.int) ∧ ns.length ≤ 63 ∧ TabsN T_ H ∧ ∀ H', Q (.bl true) H'
section
variable {P : Program} {w : World} {K : PySem.W.Frag} {mg : Str → Option Value} {base : Heap} {T_ : List NTab} {f C D_ : Addr} {cdv : Value} {fd : FuncData}
/-- a program is asked -/
theorem law_asks (N : Fns P w K mg base T_ C D_) (A : Around) (outer : List Env) (s : Shared) (H0 : Hp) (E : XK) (hG : A.guards = some []) (hr : Room 60 (A.deeper (envOfC "law" (defScope sLaw) s.heap.objs.size f cdv))) :
    ∃ t, PSs (cxOf CX0 P w K mg base nmLaw "law" (defScope sLaw) f cdv A outer s H0 E).nox (turnB.drop 1) t ∧
      ∀ (D : Ends) (H : Hp) (x : Addr) (rs : List Rm) (z0 z1 z2 z3 z5 z6 : Option V), PgOk C D_ H x rs → Right rs →
        (∀ H' z5 z6, Same H H' → D.nx [z0, z1, z2, z3, some (.ref x), z5, z6] H') → t D [z0, z1, z2, z3, some (.ref x), z5, z6] H := by
  have hG' : (A.deeper (envOfC "law" (defScope sLaw) s.heap.objs.size f cdv)).guards = some [] := hG
  have hu : (A.deeper (envOfC "law" (defScope sLaw) s.heap.objs.size f cdv)).units + 70 < cLine := by have := hr.un; omega
  have hr1 := hr.mono (show 1 ≤ 60 by decide)
  have hr17 := hr.mono (show 17 ≤ 60 by decide)
  have hr23 := hr.mono (show 23 ≤ 60 by decide)
  have hr48 := hr.mono (show 48 ≤ 60 by decide)
  have hs : sizeLine = 16777216 := sizeLine_eq
  have TP := N.TP
  have RC := N.RC
  refine ⟨_, pss_one (ps_for PassesOwn.never rfl (pi_tup (pe_Mz N.rms TP.cl (pv 4) hr1)) (pg_name (i := 5) scLaw.nd rfl (Or.inl rfl))
      (pss_cons (ps_set (i := 6) scLaw.nd rfl (Or.inl rfl) (pe_D N.me hr23 rfl (pa_cons (pv 4) (pa_cons (pe_fld (pv 5) rfl) pa_nil))))
      (pss_cons (ps_if (PW.pt (pw_or (pt_not (pt_val (pe_D N.im hr48 rfl (pa_cons (pv 4) (pa_cons (pv 5) (pa_cons (pv 6) pa_nil))))))
          (pw_or1 (pt_cmpR op_notBl (pe_D N.mh hr17 rfl (pa_cons (pv 4) (pa_cons (pe_fld (pv 5) rfl) (pa_cons (pv 6) pa_nil)))) pe_bl (nomark _))))) (pss_one (ps_ret pe_bl)) pss_nil)
      (pss_cons (ps_if (pt_cmpR op_notBl (pe_D N.ml hr17 rfl (pa_cons (pv 4) (pa_cons (pe_fld (pv 5) rfl) (pa_cons (pe_callTy call_list_of rfl N.O.list (by decide +kernel) (pa_cons (pv 6) pa_nil)) pa_nil)))) pe_bl (nomark _)) (pss_one (ps_ret pe_bl)) pss_nil)
      (pss_one (ps_if (pt_cmpR op_ne (pe_callB (call_repr hG' hu) rfl N.mre (by decide +kernel) (pa_cons (pe_DK0 N.mek hr23 rfl (pk_cons (pe_fld (pv 5) rfl) (pk_cons (pv 4) pk_nil))) pa_nil))
          (pe_callB (call_repr hG' hu) rfl N.mre (by decide +kernel) (pa_cons (pv 6) pa_nil)) (nomark _)) (pss_one (ps_ret pe_bl)) pss_nil)))))), ?_⟩
  intro D H x rs z0 z1 z2 z3 z5 z6 hpg ok q
  obtain ⟨R, ⟨dx, vv, hx⟩, as, hR, hp⟩ := id hpg
  refine ⟨_, rfl, x, dx, _, rfl, hx, pf_none (by decide +kernel) (by decide +kernel), x, R, rfl, ⟨dx, vv, hx⟩, R, rfl, ⟨_, SqT.of hR⟩, ?_⟩
  refine for_tup (K := K) (a := R) (xs := as.map V.ref) (fun i σ Hc => ∃ z5 z6 : Option V, σ = [z0, z1, z2, z3, some (.ref x), z5, z6] ∧ Same H Hc) ⟨_, _, rfl, .refl _⟩ ?_ ?_ ?_
  · rintro i σ Hc _ ⟨z5, z6, rfl, sm⟩
    exact SqT.of (sm _ _ hR)
  · rintro i v σ Hc hv ⟨z5, z6, rfl, sm⟩
    obtain ⟨e, he, rfl⟩ := refs_at hv
    obtain ⟨r, hir, hat⟩ := paired_get hp he
    obtain ⟨dy, n', a', b', s', k', t', p', y', g1, g2⟩ := id hat
    have hnm := g2.name
    subst hnm
    obtain ⟨dd, sh1, sh2, sh3, shw⟩ := me_shows (K := K) ok hir
    refine ⟨_, rfl, _, rfl, e, C, dy, _, _, rfl, sm _ _ g1, RC.cl, RC.n1, rf_name, x, rs, i, r, rfl, hpg.keep sm, ok, hir, fun p H1 s1 hm => ?_⟩
    have t1 := sm.trans s1
    refine ⟨_, rfl, _, rfl, _, rfl, x, e, p, rs, i, r, rfl, hpg.keep t1, ok, hir, hat.keep t1, hm, fun H2 s2 => ?_⟩
    have t2 := t1.trans s2
    have hm2 := hm.keep (Same.tups s2)
    refine ⟨_, rfl, itF rfl ?_⟩
    refine ⟨_, rfl, _, rfl, e, C, dy, _, _, rfl, t2 _ _ g1, RC.cl, RC.n1, rf_name, _, rfl, x, p, rs, i, r, rfl, hpg.keep t2, ok, hir, hm2, fun H3 s3 => ?_⟩
    refine ⟨_, _, rfl, rfl, _, rfl, itF rfl ?_⟩
    have t3 := t2.trans s3
    have hm3 := hm2.keep (Same.tups s3)
    obtain ⟨q1, q2, hp3, h4, h5⟩ := id hm3
    refine ⟨_, rfl, _, rfl, e, C, dy, _, _, rfl, t3 _ _ g1, RC.cl, RC.n1, rf_name, _, rfl, p, _, rfl, .inr (SqT.of hp3), fun l nl => ?_⟩
    have s4 := same_new nl (.lst [.ref q1, .ref q2])
    have t4 := t3.trans s4
    refine ⟨x, l, rs, i, r, _, rfl, hpg.keep t4, ok, hir, upd_same, fun H5 s5 => ?_⟩
    refine ⟨_, _, rfl, rfl, _, rfl, itF rfl ?_⟩
    have t5 := t4.trans s5
    have hm5 := (hm3.keep (Same.tups s4)).keep (Same.tups s5)
    refine ⟨_, rfl, e, C, dy, _, _, rfl, t5 _ _ g1, RC.cl, RC.n1, rf_name, _, rfl, rfl, x, rs, i, r, rfl, hpg.keep t5, ok, hir, fun p6 H6 s6 hm6 => ?_⟩
    refine ⟨p6, dd, rfl, shw _ _ hm6, sh1, sh2, sh3, ?_⟩
    refine ⟨_, rfl, p, dd, rfl, shw _ _ (hm5.keep (Same.tups s6)), sh1, sh2, sh3, ?_⟩
    refine ⟨rfl, _, rfl, itF (by rw [decide_eq_true rfl]; rfl) ⟨_, _, rfl, t5.trans s6⟩⟩
  · rintro σ Hc ⟨z5, z6, rfl, sm⟩
    exact q Hc _ _ sm
theorem law_turn (N : Fns P w K mg base T_ C D_) (A : Around) (outer : List Env) (s : Shared) (H0 : Hp) (E : XK) (hG : A.guards = some []) (hr : Room 60 (A.deeper (envOfC "law" (defScope sLaw) s.heap.objs.size f cdv))) :
    ∃ t, PSs (cxOf CX0 P w K mg base nmLaw "law" (defScope sLaw) f cdv A outer s H0 E).nox turnB t ∧
      ∀ (D : Ends) (H : Hp) (b : Addr) (i k : Nat) (z0 z1 z4 z5 z6 : Option V), i < 2 → Bag H b (k + pc 3) → TabsN T_ H →
        (∀ H' z4 z5 z6, Kg T_ b H H' → Bag H' b k → D.nx [z0, z1, some (.ref b), some (.int (0 + (i : Int))), z4, z5, z6] H') → t D [z0, z1, some (.ref b), some (.int (0 + (i : Int))), z4, z5, z6] H := by
  obtain ⟨t1, ht1, asks⟩ := law_asks (f := f) (cdv := cdv) N A outer s H0 E hG hr
  have hr32 := hr.mono (show 32 ≤ 60 by decide)
  have hs : sizeLine = 16777216 := sizeLine_eq
  refine ⟨_, pss_cons (ps_set (i := 4) scLaw.nd rfl (Or.inl rfl) (pe_D N.prog hr32 rfl (pa_cons (pv 2) (pa_cons pe_int (pa_cons (pe_ix ix_list (pe_lst (pa_cons (pe_tup (pa_cons pe_int (pa_cons pe_int (pa_cons pe_int (pa_cons pe_int pa_nil))))) (pa_cons (pe_tup (pa_cons pe_int (pa_cons pe_int (pa_cons pe_int (pa_cons pe_int pa_nil))))) pa_nil))) (pv 3) (fun _ _ => rfl)) pa_nil))))) ht1, ?_⟩
  intro D H b i k z0 z1 z4 z5 z6 hi hB hT q
  have p23 : pc 2 ≤ pc 3 := by decide +kernel
  refine ⟨_, rfl, (by show 4 ≤ sizeLine; omega), fun p1 n1 => ⟨(by show 4 ≤ sizeLine; omega), fun p2 n2 => ⟨(by show 2 ≤ sizeLine; omega), fun p3 n3 => ?_⟩⟩⟩
  have s1 := same_new n1 (.tup [.int 9, .int 4, .int 10, .int 3])
  have s2 := same_new n2 (.tup [.int 3, .int 7, .int 10, .int 2])
  have s3 := same_new n3 (.lst [.ref p1, .ref p2])
  have g1 := s3 _ _ (s2 _ _ (@upd_same H p1 (.tup [.int 9, .int 4, .int 10, .int 3])))
  have g2 := s3 _ _ (@upd_same (upd H p1 (.tup [.int 9, .int 4, .int 10, .int 3])) p2 (.tup [.int 3, .int 7, .int 10, .int 2]))
  have g3 := @upd_same (upd (upd H p1 (.tup [.int 9, .int 4, .int 10, .int 3])) p2 (.tup [.int 3, .int 7, .int 10, .int 2])) p3 (.lst [.ref p1, .ref p2])
  have sA := s1.trans (s2.trans s3)
  generalize upd (upd (upd H p1 (.tup [.int 9, .int 4, .int 10, .int 3])) p2 (.tup [.int 3, .int 7, .int 10, .int 2])) p3 (.lst [.ref p1, .ref p2]) = H3 at *
  have B3 := hB.keep sA
  have kg3 : Kg T_ b H H3 := (Kg.refl hT).same sA
  have : i = 0 ∨ i = 1 := by omega
  rcases this with rfl | rfl
  · refine ⟨_, rfl, p3, _, _, _, rfl, rfl, SqL.of g3, atI_nat (j := 0) rfl, b, p1, 8, k, 3, 10, 9, 4, rfl, by decide, by decide, B3.less (by omega), g1, by decide, ⟨by decide, by decide⟩, ⟨by decide, by decide⟩, by decide, kg3.tabs, fun x rs H4 _ k4 B4 hpg ok => ?_⟩
    exact asks D H4 x rs z0 z1 _ _ z5 z6 hpg ok (fun H' z5 z6 sm => q H' _ _ _ (kg3.trans (k4.same sm)) (B4.keep sm))
  · refine ⟨_, rfl, p3, _, _, _, rfl, rfl, SqL.of g3, atI_nat (j := 1) rfl, b, p2, 8, k, 2, 10, 3, 7, rfl, by decide, by decide, B3.less (by omega), g2, by decide, ⟨by decide, by decide⟩, ⟨by decide, by decide⟩, by decide, kg3.tabs, fun x rs H4 _ k4 B4 hpg ok => ?_⟩
    exact asks D H4 x rs z0 z1 _ _ z5 z6 hpg ok (fun H' z5 z6 sm => q H' _ _ _ (kg3.trans (k4.same sm)) (B4.keep sm))
theorem ok_law (N : Fns P w K mg base T_ C D_) (mmax : mg "max" = none) (mmin : mg "min" = none) (F : Fun K "law" "law" sLaw f fd) : FnG P w K mg base CX0 61 f fd ["_law_script"] (spLaw K T_) := by
  refine fun_g F scLaw (fun vs H Q E h => ?_) (fun cdv A outer s H vs Q E hG hr h => ?_)
  · obtain ⟨a, ns, rfl, _⟩ := h
    rfl
  obtain ⟨a, ns, rfl, hS, h63, hT, q⟩ := h
  obtain ⟨tT, htT, turn⟩ := law_turn (f := f) (cdv := cdv) N A outer s H E hG hr
  have hr1 := hr.mono (show 1 ≤ 60 by decide)
  have pb : 2 * pc 3 ≤ 1000000000 := by decide +kernel
  refine ⟨_, pss_cons (ps_for PassesOwn.never rfl (pi_range1 rfl N.mr (pa_cons (pe_callB (call_max2 rfl) rfl mmax (by decide +kernel) (pa_cons pe_int (pa_cons (pe_callB (call_min2 rfl) rfl mmin (by decide +kernel) (pa_cons pe_int (pa_cons (pe_callB call_len_seq rfl N.O.len PySem.boot_len (pa_cons (pv 0) pa_nil)) pa_nil))) pa_nil))) pa_nil)) (pg_name (i := 1) scLaw.nd rfl (Or.inl rfl))
      (pss_cons (ps_set (i := 2) scLaw.nd rfl (Or.inl rfl) (pe_D N.bag hr1 rfl (pa_cons (pv 0) (pa_cons (pv 1) pa_nil))))
      (pss_one (ps_for PassesOwn.never rfl (pi_range1 rfl N.mr (pa_cons pe_int pa_nil)) (pg_name (i := 3) scLaw.nd rfl (Or.inl rfl)) htT)))) (pss_one (ps_ret pe_bl)), ?_⟩
  refine ⟨_, rfl, a, _, rfl, .inl hS, _, _, rfl, _, _, rfl, _, rfl, ?_, ?_, ?_⟩
  · split <;> (try split) <;> omega
  · rw [List.length_map]
    split <;> (try split) <;> omega
  refine for_range (lo := 0) (fun i σ Hc => ∃ z1 z2 z3 z4 z5 z6 : Option V, σ = [some (.ref a), z1, z2, z3, z4, z5, z6] ∧ Gr T_ H Hc) ⟨_, _, _, _, _, _, rfl, .refl hT⟩ ?_ (fun σ H' _ => q H')
  rintro i σ Hc hi ⟨z1, z2, z3, z4, z5, z6, rfl, g⟩
  have hi4 : i < 4 := by
    rw [List.length_map] at hi
    split at hi <;> (try split at hi) <;> omega
  refine ⟨_, rfl, _, rfl, a, ns, _, rfl, g.seq hS, by omega, by omega, fun b H1 nb s1 B1 => ?_⟩
  have g1 := g.same s1
  have nb0 : H b = none := g.no b nb
  refine ⟨2, rfl, by decide, by decide, ?_⟩
  refine for_range (lo := 0) (fun j σ Hd => ∃ y3 y4 y5 y6 : Option V, σ = [some (.ref a), some (.int (0 + (i : Int))), some (.ref b), y3, y4, y5, y6] ∧ Kg T_ b H1 Hd ∧ Bag Hd b ((2 - j) * pc 3)) ⟨_, _, _, _, rfl, .refl g1.tabs, B1.less (by omega)⟩ ?_ ?_
  · rintro j σ Hd hj ⟨y3, y4, y5, y6, rfl, kg, Bd⟩
    have hj : j < 2 := hj
    obtain ⟨e, he⟩ : ∃ e, 2 - j = e + 1 := ⟨1 - j, by omega⟩
    have he2 : 2 - (j + 1) = e := by omega
    rw [he, Nat.succ_mul] at Bd
    refine turn _ Hd b j (e * pc 3) _ _ y4 y5 y6 hj Bd kg.tabs (fun H' z4 z5 z6 kg' Bk => ⟨_, _, _, _, rfl, kg.trans kg', ?_⟩)
    rw [he2]
    exact Bk
  · rintro σ Hd ⟨y3, y4, y5, y6, rfl, kg, Bd⟩
    exact ⟨_, _, _, _, _, _, rfl, gr_kg g1 nb0 kg⟩
end
end Any
set_option pp.maxSteps 600
set_option maxHeartbeats 4000000
namespace Any
open L2 PySem PySem.Spec PyProof.Rows LamX NdefX
/-! ### how what the law calls with keywords binds -/
abbrev kwsRm (e1 e2 e3 : Addr) : List (Str × V) := [("above", .str ""), ("boxes", .ref e1), ("sayings", .ref e2), ("ask", .non), ("told", .non), ("promise", .non), ("body", .ref e3)]
section
variable {P : Program} {w : World} {K : PySem.W.Frag} {mg : Str → Option Value} {base : Heap} {f C e1 e2 e3 : Addr} {fd : FuncData}
theorem kb_r7 {kws : List (Str × V)} (F : FunD K "__init__" "Room.__init__" (defArgs sRInit) (defBody sRInit) (defScope sRInit) [] kws f fd) : KBn K fd psRI 2 ks7 (fun us ws => us ++ ws) (fun us ws => us ++ ws) := by
  obtain ⟨oc, od, dV, kV, doc, pm, an, cdv, ct, osl, rfl, lk, hcd, hD, hK⟩ := F.ex
  have hd : dV = .none := hD.elim (fun z => z.2) (fun z => absurd rfl z.1)
  subst hd
  refine ⟨fun s us ws _ l1 l2 => ?_, fun r1 r2 => r1.append r2⟩
  match us, ws, l1, l2 with
  | [u1, u2], [w1, w2, w3, w4, w5, w6, w7], _, _ => exact .of_eq (by first | kernel_rfl | rfl)
theorem kb_r3 (F : FunD K "__init__" "Room.__init__" (defArgs sRInit) (defBody sRInit) (defScope sRInit) [] (kwsRm e1 e2 e3) f fd) : ∃ g : List Value → List Value → List Value, KBn K fd psRI 2 ks3 g (fun vs zs => vs ++ [.str ""] ++ zs.take 2 ++ [.non, .non, .non] ++ zs.drop 2) := by
  obtain ⟨mv, h⟩ := F.kbinds0 (ps := psRI) 2 ks3 [("above", .str ""), ("ask", .non), ("told", .non), ("promise", .non)] (fun us mv ws => us ++ mv.take 1 ++ ws.take 2 ++ mv.drop 1 ++ ws.drop 2) (by simp) (by simp)
    (fun r1 r2 r3 => (((r1.append (r2.take 1)).append (r3.take 2)).append (r2.drop 1)).append (r3.drop 2)) fun D doc pm an cdv ct us mv ws l1 l2 l3 => by
    match us, mv, ws, l1, l2, l3 with
    | [u1, u2], [m1, m2, m3, m4], [w1, w2, w3], _, _, _ => exact ⟨_, _, _, _, _, _, rfl, rfl, _, _, _, _, _, _, rfl, rfl, _, _, _, _, _, _, rfl, rfl, _, _, _, _, _, _, rfl, rfl, rfl⟩
  exact ⟨_, h⟩
theorem kb_me (F : Fun K "measure" "measure" sMe f fd) : KBn K fd ["program", "name"] 0 ["name", "program"] (fun us ws => us ++ ws.reverse) (fun us ws => us ++ ws.reverse) := by
  obtain ⟨oc, od, kV, doc, pm, an, cdv, ct, osl, rfl, lk, hcd⟩ := F.ex
  refine ⟨fun s us ws _ l1 l2 => ?_, fun r1 r2 => r1.append r2.reverse⟩
  match us, ws, l1, l2 with
  | [], [w1, w2], _, _ => exact .of_eq rfl
/-- the room by its keywords -/
theorem room_m (T : RoomC K C) (mR : mg "Room" = some (.ref C)) (M : Mk K C f) (F : FunD K "__init__" "Room.__init__" (defArgs sRInit) (defBody sRInit) (defScope sRInit) [] (kwsRm e1 e2 e3) f fd) : RoomM P w K mg base C := by
  obtain ⟨g, h3⟩ := kb_r3 F
  exact ⟨⟨f, fd, _, mR, M, ok_rinit T F, kb_r7 F⟩, ⟨f, fd, g, mR, M, ok_rinit T F, h3⟩⟩
end
theorem kit_self {K : PySem.W.Frag} {D : Addr} : PySem.W.kitOne K (.ref D) (.ref D) = some true := by
  unfold PySem.W.kitOne
  rw [if_pos (by simp)]
end Any
namespace Any
open L2 PySem PySem.Spec PyProof.Rows LamX NdefX

set_option maxHeartbeats 0 in
theorem all_mk {l : PySem.W.OpenLaw} {w : World} {K : PySem.W.Frag} {h : Heap} {mg : Str → Option Value} {fa D : Addr} (X : K.In h) (G : h.Ns mainGlobals mg) (hfa : mg "law" = some (.ref fa))
    {f1 f2 f3 f4 f5 f6 f7 f8 f9 f10 f11 f12 f13 f14 f15 f16 f17 f18 f19 f20 f21 f22 f23 f24 f25 f26 f27 f28 f29 f30 f31 f32 f33 f34 f35 f36 f37 f38 f39 f40 f41 f42 f43 f44 f45 f46 f47 f48 f49 f50 f51 f52 f53 f54 f55 f56 f57 f58 f59 f60 f61 f62 f63 f64 f65 f66 f67 f68 f69 f70 f71 f72 f73 f74 f75 f76 f77 f78 D6 D45 c7 P7 c8 P8 c9 P9 : Addr} {od1 an1 od2 an2 od3 an3 od4 an4 od5 an5 od6 an6 od7 an7 od8 an8 od9 an9 od10 an10 od11 an11 od12 an12 od13 an13 od14 an14 od15 an15 od16 an16 od17 an17 od18 an18 od19 an19 od20 an20 od21 an21 od22 an22 od23 an23 od24 an24 od25 an25 od26 an26 od27 an27 od28 an28 od29 an29 od30 an30 od31 an31 od32 an32 od33 an33 od34 an34 od35 an35 od36 an36 od37 an37 od38 an38 od39 an39 od40 an40 od41 an41 od42 an42 od43 an43 od44 an44 od45 an45 od46 an46 od47 an47 od48 an48 od49 an49 od50 an50 od51 an51 od52 an52 od53 an53 od54 an54 od55 an55 od56 an56 od57 an57 od58 an58 od59 an59 od60 an60 od61 an61 od62 an62 od63 an63 od64 an64 od65 an65 od66 an66 od67 an67 od68 an68 od69 an69 od70 an70 od71 an71 od72 an72 od73 an73 od74 an74 od75 an75 od76 an76 od77 an77 od78 an78 cod7 cod8 cod9 : Option Addr} {sl1 sl2 sl3 sl4 sl5 sl6 sl7 sl8 sl9 sl10 sl11 sl12 sl13 sl14 sl15 sl16 sl17 sl18 sl19 sl20 sl21 sl22 sl23 sl24 sl25 sl26 sl27 sl28 sl29 sl30 sl31 sl32 sl33 sl34 sl35 sl36 sl37 sl38 sl39 sl40 sl41 sl42 sl43 sl44 sl45 sl46 sl47 sl48 sl49 sl50 sl51 sl52 sl53 sl54 sl55 sl56 sl57 sl58 sl59 sl60 sl61 sl62 sl63 sl64 sl65 sl66 sl67 sl68 sl69 sl70 sl71 sl72 sl73 sl74 sl75 sl76 sl77 sl78 csl7 csl8 csl9 : Array (Option Value)} {cvs7 cvs8 cvs9 : Array Value}
    {oc1 kV1 cd1 dc1 pm1 ct1 oc2 kV2 cd2 dc2 pm2 ct2 oc3 kV3 cd3 dc3 pm3 ct3 oc4 kV4 cd4 dc4 pm4 ct4 oc5 kV5 cd5 dc5 pm5 ct5 oc6 cd6 dc6 pm6 ct6 oc7 kV7 coc7 dc7 pm7 ct7 oc8 kV8 coc8 dc8 pm8 ct8 oc9 kV9 coc9 dc9 pm9 ct9 oc10 kV10 cd10 dc10 pm10 ct10 oc11 kV11 cd11 dc11 pm11 ct11 oc12 kV12 cd12 dc12 pm12 ct12 oc13 kV13 cd13 dc13 pm13 ct13 oc14 kV14 cd14 dc14 pm14 ct14 oc15 kV15 cd15 dc15 pm15 ct15 oc16 kV16 cd16 dc16 pm16 ct16 oc17 kV17 cd17 dc17 pm17 ct17 oc18 kV18 cd18 dc18 pm18 ct18 oc19 kV19 cd19 dc19 pm19 ct19 oc20 kV20 cd20 dc20 pm20 ct20 oc21 kV21 cd21 dc21 pm21 ct21 oc22 kV22 cd22 dc22 pm22 ct22 oc23 kV23 cd23 dc23 pm23 ct23 oc24 kV24 cd24 dc24 pm24 ct24 oc25 kV25 cd25 dc25 pm25 ct25 oc26 kV26 cd26 dc26 pm26 ct26 oc27 kV27 cd27 dc27 pm27 ct27 oc28 kV28 cd28 dc28 pm28 ct28 oc29 kV29 cd29 dc29 pm29 ct29 oc30 kV30 cd30 dc30 pm30 ct30 oc31 kV31 cd31 dc31 pm31 ct31 oc32 kV32 cd32 dc32 pm32 ct32 oc33 kV33 cd33 dc33 pm33 ct33 oc34 kV34 cd34 dc34 pm34 ct34 oc35 kV35 cd35 dc35 pm35 ct35 oc36 kV36 cd36 dc36 pm36 ct36 oc37 kV37 cd37 dc37 pm37 ct37 oc38 kV38 cd38 dc38 pm38 ct38 oc39 kV39 cd39 dc39 pm39 ct39 oc40 kV40 cd40 dc40 pm40 ct40 oc41 kV41 cd41 dc41 pm41 ct41 oc42 kV42 cd42 dc42 pm42 ct42 oc43 kV43 cd43 dc43 pm43 ct43 oc44 kV44 cd44 dc44 pm44 ct44 oc45 cd45 dc45 pm45 ct45 oc46 kV46 cd46 dc46 pm46 ct46 oc47 kV47 cd47 dc47 pm47 ct47 oc48 kV48 cd48 dc48 pm48 ct48 oc49 kV49 cd49 dc49 pm49 ct49 oc50 kV50 cd50 dc50 pm50 ct50 oc51 kV51 cd51 dc51 pm51 ct51 oc52 kV52 cd52 dc52 pm52 ct52 oc53 kV53 cd53 dc53 pm53 ct53 oc54 kV54 cd54 dc54 pm54 ct54 oc55 kV55 cd55 dc55 pm55 ct55 oc56 kV56 cd56 dc56 pm56 ct56 oc57 kV57 cd57 dc57 pm57 ct57 oc58 kV58 cd58 dc58 pm58 ct58 oc59 kV59 cd59 dc59 pm59 ct59 oc60 kV60 cd60 dc60 pm60 ct60 oc61 kV61 cd61 dc61 pm61 ct61 oc62 kV62 cd62 dc62 pm62 ct62 oc63 kV63 cd63 dc63 pm63 ct63 oc64 kV64 cd64 dc64 pm64 ct64 oc65 kV65 cd65 dc65 pm65 ct65 oc66 kV66 cd66 dc66 pm66 ct66 oc67 kV67 cd67 dc67 pm67 ct67 oc68 kV68 cd68 dc68 pm68 ct68 oc69 kV69 cd69 dc69 pm69 ct69 oc70 kV70 cd70 dc70 pm70 ct70 oc71 kV71 cd71 dc71 pm71 ct71 oc72 kV72 cd72 dc72 pm72 ct72 oc73 kV73 cd73 dc73 pm73 ct73 oc74 kV74 cd74 dc74 pm74 ct74 oc75 kV75 cd75 dc75 pm75 ct75 oc76 kV76 cd76 dc76 pm76 ct76 oc77 kV77 cd77 dc77 pm77 ct77 oc78 kV78 cd78 dc78 pm78 ct78 : Value} {es : Array DictEntry} {en : Nat} {tk6_0 tk6_1 : Tok} {C CP kw mt1 mt2 mt3 : Addr} {ot : Obj} {nt : Nat} {s0 s1 s2 s3 s4 s5 s6 t_MOST_DEEP_TERM t_MOST_TERMS t_MOST_DEEP_STEP t_MOST_STEPS t_MOST_IN_BODY t_MOST_ROOMS t_MOST_FLOORS t_MOST_BOXES t_MOST_SAYINGS t_MOST_BOUND : Tok}
    (xC : PySem.W.nsIn K mainGlobals "Room" = some (some (.ref C)))
    (xCP : PySem.W.nsIn K mainGlobals "Program" = some (some (.ref CP)))
    (a1 : PySem.W.nsIn K mainGlobals "plus" = some (some (.ref f1)))
    (l1 : K.lookup f1 = some ⟨oc1, od1, .func (PySem.W.fnOf "plus" "plus" (defArgs sPlus) (defBody sPlus) (defScope sPlus) .none kV1 dc1 pm1 an1 cd1 ct1), sl1⟩)
    (e1 : PySem.W.codeIn K cd1 "plus" = true)
    (k1 : PySem.W.keepIn K (.ref f1) = true)
    (a2 : PySem.W.nsIn K mainGlobals "less" = some (some (.ref f2)))
    (l2 : K.lookup f2 = some ⟨oc2, od2, .func (PySem.W.fnOf "less" "less" (defArgs sLess) (defBody sLess) (defScope sLess) .none kV2 dc2 pm2 an2 cd2 ct2), sl2⟩)
    (e2 : PySem.W.codeIn K cd2 "less" = true)
    (k2 : PySem.W.keepIn K (.ref f2) = true)
    (a3 : PySem.W.nsIn K mainGlobals "times" = some (some (.ref f3)))
    (l3 : K.lookup f3 = some ⟨oc3, od3, .func (PySem.W.fnOf "times" "times" (defArgs sTimes) (defBody sTimes) (defScope sTimes) .none kV3 dc3 pm3 an3 cd3 ct3), sl3⟩)
    (e3 : PySem.W.codeIn K cd3 "times" = true)
    (k3 : PySem.W.keepIn K (.ref f3) = true)
    (a4 : PySem.W.nsIn K mainGlobals "over" = some (some (.ref f4)))
    (l4 : K.lookup f4 = some ⟨oc4, od4, .func (PySem.W.fnOf "over" "over" (defArgs sOver) (defBody sOver) (defScope sOver) .none kV4 dc4 pm4 an4 cd4 ct4), sl4⟩)
    (e4 : PySem.W.codeIn K cd4 "over" = true)
    (k4 : PySem.W.keepIn K (.ref f4) = true)
    (a5 : PySem.W.nsIn K mainGlobals "rest" = some (some (.ref f5)))
    (l5 : K.lookup f5 = some ⟨oc5, od5, .func (PySem.W.fnOf "rest" "rest" (defArgs sRest) (defBody sRest) (defScope sRest) .none kV5 dc5 pm5 an5 cd5 ct5), sl5⟩)
    (e5 : PySem.W.codeIn K cd5 "rest" = true)
    (k5 : PySem.W.keepIn K (.ref f5) = true)
    (a6 : PySem.W.nsIn K mainGlobals "holds" = some (some (.ref f6)))
    (l6 : K.lookup f6 = some ⟨oc6, od6, .func (PySem.W.fnOf "holds" "holds" (defArgs sHolds) (defBody sHolds) (defScope sHolds) .none (.ref D6) dc6 pm6 an6 cd6 ct6), sl6⟩)
    (e6 : PySem.W.codeIn K cd6 "holds" = true)
    (k6 : PySem.W.keepIn K (.ref f6) = true)
    (w6_0 : PySem.W.nsIn K D6 "asked" = some (some (.int 0 tk6_0)))
    (w6_1 : PySem.W.nsIn K D6 "told" = some (some (.int 0 tk6_1)))
    (a7 : PySem.W.nsIn K mainGlobals "ready_worth" = some (some (.ref f7)))
    (l7 : K.lookup f7 = some ⟨oc7, od7, .func (PySem.W.fnOf "ready_worth" "ready_worth" (defArgs sReady) (defBody sReady) (defScope sReady) .none kV7 dc7 pm7 an7 (.ref c7) ct7), sl7⟩)
    (e7 : PySem.W.codeIn K (.ref c7) "ready_worth" = true)
    (k7 : PySem.W.keepIn K (.ref f7) = true)
    (g7 : K.lookup c7 = some ⟨coc7, cod7, .fields cvs7, csl7⟩)
    (v7 : cvs7[11]? = some (.ref P7))
    (q7 : PySem.W.codeHdIn K c7 P7 = true)
    (n7 : K.lookup P7 = none)
    (t7 : h.get? P7 = some { cls := .none, data := .fields #[] })
    (a8 : PySem.W.nsIn K mainGlobals "ready_test" = some (some (.ref f8)))
    (l8 : K.lookup f8 = some ⟨oc8, od8, .func (PySem.W.fnOf "ready_test" "ready_test" (defArgs sRT) (defBody sRT) (defScope sRT) .none kV8 dc8 pm8 an8 (.ref c8) ct8), sl8⟩)
    (e8 : PySem.W.codeIn K (.ref c8) "ready_test" = true)
    (k8 : PySem.W.keepIn K (.ref f8) = true)
    (g8 : K.lookup c8 = some ⟨coc8, cod8, .fields cvs8, csl8⟩)
    (v8 : cvs8[11]? = some (.ref P8))
    (q8 : PySem.W.codeHdIn K c8 P8 = true)
    (n8 : K.lookup P8 = none)
    (t8 : h.get? P8 = some { cls := .none, data := .fields #[] })
    (a9 : PySem.W.nsIn K mainGlobals "ready_comparison" = some (some (.ref f9)))
    (l9 : K.lookup f9 = some ⟨oc9, od9, .func (PySem.W.fnOf "ready_comparison" "ready_comparison" (defArgs sRC) (defBody sRC) (defScope sRC) .none kV9 dc9 pm9 an9 (.ref c9) ct9), sl9⟩)
    (e9 : PySem.W.codeIn K (.ref c9) "ready_comparison" = true)
    (k9 : PySem.W.keepIn K (.ref f9) = true)
    (g9 : K.lookup c9 = some ⟨coc9, cod9, .fields cvs9, csl9⟩)
    (v9 : cvs9[11]? = some (.ref P9))
    (q9 : PySem.W.codeHdIn K c9 P9 = true)
    (n9 : K.lookup P9 = none)
    (t9 : h.get? P9 = some { cls := .none, data := .fields #[] })
    (a10 : PySem.W.nsIn K mainGlobals "is_whole" = some (some (.ref f10)))
    (l10 : K.lookup f10 = some ⟨oc10, od10, .func (PySem.W.fnOf "is_whole" "is_whole" (defArgs sWhole) (defBody sWhole) (defScope sWhole) .none kV10 dc10 pm10 an10 cd10 ct10), sl10⟩)
    (e10 : PySem.W.codeIn K cd10 "is_whole" = true)
    (k10 : PySem.W.keepIn K (.ref f10) = true)
    (a11 : PySem.W.nsIn K mainGlobals "is_within" = some (some (.ref f11)))
    (l11 : K.lookup f11 = some ⟨oc11, od11, .func (PySem.W.fnOf "is_within" "is_within" (defArgs sWithin) (defBody sWithin) (defScope sWithin) .none kV11 dc11 pm11 an11 cd11 ct11), sl11⟩)
    (e11 : PySem.W.codeIn K cd11 "is_within" = true)
    (k11 : PySem.W.keepIn K (.ref f11) = true)
    (a12 : PySem.W.nsIn K mainGlobals "is_name" = some (some (.ref f12)))
    (l12 : K.lookup f12 = some ⟨oc12, od12, .func (PySem.W.fnOf "is_name" "is_name" (defArgs sName) (defBody sName) (defScope sName) .none kV12 dc12 pm12 an12 cd12 ct12), sl12⟩)
    (e12 : PySem.W.codeIn K cd12 "is_name" = true)
    (k12 : PySem.W.keepIn K (.ref f12) = true)
    (a13 : PySem.W.nsIn K mainGlobals "is_expression" = some (some (.ref f13)))
    (l13 : K.lookup f13 = some ⟨oc13, od13, .func (PySem.W.fnOf "is_expression" "is_expression" (defArgs sIsExpr) (defBody sIsExpr) (defScope sIsExpr) .none kV13 dc13 pm13 an13 cd13 ct13), sl13⟩)
    (e13 : PySem.W.codeIn K cd13 "is_expression" = true)
    (k13 : PySem.W.keepIn K (.ref f13) = true)
    (a14 : PySem.W.nsIn K mainGlobals "is_test" = some (some (.ref f14)))
    (l14 : K.lookup f14 = some ⟨oc14, od14, .func (PySem.W.fnOf "is_test" "is_test" (defArgs sIsTest) (defBody sIsTest) (defScope sIsTest) .none kV14 dc14 pm14 an14 cd14 ct14), sl14⟩)
    (e14 : PySem.W.codeIn K cd14 "is_test" = true)
    (k14 : PySem.W.keepIn K (.ref f14) = true)
    (a15 : PySem.W.nsIn K mainGlobals "expression_fits" = some (some (.ref f15)))
    (l15 : K.lookup f15 = some ⟨oc15, od15, .func (PySem.W.fnOf "expression_fits" "expression_fits" (defArgs sExFits) (defBody sExFits) (defScope sExFits) .none kV15 dc15 pm15 an15 cd15 ct15), sl15⟩)
    (e15 : PySem.W.codeIn K cd15 "expression_fits" = true)
    (k15 : PySem.W.keepIn K (.ref f15) = true)
    (a16 : PySem.W.nsIn K mainGlobals "test_fits" = some (some (.ref f16)))
    (l16 : K.lookup f16 = some ⟨oc16, od16, .func (PySem.W.fnOf "test_fits" "test_fits" (defArgs sTsFits) (defBody sTsFits) (defScope sTsFits) .none kV16 dc16 pm16 an16 cd16 ct16), sl16⟩)
    (e16 : PySem.W.codeIn K cd16 "test_fits" = true)
    (k16 : PySem.W.keepIn K (.ref f16) = true)
    (a17 : PySem.W.nsIn K mainGlobals "is_row" = some (some (.ref f17)))
    (l17 : K.lookup f17 = some ⟨oc17, od17, .func (PySem.W.fnOf "is_row" "is_row" (defArgs sRow) (defBody sRow) (defScope sRow) .none kV17 dc17 pm17 an17 cd17 ct17), sl17⟩)
    (e17 : PySem.W.codeIn K cd17 "is_row" = true)
    (k17 : PySem.W.keepIn K (.ref f17) = true)
    (a18 : PySem.W.nsIn K mainGlobals "count_terms" = some (some (.ref f18)))
    (l18 : K.lookup f18 = some ⟨oc18, od18, .func (PySem.W.fnOf "count_terms" "count_terms" (defArgs sCount) (defBody sCount) (defScope sCount) .none kV18 dc18 pm18 an18 cd18 ct18), sl18⟩)
    (e18 : PySem.W.codeIn K cd18 "count_terms" = true)
    (k18 : PySem.W.keepIn K (.ref f18) = true)
    (a19 : PySem.W.nsIn K mainGlobals "is_body" = some (some (.ref f19)))
    (l19 : K.lookup f19 = some ⟨oc19, od19, .func (PySem.W.fnOf "is_body" "is_body" (defArgs sBody) (defBody sBody) (defScope sBody) .none kV19 dc19 pm19 an19 cd19 ct19), sl19⟩)
    (e19 : PySem.W.codeIn K cd19 "is_body" = true)
    (k19 : PySem.W.keepIn K (.ref f19) = true)
    (a20 : PySem.W.nsIn K mainGlobals "body_fits" = some (some (.ref f20)))
    (l20 : K.lookup f20 = some ⟨oc20, od20, .func (PySem.W.fnOf "body_fits" "body_fits" (defArgs sBFits) (defBody sBFits) (defScope sBFits) .none kV20 dc20 pm20 an20 cd20 ct20), sl20⟩)
    (e20 : PySem.W.codeIn K cd20 "body_fits" = true)
    (k20 : PySem.W.keepIn K (.ref f20) = true)
    (a21 : PySem.W.nsIn K mainGlobals "step_fits" = some (some (.ref f21)))
    (l21 : K.lookup f21 = some ⟨oc21, od21, .func (PySem.W.fnOf "step_fits" "step_fits" (defArgs sSFits) (defBody sSFits) (defScope sSFits) .none kV21 dc21 pm21 an21 cd21 ct21), sl21⟩)
    (e21 : PySem.W.codeIn K cd21 "step_fits" = true)
    (k21 : PySem.W.keepIn K (.ref f21) = true)
    (a22 : PySem.W.nsIn K mainGlobals "all_steps" = some (some (.ref f22)))
    (l22 : K.lookup f22 = some ⟨oc22, od22, .func (PySem.W.fnOf "all_steps" "all_steps" (defArgs sAll) (defBody sAll) (defScope sAll) .none kV22 dc22 pm22 an22 cd22 ct22), sl22⟩)
    (e22 : PySem.W.codeIn K cd22 "all_steps" = true)
    (k22 : PySem.W.keepIn K (.ref f22) = true)
    (a23 : PySem.W.nsIn K mainGlobals "bodies_within" = some (some (.ref f23)))
    (l23 : K.lookup f23 = some ⟨oc23, od23, .func (PySem.W.fnOf "bodies_within" "bodies_within" (defArgs sWithinB) (defBody sWithinB) (defScope sWithinB) .none kV23 dc23 pm23 an23 cd23 ct23), sl23⟩)
    (e23 : PySem.W.codeIn K cd23 "bodies_within" = true)
    (k23 : PySem.W.keepIn K (.ref f23) = true)
    (a24 : PySem.W.nsIn K mainGlobals "places" = some (some (.ref f24)))
    (l24 : K.lookup f24 = some ⟨oc24, od24, .func (PySem.W.fnOf "places" "places" (defArgs sPlc) (defBody sPlc) (defScope sPlc) .none kV24 dc24 pm24 an24 cd24 ct24), sl24⟩)
    (e24 : PySem.W.codeIn K cd24 "places" = true)
    (k24 : PySem.W.keepIn K (.ref f24) = true)
    (a25 : PySem.W.nsIn K mainGlobals "room_places" = some (some (.ref f25)))
    (l25 : K.lookup f25 = some ⟨oc25, od25, .func (PySem.W.fnOf "room_places" "room_places" (defArgs sRP) (defBody sRP) (defScope sRP) .none kV25 dc25 pm25 an25 cd25 ct25), sl25⟩)
    (e25 : PySem.W.codeIn K cd25 "room_places" = true)
    (k25 : PySem.W.keepIn K (.ref f25) = true)
    (a26 : PySem.W.nsIn K mainGlobals "body_size" = some (some (.ref f26)))
    (l26 : K.lookup f26 = some ⟨oc26, od26, .func (PySem.W.fnOf "body_size" "body_size" (defArgs sBSz) (defBody sBSz) (defScope sBSz) .none kV26 dc26 pm26 an26 cd26 ct26), sl26⟩)
    (e26 : PySem.W.codeIn K cd26 "body_size" = true)
    (k26 : PySem.W.keepIn K (.ref f26) = true)
    (a27 : PySem.W.nsIn K mainGlobals "step_size" = some (some (.ref f27)))
    (l27 : K.lookup f27 = some ⟨oc27, od27, .func (PySem.W.fnOf "step_size" "step_size" (defArgs sSSz) (defBody sSSz) (defScope sSSz) .none kV27 dc27 pm27 an27 cd27 ct27), sl27⟩)
    (e27 : PySem.W.codeIn K cd27 "step_size" = true)
    (k27 : PySem.W.keepIn K (.ref f27) = true)
    (a28 : PySem.W.nsIn K mainGlobals "begin_of" = some (some (.ref f28)))
    (l28 : K.lookup f28 = some ⟨oc28, od28, .func (PySem.W.fnOf "begin_of" "begin_of" (defArgs sBeg) (defBody sBeg) (defScope sBeg) .none kV28 dc28 pm28 an28 cd28 ct28), sl28⟩)
    (e28 : PySem.W.codeIn K cd28 "begin_of" = true)
    (k28 : PySem.W.keepIn K (.ref f28) = true)
    (a29 : PySem.W.nsIn K mainGlobals "add_body" = some (some (.ref f29)))
    (l29 : K.lookup f29 = some ⟨oc29, od29, .func (PySem.W.fnOf "add_body" "add_body" (defArgs sABody) (defBody sABody) (defScope sABody) .none kV29 dc29 pm29 an29 cd29 ct29), sl29⟩)
    (e29 : PySem.W.codeIn K cd29 "add_body" = true)
    (k29 : PySem.W.keepIn K (.ref f29) = true)
    (a30 : PySem.W.nsIn K mainGlobals "add_step" = some (some (.ref f30)))
    (l30 : K.lookup f30 = some ⟨oc30, od30, .func (PySem.W.fnOf "add_step" "add_step" (defArgs sAStep) (defBody sAStep) (defScope sAStep) .none kV30 dc30 pm30 an30 cd30 ct30), sl30⟩)
    (e30 : PySem.W.codeIn K cd30 "add_step" = true)
    (k30 : PySem.W.keepIn K (.ref f30) = true)
    (a31 : PySem.W.nsIn K mainGlobals "add_if" = some (some (.ref f31)))
    (l31 : K.lookup f31 = some ⟨oc31, od31, .func (PySem.W.fnOf "add_if" "add_if" (defArgs sAIf) (defBody sAIf) (defScope sAIf) .none kV31 dc31 pm31 an31 cd31 ct31), sl31⟩)
    (e31 : PySem.W.codeIn K cd31 "add_if" = true)
    (k31 : PySem.W.keepIn K (.ref f31) = true)
    (a32 : PySem.W.nsIn K mainGlobals "add_for" = some (some (.ref f32)))
    (l32 : K.lookup f32 = some ⟨oc32, od32, .func (PySem.W.fnOf "add_for" "add_for" (defArgs sAFor) (defBody sAFor) (defScope sAFor) .none kV32 dc32 pm32 an32 cd32 ct32), sl32⟩)
    (e32 : PySem.W.codeIn K cd32 "add_for" = true)
    (k32 : PySem.W.keepIn K (.ref f32) = true)
    (a33 : PySem.W.nsIn K mainGlobals "add_call" = some (some (.ref f33)))
    (l33 : K.lookup f33 = some ⟨oc33, od33, .func (PySem.W.fnOf "add_call" "add_call" (defArgs sACall) (defBody sACall) (defScope sACall) .none kV33 dc33 pm33 an33 cd33 ct33), sl33⟩)
    (e33 : PySem.W.codeIn K cd33 "add_call" = true)
    (k33 : PySem.W.keepIn K (.ref f33) = true)
    (a34 : PySem.W.nsIn K mainGlobals "measure" = some (some (.ref f34)))
    (l34 : K.lookup f34 = some ⟨oc34, od34, .func (PySem.W.fnOf "measure" "measure" (defArgs sMe) (defBody sMe) (defScope sMe) .none kV34 dc34 pm34 an34 cd34 ct34), sl34⟩)
    (e34 : PySem.W.codeIn K cd34 "measure" = true)
    (k34 : PySem.W.keepIn K (.ref f34) = true)
    (a35 : PySem.W.nsIn K mainGlobals "number_body" = some (some (.ref f35)))
    (l35 : K.lookup f35 = some ⟨oc35, od35, .func (PySem.W.fnOf "number_body" "number_body" (defArgs sNB) (defBody sNB) (defScope sNB) .none kV35 dc35 pm35 an35 cd35 ct35), sl35⟩)
    (e35 : PySem.W.codeIn K cd35 "number_body" = true)
    (k35 : PySem.W.keepIn K (.ref f35) = true)
    (a36 : PySem.W.nsIn K mainGlobals "number_within" = some (some (.ref f36)))
    (l36 : K.lookup f36 = some ⟨oc36, od36, .func (PySem.W.fnOf "number_within" "number_within" (defArgs sNW) (defBody sNW) (defScope sNW) .none kV36 dc36 pm36 an36 cd36 ct36), sl36⟩)
    (e36 : PySem.W.codeIn K cd36 "number_within" = true)
    (k36 : PySem.W.keepIn K (.ref f36) = true)
    (a37 : PySem.W.nsIn K mainGlobals "measure_holds" = some (some (.ref f37)))
    (l37 : K.lookup f37 = some ⟨oc37, od37, .func (PySem.W.fnOf "measure_holds" "measure_holds" (defArgs sMH) (defBody sMH) (defScope sMH) .none kV37 dc37 pm37 an37 cd37 ct37), sl37⟩)
    (e37 : PySem.W.codeIn K cd37 "measure_holds" = true)
    (k37 : PySem.W.keepIn K (.ref f37) = true)
    (a38 : PySem.W.nsIn K mainGlobals "are_from" = some (some (.ref f38)))
    (l38 : K.lookup f38 = some ⟨oc38, od38, .func (PySem.W.fnOf "are_from" "are_from" (defArgs sAre) (defBody sAre) (defScope sAre) .none kV38 dc38 pm38 an38 cd38 ct38), sl38⟩)
    (e38 : PySem.W.codeIn K cd38 "are_from" = true)
    (k38 : PySem.W.keepIn K (.ref f38) = true)
    (a39 : PySem.W.nsIn K mainGlobals "falls" = some (some (.ref f39)))
    (l39 : K.lookup f39 = some ⟨oc39, od39, .func (PySem.W.fnOf "falls" "falls" (defArgs sFa) (defBody sFa) (defScope sFa) .none kV39 dc39 pm39 an39 cd39 ct39), sl39⟩)
    (e39 : PySem.W.codeIn K cd39 "falls" = true)
    (k39 : PySem.W.keepIn K (.ref f39) = true)
    (a40 : PySem.W.nsIn K mainGlobals "body_weights" = some (some (.ref f40)))
    (l40 : K.lookup f40 = some ⟨oc40, od40, .func (PySem.W.fnOf "body_weights" "body_weights" (defArgs sBWs) (defBody sBWs) (defScope sBWs) .none kV40 dc40 pm40 an40 cd40 ct40), sl40⟩)
    (e40 : PySem.W.codeIn K cd40 "body_weights" = true)
    (k40 : PySem.W.keepIn K (.ref f40) = true)
    (a41 : PySem.W.nsIn K mainGlobals "body_weight" = some (some (.ref f41)))
    (l41 : K.lookup f41 = some ⟨oc41, od41, .func (PySem.W.fnOf "body_weight" "body_weight" (defArgs sBW) (defBody sBW) (defScope sBW) .none kV41 dc41 pm41 an41 cd41 ct41), sl41⟩)
    (e41 : PySem.W.codeIn K cd41 "body_weight" = true)
    (k41 : PySem.W.keepIn K (.ref f41) = true)
    (a42 : PySem.W.nsIn K mainGlobals "step_weight" = some (some (.ref f42)))
    (l42 : K.lookup f42 = some ⟨oc42, od42, .func (PySem.W.fnOf "step_weight" "step_weight" (defArgs sSW) (defBody sSW) (defScope sSW) .none kV42 dc42 pm42 an42 cd42 ct42), sl42⟩)
    (e42 : PySem.W.codeIn K cd42 "step_weight" = true)
    (k42 : PySem.W.keepIn K (.ref f42) = true)
    (a43 : PySem.W.nsIn K mainGlobals "turn_weight" = some (some (.ref f43)))
    (l43 : K.lookup f43 = some ⟨oc43, od43, .func (PySem.W.fnOf "turn_weight" "turn_weight" (defArgs sTW) (defBody sTW) (defScope sTW) .none kV43 dc43 pm43 an43 cd43 ct43), sl43⟩)
    (e43 : PySem.W.codeIn K cd43 "turn_weight" = true)
    (k43 : PySem.W.keepIn K (.ref f43) = true)
    (a44 : PySem.W.nsIn K mainGlobals "call_weight" = some (some (.ref f44)))
    (l44 : K.lookup f44 = some ⟨oc44, od44, .func (PySem.W.fnOf "call_weight" "call_weight" (defArgs sCW) (defBody sCW) (defScope sCW) .none kV44 dc44 pm44 an44 cd44 ct44), sl44⟩)
    (e44 : PySem.W.codeIn K cd44 "call_weight" = true)
    (k44 : PySem.W.keepIn K (.ref f44) = true)
    (a45 : PySem.W.findIn K (.ref C) "__init__" = some (some (.ref f45)))
    (i45 : PySem.W.isFn K (.ref f45) = true)
    (l45 : K.lookup f45 = some ⟨oc45, od45, .func (PySem.W.fnOf "__init__" "Room.__init__" (defArgs sRInit) (defBody sRInit) (defScope sRInit) .none (.ref D45) dc45 pm45 an45 cd45 ct45), sl45⟩)
    (e45 : PySem.W.codeIn K cd45 "Room.__init__" = true)
    (k45 : PySem.W.keepIn K (.ref f45) = true)
    (w45_0 : PySem.W.nsIn K D45 "above" = some (some (.str "" s0)))
    (w45_1 : PySem.W.nsIn K D45 "boxes" = some (some (.ref mt1)))
    (w45_2 : PySem.W.nsIn K D45 "sayings" = some (some (.ref mt2)))
    (w45_3 : PySem.W.nsIn K D45 "ask" = some (some .none))
    (w45_4 : PySem.W.nsIn K D45 "told" = some (some .none))
    (w45_5 : PySem.W.nsIn K D45 "promise" = some (some .none))
    (w45_6 : PySem.W.nsIn K D45 "body" = some (some (.ref mt3)))
    (a46 : PySem.W.findIn K (.ref CP) "__init__" = some (some (.ref f46)))
    (i46 : PySem.W.isFn K (.ref f46) = true)
    (l46 : K.lookup f46 = some ⟨oc46, od46, .func (PySem.W.fnOf "__init__" "Program.__init__" (defArgs sPInit) (defBody sPInit) (defScope sPInit) .none kV46 dc46 pm46 an46 cd46 ct46), sl46⟩)
    (e46 : PySem.W.codeIn K cd46 "Program.__init__" = true)
    (k46 : PySem.W.keepIn K (.ref f46) = true)
    (a47 : PySem.W.findIn K (.ref CP) "rooms" = some (some (.ref f47)))
    (i47 : PySem.W.isFn K (.ref f47) = true)
    (l47 : K.lookup f47 = some ⟨oc47, od47, .func (PySem.W.fnOf "rooms" "Program.rooms" (defArgs sRms) (defBody sRms) (defScope sRms) .none kV47 dc47 pm47 an47 cd47 ct47), sl47⟩)
    (e47 : PySem.W.codeIn K cd47 "Program.rooms" = true)
    (k47 : PySem.W.keepIn K (.ref f47) = true)
    (a48 : PySem.W.findIn K (.ref CP) "room_of" = some (some (.ref f48)))
    (i48 : PySem.W.isFn K (.ref f48) = true)
    (l48 : K.lookup f48 = some ⟨oc48, od48, .func (PySem.W.fnOf "room_of" "Program.room_of" (defArgs sRO) (defBody sRO) (defScope sRO) .none kV48 dc48 pm48 an48 cd48 ct48), sl48⟩)
    (e48 : PySem.W.codeIn K cd48 "Program.room_of" = true)
    (k48 : PySem.W.keepIn K (.ref f48) = true)
    (a49 : PySem.W.findIn K (.ref CP) "beneath" = some (some (.ref f49)))
    (i49 : PySem.W.isFn K (.ref f49) = true)
    (l49 : K.lookup f49 = some ⟨oc49, od49, .func (PySem.W.fnOf "beneath" "Program.beneath" (defArgs sBen) (defBody sBen) (defScope sBen) .none kV49 dc49 pm49 an49 cd49 ct49), sl49⟩)
    (e49 : PySem.W.codeIn K cd49 "Program.beneath" = true)
    (k49 : PySem.W.keepIn K (.ref f49) = true)
    (a50 : PySem.W.nsIn K mainGlobals "are_rooms" = some (some (.ref f50)))
    (l50 : K.lookup f50 = some ⟨oc50, od50, .func (PySem.W.fnOf "are_rooms" "are_rooms" (defArgs sRooms) (defBody sRooms) (defScope sRooms) .none kV50 dc50 pm50 an50 cd50 ct50), sl50⟩)
    (e50 : PySem.W.codeIn K cd50 "are_rooms" = true)
    (k50 : PySem.W.keepIn K (.ref f50) = true)
    (a51 : PySem.W.nsIn K mainGlobals "fault_of" = some (some (.ref f51)))
    (l51 : K.lookup f51 = some ⟨oc51, od51, .func (PySem.W.fnOf "fault_of" "fault_of" (defArgs sFault) (defBody sFault) (defScope sFault) .none kV51 dc51 pm51 an51 cd51 ct51), sl51⟩)
    (e51 : PySem.W.codeIn K cd51 "fault_of" = true)
    (k51 : PySem.W.keepIn K (.ref f51) = true)
    (a52 : PySem.W.nsIn K mainGlobals "name_fits" = some (some (.ref f52)))
    (l52 : K.lookup f52 = some ⟨oc52, od52, .func (PySem.W.fnOf "name_fits" "name_fits" (defArgs sNameF) (defBody sNameF) (defScope sNameF) .none kV52 dc52 pm52 an52 cd52 ct52), sl52⟩)
    (e52 : PySem.W.codeIn K cd52 "name_fits" = true)
    (k52 : PySem.W.keepIn K (.ref f52) = true)
    (a53 : PySem.W.nsIn K mainGlobals "above_fits" = some (some (.ref f53)))
    (l53 : K.lookup f53 = some ⟨oc53, od53, .func (PySem.W.fnOf "above_fits" "above_fits" (defArgs sAboveF) (defBody sAboveF) (defScope sAboveF) .none kV53 dc53 pm53 an53 cd53 ct53), sl53⟩)
    (e53 : PySem.W.codeIn K cd53 "above_fits" = true)
    (k53 : PySem.W.keepIn K (.ref f53) = true)
    (a54 : PySem.W.nsIn K mainGlobals "floor_of" = some (some (.ref f54)))
    (l54 : K.lookup f54 = some ⟨oc54, od54, .func (PySem.W.fnOf "floor_of" "floor_of" (defArgs sFloor) (defBody sFloor) (defScope sFloor) .none kV54 dc54 pm54 an54 cd54 ct54), sl54⟩)
    (e54 : PySem.W.codeIn K cd54 "floor_of" = true)
    (k54 : PySem.W.keepIn K (.ref f54) = true)
    (a55 : PySem.W.nsIn K mainGlobals "boxes_fit" = some (some (.ref f55)))
    (l55 : K.lookup f55 = some ⟨oc55, od55, .func (PySem.W.fnOf "boxes_fit" "boxes_fit" (defArgs sBoxesF) (defBody sBoxesF) (defScope sBoxesF) .none kV55 dc55 pm55 an55 cd55 ct55), sl55⟩)
    (e55 : PySem.W.codeIn K cd55 "boxes_fit" = true)
    (k55 : PySem.W.keepIn K (.ref f55) = true)
    (a56 : PySem.W.nsIn K mainGlobals "box_fits" = some (some (.ref f56)))
    (l56 : K.lookup f56 = some ⟨oc56, od56, .func (PySem.W.fnOf "box_fits" "box_fits" (defArgs sBoxF) (defBody sBoxF) (defScope sBoxF) .none kV56 dc56 pm56 an56 cd56 ct56), sl56⟩)
    (e56 : PySem.W.codeIn K cd56 "box_fits" = true)
    (k56 : PySem.W.keepIn K (.ref f56) = true)
    (a57 : PySem.W.nsIn K mainGlobals "sayings_fit" = some (some (.ref f57)))
    (l57 : K.lookup f57 = some ⟨oc57, od57, .func (PySem.W.fnOf "sayings_fit" "sayings_fit" (defArgs sSaysF) (defBody sSaysF) (defScope sSaysF) .none kV57 dc57 pm57 an57 cd57 ct57), sl57⟩)
    (e57 : PySem.W.codeIn K cd57 "sayings_fit" = true)
    (k57 : PySem.W.keepIn K (.ref f57) = true)
    (a58 : PySem.W.nsIn K mainGlobals "first_fault" = some (some (.ref f58)))
    (l58 : K.lookup f58 = some ⟨oc58, od58, .func (PySem.W.fnOf "first_fault" "first_fault" (defArgs sFirstF) (defBody sFirstF) (defScope sFirstF) .none kV58 dc58 pm58 an58 cd58 ct58), sl58⟩)
    (e58 : PySem.W.codeIn K cd58 "first_fault" = true)
    (k58 : PySem.W.keepIn K (.ref f58) = true)
    (a59 : PySem.W.nsIn K mainGlobals "other_fault" = some (some (.ref f59)))
    (l59 : K.lookup f59 = some ⟨oc59, od59, .func (PySem.W.fnOf "other_fault" "other_fault" (defArgs sOtherF) (defBody sOtherF) (defScope sOtherF) .none kV59 dc59 pm59 an59 cd59 ct59), sl59⟩)
    (e59 : PySem.W.codeIn K cd59 "other_fault" = true)
    (k59 : PySem.W.keepIn K (.ref f59) = true)
    (a60 : PySem.W.nsIn K mainGlobals "told_fits" = some (some (.ref f60)))
    (l60 : K.lookup f60 = some ⟨oc60, od60, .func (PySem.W.fnOf "told_fits" "told_fits" (defArgs sToldF) (defBody sToldF) (defScope sToldF) .none kV60 dc60 pm60 an60 cd60 ct60), sl60⟩)
    (e60 : PySem.W.codeIn K cd60 "told_fits" = true)
    (k60 : PySem.W.keepIn K (.ref f60) = true)
    (a61 : PySem.W.nsIn K mainGlobals "body_fault" = some (some (.ref f61)))
    (l61 : K.lookup f61 = some ⟨oc61, od61, .func (PySem.W.fnOf "body_fault" "body_fault" (defArgs sBodyF) (defBody sBodyF) (defScope sBodyF) .none kV61 dc61 pm61 an61 cd61 ct61), sl61⟩)
    (e61 : PySem.W.codeIn K cd61 "body_fault" = true)
    (k61 : PySem.W.keepIn K (.ref f61) = true)
    (a62 : PySem.W.nsIn K mainGlobals "box_names" = some (some (.ref f62)))
    (l62 : K.lookup f62 = some ⟨oc62, od62, .func (PySem.W.fnOf "box_names" "box_names" (defArgs sNames) (defBody sNames) (defScope sNames) .none kV62 dc62 pm62 an62 cd62 ct62), sl62⟩)
    (e62 : PySem.W.codeIn K cd62 "box_names" = true)
    (k62 : PySem.W.keepIn K (.ref f62) = true)
    (a63 : PySem.W.nsIn K mainGlobals "_law_bag" = some (some (.ref f63)))
    (l63 : K.lookup f63 = some ⟨oc63, od63, .func (PySem.W.fnOf "_law_bag" "_law_bag" (defArgs sBag) (defBody sBag) (defScope sBag) .none kV63 dc63 pm63 an63 cd63 ct63), sl63⟩)
    (e63 : PySem.W.codeIn K cd63 "_law_bag" = true)
    (k63 : PySem.W.keepIn K (.ref f63) = true)
    (a64 : PySem.W.nsIn K mainGlobals "_law_take" = some (some (.ref f64)))
    (l64 : K.lookup f64 = some ⟨oc64, od64, .func (PySem.W.fnOf "_law_take" "_law_take" (defArgs sTake) (defBody sTake) (defScope sTake) .none kV64 dc64 pm64 an64 cd64 ct64), sl64⟩)
    (e64 : PySem.W.codeIn K cd64 "_law_take" = true)
    (k64 : PySem.W.keepIn K (.ref f64) = true)
    (a65 : PySem.W.nsIn K mainGlobals "_law_nicks" = some (some (.ref f65)))
    (l65 : K.lookup f65 = some ⟨oc65, od65, .func (PySem.W.fnOf "_law_nicks" "_law_nicks" (defArgs sNicks) (defBody sNicks) (defScope sNicks) .none kV65 dc65 pm65 an65 cd65 ct65), sl65⟩)
    (e65 : PySem.W.codeIn K cd65 "_law_nicks" = true)
    (k65 : PySem.W.keepIn K (.ref f65) = true)
    (a66 : PySem.W.nsIn K mainGlobals "_law_expression" = some (some (.ref f66)))
    (l66 : K.lookup f66 = some ⟨oc66, od66, .func (PySem.W.fnOf "_law_expression" "_law_expression" (defArgs sExpr) (defBody sExpr) (defScope sExpr) .none kV66 dc66 pm66 an66 cd66 ct66), sl66⟩)
    (e66 : PySem.W.codeIn K cd66 "_law_expression" = true)
    (k66 : PySem.W.keepIn K (.ref f66) = true)
    (a67 : PySem.W.nsIn K mainGlobals "_law_test" = some (some (.ref f67)))
    (l67 : K.lookup f67 = some ⟨oc67, od67, .func (PySem.W.fnOf "_law_test" "_law_test" (defArgs sTest) (defBody sTest) (defScope sTest) .none kV67 dc67 pm67 an67 cd67 ct67), sl67⟩)
    (e67 : PySem.W.codeIn K cd67 "_law_test" = true)
    (k67 : PySem.W.keepIn K (.ref f67) = true)
    (a68 : PySem.W.nsIn K mainGlobals "_law_step" = some (some (.ref f68)))
    (l68 : K.lookup f68 = some ⟨oc68, od68, .func (PySem.W.fnOf "_law_step" "_law_step" (defArgs sStep) (defBody sStep) (defScope sStep) .none kV68 dc68 pm68 an68 cd68 ct68), sl68⟩)
    (e68 : PySem.W.codeIn K cd68 "_law_step" = true)
    (k68 : PySem.W.keepIn K (.ref f68) = true)
    (a69 : PySem.W.nsIn K mainGlobals "_law_steps" = some (some (.ref f69)))
    (l69 : K.lookup f69 = some ⟨oc69, od69, .func (PySem.W.fnOf "_law_steps" "_law_steps" (defArgs sSteps) (defBody sSteps) (defScope sSteps) .none kV69 dc69 pm69 an69 cd69 ct69), sl69⟩)
    (e69 : PySem.W.codeIn K cd69 "_law_steps" = true)
    (k69 : PySem.W.keepIn K (.ref f69) = true)
    (a70 : PySem.W.nsIn K mainGlobals "_law_room" = some (some (.ref f70)))
    (l70 : K.lookup f70 = some ⟨oc70, od70, .func (PySem.W.fnOf "_law_room" "_law_room" (defArgs sRoom) (defBody sRoom) (defScope sRoom) .none kV70 dc70 pm70 an70 cd70 ct70), sl70⟩)
    (e70 : PySem.W.codeIn K cd70 "_law_room" = true)
    (k70 : PySem.W.keepIn K (.ref f70) = true)
    (a71 : PySem.W.nsIn K mainGlobals "_law_program" = some (some (.ref f71)))
    (l71 : K.lookup f71 = some ⟨oc71, od71, .func (PySem.W.fnOf "_law_program" "_law_program" (defArgs sProg) (defBody sProg) (defScope sProg) .none kV71 dc71 pm71 an71 cd71 ct71), sl71⟩)
    (e71 : PySem.W.codeIn K cd71 "_law_program" = true)
    (k71 : PySem.W.keepIn K (.ref f71) = true)
    (a72 : PySem.W.nsIn K mainGlobals "_law_weight" = some (some (.ref f72)))
    (l72 : K.lookup f72 = some ⟨oc72, od72, .func (PySem.W.fnOf "_law_weight" "_law_weight" (defArgs sLW) (defBody sLW) (defScope sLW) .none kV72 dc72 pm72 an72 cd72 ct72), sl72⟩)
    (e72 : PySem.W.codeIn K cd72 "_law_weight" = true)
    (k72 : PySem.W.keepIn K (.ref f72) = true)
    (a73 : PySem.W.nsIn K mainGlobals "_law_home" = some (some (.ref f73)))
    (l73 : K.lookup f73 = some ⟨oc73, od73, .func (PySem.W.fnOf "_law_home" "_law_home" (defArgs sLH) (defBody sLH) (defScope sLH) .none kV73 dc73 pm73 an73 cd73 ct73), sl73⟩)
    (e73 : PySem.W.codeIn K cd73 "_law_home" = true)
    (k73 : PySem.W.keepIn K (.ref f73) = true)
    (a74 : PySem.W.nsIn K mainGlobals "_law_rings" = some (some (.ref f74)))
    (l74 : K.lookup f74 = some ⟨oc74, od74, .func (PySem.W.fnOf "_law_rings" "_law_rings" (defArgs sRgs) (defBody sRgs) (defScope sRgs) .none kV74 dc74 pm74 an74 cd74 ct74), sl74⟩)
    (e74 : PySem.W.codeIn K cd74 "_law_rings" = true)
    (k74 : PySem.W.keepIn K (.ref f74) = true)
    (a75 : PySem.W.nsIn K mainGlobals "_law_falls" = some (some (.ref f75)))
    (l75 : K.lookup f75 = some ⟨oc75, od75, .func (PySem.W.fnOf "_law_falls" "_law_falls" (defArgs sLF) (defBody sLF) (defScope sLF) .none kV75 dc75 pm75 an75 cd75 ct75), sl75⟩)
    (e75 : PySem.W.codeIn K cd75 "_law_falls" = true)
    (k75 : PySem.W.keepIn K (.ref f75) = true)
    (a76 : PySem.W.nsIn K mainGlobals "_law_are_numbers" = some (some (.ref f76)))
    (l76 : K.lookup f76 = some ⟨oc76, od76, .func (PySem.W.fnOf "_law_are_numbers" "_law_are_numbers" (defArgs sLN) (defBody sLN) (defScope sLN) .none kV76 dc76 pm76 an76 cd76 ct76), sl76⟩)
    (e76 : PySem.W.codeIn K cd76 "_law_are_numbers" = true)
    (k76 : PySem.W.keepIn K (.ref f76) = true)
    (a77 : PySem.W.nsIn K mainGlobals "_law_is_measure" = some (some (.ref f77)))
    (l77 : K.lookup f77 = some ⟨oc77, od77, .func (PySem.W.fnOf "_law_is_measure" "_law_is_measure" (defArgs sIM) (defBody sIM) (defScope sIM) .none kV77 dc77 pm77 an77 cd77 ct77), sl77⟩)
    (e77 : PySem.W.codeIn K cd77 "_law_is_measure" = true)
    (k77 : PySem.W.keepIn K (.ref f77) = true)
    (a78 : PySem.W.nsIn K mainGlobals "law" = some (some (.ref f78)))
    (l78 : K.lookup f78 = some ⟨oc78, od78, .func (PySem.W.fnOf "law" "law" (defArgs sLaw) (defBody sLaw) (defScope sLaw) .none kV78 dc78 pm78 an78 cd78 ct78), sl78⟩)
    (e78 : PySem.W.codeIn K cd78 "law" = true)
    (k78 : PySem.W.keepIn K (.ref f78) = true)
    (da : PySem.W.nsIn K mainGlobals "DEEDS" = some (some (.ref D)))
    (dl : K.lookup D = some ⟨.type "dict", none, .dict es en, #[]⟩)
    (dk : PySem.W.KeysLit w.params es.toList)
    (d_plus : PySem.W.nsIn K D "plus" = some (some (.ref f1)))
    (d_less : PySem.W.nsIn K D "less" = some (some (.ref f2)))
    (d_times : PySem.W.nsIn K D "times" = some (some (.ref f3)))
    (d_over : PySem.W.nsIn K D "over" = some (some (.ref f4)))
    (d_rest : PySem.W.nsIn K D "rest" = some (some (.ref f5)))
    (rpg : PySem.W.plainGet K C Str.empty = true)
    (rhd : PySem.W.hasDictIn K C = true)
    (rpo : PySem.W.plainOver K C = true)
    (rsa : PySem.W.findIn K (.ref C) "__setattr__" = some (some (.builtin "object.__setattr__")))
    (rmk : PySem.W.makesIn K C = true)
    (rkc : PySem.W.keepIn K (.ref C) = true)
    (r_name : PySem.W.findIn K (.ref C) "name" = some none)
    (r_above : PySem.W.findIn K (.ref C) "above" = some none)
    (r_boxes : PySem.W.findIn K (.ref C) "boxes" = some none)
    (r_sayings : PySem.W.findIn K (.ref C) "sayings" = some none)
    (r_ask : PySem.W.findIn K (.ref C) "ask" = some none)
    (r_told : PySem.W.findIn K (.ref C) "told" = some none)
    (r_promise : PySem.W.findIn K (.ref C) "promise" = some none)
    (r_body : PySem.W.findIn K (.ref C) "body" = some none)
    (ppg : PySem.W.plainGet K CP Str.empty = true)
    (phd : PySem.W.hasDictIn K CP = true)
    (ppo : PySem.W.plainOver K CP = true)
    (psa : PySem.W.findIn K (.ref CP) "__setattr__" = some (some (.builtin "object.__setattr__")))
    (pmk : PySem.W.makesIn K CP = true)
    (pkc : PySem.W.keepIn K (.ref CP) = true)
    (p_held : PySem.W.findIn K (.ref CP) "held" = some none)
    (p_drawn : PySem.W.findIn K (.ref CP) "drawn" = some none)
    (x_cl : PySem.W.findIn K (.ref C) "__class__" = some (some (.builtin "object.__class__")))
    (x_get : PySem.W.specialIn K (.builtin "object.__class__") "__get__" = some (some (.builtin "getset_descriptor.__get__")))
    (x_tk : PySem.W.takesIn K (.builtin "object.__class__") = some true)
    (x_mro : PySem.W.mroIn K C (.type "object") = some true)
    (dkd : Keyed es.toList deedWords)
    (dsm : (D == sysModules) = false)
    (kwn : PySem.W.nsIn K mainGlobals "KEPT_WORDS" = some (some (.ref kw)))
    (kwl : K.lookup kw = some ot)
    (kwc : ot.cls = .type "tuple")
    (kwd : ot.data = .seq #[.str "asked" s1, .str "told" s2, .str "not" s3, .str "and" s4, .str "or" s5] nt)
    (ltn : PySem.W.nsIn K mainGlobals "LETTERS" = some (some (.str letters s6)))
    (c_MOST_DEEP_TERM : PySem.W.nsIn K mainGlobals "MOST_DEEP_TERM" = some (some (.int 5 t_MOST_DEEP_TERM)))
    (c_MOST_TERMS : PySem.W.nsIn K mainGlobals "MOST_TERMS" = some (some (.int 16 t_MOST_TERMS)))
    (c_MOST_DEEP_STEP : PySem.W.nsIn K mainGlobals "MOST_DEEP_STEP" = some (some (.int 4 t_MOST_DEEP_STEP)))
    (c_MOST_STEPS : PySem.W.nsIn K mainGlobals "MOST_STEPS" = some (some (.int 30 t_MOST_STEPS)))
    (c_MOST_IN_BODY : PySem.W.nsIn K mainGlobals "MOST_IN_BODY" = some (some (.int 12 t_MOST_IN_BODY)))
    (c_MOST_ROOMS : PySem.W.nsIn K mainGlobals "MOST_ROOMS" = some (some (.int 8 t_MOST_ROOMS)))
    (c_MOST_FLOORS : PySem.W.nsIn K mainGlobals "MOST_FLOORS" = some (some (.int 4 t_MOST_FLOORS)))
    (c_MOST_BOXES : PySem.W.nsIn K mainGlobals "MOST_BOXES" = some (some (.int 4 t_MOST_BOXES)))
    (c_MOST_SAYINGS : PySem.W.nsIn K mainGlobals "MOST_SAYINGS" = some (some (.int 4 t_MOST_SAYINGS)))
    (c_MOST_BOUND : PySem.W.nsIn K mainGlobals "MOST_BOUND" = some (some (.int 40 t_MOST_BOUND)))
    (z1 : PySem.W.nsIn K mainGlobals "isinstance" = some none)
    (z2 : PySem.W.nsIn K mainGlobals "int" = some none)
    (z3 : PySem.W.nsIn K mainGlobals "bool" = some none)
    (z4 : PySem.W.nsIn K mainGlobals "str" = some none)
    (z5 : PySem.W.nsIn K mainGlobals "tuple" = some none)
    (z6 : PySem.W.nsIn K mainGlobals "len" = some none)
    (z7 : PySem.W.nsIn K mainGlobals "all" = some none)
    (z8 : PySem.W.nsIn K mainGlobals "sum" = some none)
    (z9 : PySem.W.nsIn K mainGlobals "list" = some none)
    (z10 : PySem.W.nsIn K mainGlobals "max" = some none)
    (z11 : PySem.W.nsIn K mainGlobals "min" = some none)
    (z12 : PySem.W.nsIn K mainGlobals "range" = some none)
    (z13 : PySem.W.nsIn K mainGlobals "abs" = some none)
    (z14 : PySem.W.nsIn K mainGlobals "reversed" = some none)
    (z15 : PySem.W.nsIn K mainGlobals "set" = some none)
    (z16 : PySem.W.nsIn K mainGlobals "sorted" = some none)
    (z17 : PySem.W.nsIn K mainGlobals "repr" = some none)
    (z18 : PySem.W.nsIn K mainGlobals "enumerate" = some none)
    (x_ne7_8 : P7 = P8 → False)
    (x_ne7_9 : P7 = P9 → False)
    (x_ne8_9 : P8 = P9 → False)
    : LawT l w K 61 63 "_law_script" mg fa h := by
  have e := hfa.symm.trans (PySem.W.mg_of X G a78)
  cases e
  have F1 := fun_mk (st := sPlus) l1 e1 k1
  have b1 := F1.binds (ps := ["left", "right"]) fun _ _ _ _ _ _ us hl => match us, hl with | [_, _], _ => rfl
  have m1 := PySem.W.mg_of X G a1
  have F2 := fun_mk (st := sLess) l2 e2 k2
  have b2 := F2.binds (ps := ["left", "right"]) fun _ _ _ _ _ _ us hl => match us, hl with | [_, _], _ => rfl
  have m2 := PySem.W.mg_of X G a2
  have F3 := fun_mk (st := sTimes) l3 e3 k3
  have b3 := F3.binds (ps := ["left", "right"]) fun _ _ _ _ _ _ us hl => match us, hl with | [_, _], _ => rfl
  have m3 := PySem.W.mg_of X G a3
  have F4 := fun_mk (st := sOver) l4 e4 k4
  have b4 := F4.binds (ps := ["left", "right"]) fun _ _ _ _ _ _ us hl => match us, hl with | [_, _], _ => rfl
  have m4 := PySem.W.mg_of X G a4
  have F5 := fun_mk (st := sRest) l5 e5 k5
  have b5 := F5.binds (ps := ["left", "right"]) fun _ _ _ _ _ _ us hl => match us, hl with | [_, _], _ => rfl
  have m5 := PySem.W.mg_of X G a5
  have F6 : FunD K "holds" "holds" (defArgs sHolds) (defBody sHolds) (defScope sHolds) [] [("asked", .int 0), ("told", .int 0)] f6 (PySem.W.fnOf "holds" "holds" (defArgs sHolds) (defBody sHolds) (defScope sHolds) .none (.ref D6) dc6 pm6 an6 cd6 ct6) :=
    ⟨⟨oc6, od6, .none, .ref D6, dc6, pm6, an6, cd6, ct6, sl6, rfl, l6, e6, .inl ⟨rfl, rfl⟩, .inr ⟨D6, rfl, fun q hq => by
      simp only [List.mem_cons, List.not_mem_nil, or_false] at hq
      rcases hq with rfl | rfl
      · exact ⟨_, w6_0, ⟨_, rfl⟩⟩
      · exact ⟨_, w6_1, ⟨_, rfl⟩⟩⟩⟩, k6⟩
  have m6 := PySem.W.mg_of X G a6
  have F7 : FunC K "ready_worth" "ready_worth" sReady f7 _ c7 := ⟨⟨oc7, od7, kV7, dc7, pm7, an7, ct7, sl7, rfl, l7, e7⟩, k7⟩
  have b7 := F7.binds (ps := ["expression", "owns"]) fun _ _ _ _ _ us hl => match us, hl with | [_, _], _ => rfl
  have m7 := PySem.W.mg_of X G a7
  have F8 : FunC K "ready_test" "ready_test" sRT f8 _ c8 := ⟨⟨oc8, od8, kV8, dc8, pm8, an8, ct8, sl8, rfl, l8, e8⟩, k8⟩
  have b8 := F8.binds (ps := ["test", "owns"]) fun _ _ _ _ _ us hl => match us, hl with | [_, _], _ => rfl
  have m8 := PySem.W.mg_of X G a8
  have F9 : FunC K "ready_comparison" "ready_comparison" sRC f9 _ c9 := ⟨⟨oc9, od9, kV9, dc9, pm9, an9, ct9, sl9, rfl, l9, e9⟩, k9⟩
  have b9 := F9.binds (ps := ["kind", "left", "right"]) fun _ _ _ _ _ us hl => match us, hl with | [_, _, _], _ => rfl
  have m9 := PySem.W.mg_of X G a9
  have F10 := fun_mk (st := sWhole) l10 e10 k10
  have b10 := F10.binds (ps := ["thing"]) fun _ _ _ _ _ _ us hl => match us, hl with | [_], _ => rfl
  have m10 := PySem.W.mg_of X G a10
  have F11 := fun_mk (st := sWithin) l11 e11 k11
  have b11 := F11.binds (ps := ["thing", "least", "most"]) fun _ _ _ _ _ _ us hl => match us, hl with | [_, _, _], _ => rfl
  have m11 := PySem.W.mg_of X G a11
  have F12 := fun_mk (st := sName) l12 e12 k12
  have b12 := F12.binds (ps := ["thing"]) fun _ _ _ _ _ _ us hl => match us, hl with | [_], _ => rfl
  have m12 := PySem.W.mg_of X G a12
  have F13 := fun_mk (st := sIsExpr) l13 e13 k13
  have b13 := F13.binds (ps := ["thing", "boxes", "words"]) fun _ _ _ _ _ _ us hl => match us, hl with | [_, _, _], _ => rfl
  have m13 := PySem.W.mg_of X G a13
  have F14 := fun_mk (st := sIsTest) l14 e14 k14
  have b14 := F14.binds (ps := ["thing", "boxes", "words"]) fun _ _ _ _ _ _ us hl => match us, hl with | [_, _, _], _ => rfl
  have m14 := PySem.W.mg_of X G a14
  have F15 := fun_mk (st := sExFits) l15 e15 k15
  have b15 := F15.binds (ps := ["thing", "boxes", "words", "deep"]) fun _ _ _ _ _ _ us hl => match us, hl with | [_, _, _, _], _ => rfl
  have m15 := PySem.W.mg_of X G a15
  have F16 := fun_mk (st := sTsFits) l16 e16 k16
  have b16 := F16.binds (ps := ["thing", "boxes", "words", "deep"]) fun _ _ _ _ _ _ us hl => match us, hl with | [_, _, _, _], _ => rfl
  have m16 := PySem.W.mg_of X G a16
  have F17 := fun_mk (st := sRow) l17 e17 k17
  have b17 := F17.binds (ps := ["thing"]) fun _ _ _ _ _ _ us hl => match us, hl with | [_], _ => rfl
  have m17 := PySem.W.mg_of X G a17
  have F18 := fun_mk (st := sCount) l18 e18 k18
  have b18 := F18.binds (ps := ["term"]) fun _ _ _ _ _ _ us hl => match us, hl with | [_], _ => rfl
  have m18 := PySem.W.mg_of X G a18
  have F19 := fun_mk (st := sBody) l19 e19 k19
  have b19 := F19.binds (ps := ["thing", "boxes", "words", "beneath"]) fun _ _ _ _ _ _ us hl => match us, hl with | [_, _, _, _], _ => rfl
  have m19 := PySem.W.mg_of X G a19
  have F20 := fun_mk (st := sBFits) l20 e20 k20
  have b20 := F20.binds (ps := ["thing", "boxes", "words", "beneath", "deep"]) fun _ _ _ _ _ _ us hl => match us, hl with | [_, _, _, _, _], _ => rfl
  have m20 := PySem.W.mg_of X G a20
  have F21 := fun_mk (st := sSFits) l21 e21 k21
  have b21 := F21.binds (ps := ["step", "boxes", "words", "beneath", "deep"]) fun _ _ _ _ _ _ us hl => match us, hl with | [_, _, _, _, _], _ => rfl
  have m21 := PySem.W.mg_of X G a21
  have F22 := fun_mk (st := sAll) l22 e22 k22
  have b22 := F22.binds (ps := ["body"]) fun _ _ _ _ _ _ us hl => match us, hl with | [_], _ => rfl
  have m22 := PySem.W.mg_of X G a22
  have F23 := fun_mk (st := sWithinB) l23 e23 k23
  have b23 := F23.binds (ps := ["step"]) fun _ _ _ _ _ _ us hl => match us, hl with | [_], _ => rfl
  have m23 := PySem.W.mg_of X G a23
  have F24 := fun_mk (st := sPlc) l24 e24 k24
  have b24 := F24.binds (ps := ["program", "name"]) fun _ _ _ _ _ _ us hl => match us, hl with | [_, _], _ => rfl
  have m24 := PySem.W.mg_of X G a24
  have F25 := fun_mk (st := sRP) l25 e25 k25
  have b25 := F25.binds (ps := ["room"]) fun _ _ _ _ _ _ us hl => match us, hl with | [_], _ => rfl
  have m25 := PySem.W.mg_of X G a25
  have F26 := fun_mk (st := sBSz) l26 e26 k26
  have b26 := F26.binds (ps := ["body"]) fun _ _ _ _ _ _ us hl => match us, hl with | [_], _ => rfl
  have m26 := PySem.W.mg_of X G a26
  have F27 := fun_mk (st := sSSz) l27 e27 k27
  have b27 := F27.binds (ps := ["step"]) fun _ _ _ _ _ _ us hl => match us, hl with | [_], _ => rfl
  have m27 := PySem.W.mg_of X G a27
  have F28 := fun_mk (st := sBeg) l28 e28 k28
  have b28 := F28.binds (ps := ["body", "at", "behind"]) fun _ _ _ _ _ _ us hl => match us, hl with | [_, _, _], _ => rfl
  have m28 := PySem.W.mg_of X G a28
  have F29 := fun_mk (st := sABody) l29 e29 k29
  have b29 := F29.binds (ps := ["found", "body", "behind"]) fun _ _ _ _ _ _ us hl => match us, hl with | [_, _, _], _ => rfl
  have m29 := PySem.W.mg_of X G a29
  have F30 := fun_mk (st := sAStep) l30 e30 k30
  have b30 := F30.binds (ps := ["found", "step", "behind"]) fun _ _ _ _ _ _ us hl => match us, hl with | [_, _, _], _ => rfl
  have m30 := PySem.W.mg_of X G a30
  have F31 := fun_mk (st := sAIf) l31 e31 k31
  have b31 := F31.binds (ps := ["found", "step", "behind"]) fun _ _ _ _ _ _ us hl => match us, hl with | [_, _, _], _ => rfl
  have m31 := PySem.W.mg_of X G a31
  have F32 := fun_mk (st := sAFor) l32 e32 k32
  have b32 := F32.binds (ps := ["found", "step", "behind"]) fun _ _ _ _ _ _ us hl => match us, hl with | [_, _, _], _ => rfl
  have m32 := PySem.W.mg_of X G a32
  have F33 := fun_mk (st := sACall) l33 e33 k33
  have b33 := F33.binds (ps := ["found", "step", "behind"]) fun _ _ _ _ _ _ us hl => match us, hl with | [_, _, _], _ => rfl
  have m33 := PySem.W.mg_of X G a33
  have F34 := fun_mk (st := sMe) l34 e34 k34
  have b34 := F34.binds (ps := ["program", "name"]) fun _ _ _ _ _ _ us hl => match us, hl with | [_, _], _ => rfl
  have m34 := PySem.W.mg_of X G a34
  have F35 := fun_mk (st := sNB) l35 e35 k35
  have b35 := F35.binds (ps := ["numbers", "body", "at", "behind", "weights"]) fun _ _ _ _ _ _ us hl => match us, hl with | [_, _, _, _, _], _ => rfl
  have m35 := PySem.W.mg_of X G a35
  have F36 := fun_mk (st := sNW) l36 e36 k36
  have b36 := F36.binds (ps := ["numbers", "step", "at", "behind", "weights"]) fun _ _ _ _ _ _ us hl => match us, hl with | [_, _, _, _, _], _ => rfl
  have m36 := PySem.W.mg_of X G a36
  have F37 := fun_mk (st := sMH) l37 e37 k37
  have b37 := F37.binds (ps := ["program", "name", "thing"]) fun _ _ _ _ _ _ us hl => match us, hl with | [_, _, _], _ => rfl
  have m37 := PySem.W.mg_of X G a37
  have F38 := fun_mk (st := sAre) l38 e38 k38
  have b38 := F38.binds (ps := ["thing", "many", "least"]) fun _ _ _ _ _ _ us hl => match us, hl with | [_, _, _], _ => rfl
  have m38 := PySem.W.mg_of X G a38
  have F39 := fun_mk (st := sFa) l39 e39 k39
  have b39 := F39.binds (ps := ["found", "at", "numbers", "fors", "weights"]) fun _ _ _ _ _ _ us hl => match us, hl with | [_, _, _, _, _], _ => rfl
  have m39 := PySem.W.mg_of X G a39
  have F40 := fun_mk (st := sBWs) l40 e40 k40
  have b40 := F40.binds (ps := ["program"]) fun _ _ _ _ _ _ us hl => match us, hl with | [_], _ => rfl
  have m40 := PySem.W.mg_of X G a40
  have F41 := fun_mk (st := sBW) l41 e41 k41
  have b41 := F41.binds (ps := ["body", "weights"]) fun _ _ _ _ _ _ us hl => match us, hl with | [_, _], _ => rfl
  have m41 := PySem.W.mg_of X G a41
  have F42 := fun_mk (st := sSW) l42 e42 k42
  have b42 := F42.binds (ps := ["step", "weights"]) fun _ _ _ _ _ _ us hl => match us, hl with | [_, _], _ => rfl
  have m42 := PySem.W.mg_of X G a42
  have F43 := fun_mk (st := sTW) l43 e43 k43
  have b43 := F43.binds (ps := ["step", "weights"]) fun _ _ _ _ _ _ us hl => match us, hl with | [_, _], _ => rfl
  have m43 := PySem.W.mg_of X G a43
  have F44 := fun_mk (st := sCW) l44 e44 k44
  have b44 := F44.binds (ps := ["weight"]) fun _ _ _ _ _ _ us hl => match us, hl with | [_], _ => rfl
  have m44 := PySem.W.mg_of X G a44
  have F45 : FunD K "__init__" "Room.__init__" (defArgs sRInit) (defBody sRInit) (defScope sRInit) [] [("above", .str ""), ("boxes", .ref mt1), ("sayings", .ref mt2), ("ask", .non), ("told", .non), ("promise", .non), ("body", .ref mt3)] f45 (PySem.W.fnOf "__init__" "Room.__init__" (defArgs sRInit) (defBody sRInit) (defScope sRInit) .none (.ref D45) dc45 pm45 an45 cd45 ct45) :=
    ⟨⟨oc45, od45, .none, .ref D45, dc45, pm45, an45, cd45, ct45, sl45, rfl, l45, e45, .inl ⟨rfl, rfl⟩, .inr ⟨D45, rfl, fun q hq => by
      simp only [List.mem_cons, List.not_mem_nil, or_false] at hq
      rcases hq with rfl | rfl | rfl | rfl | rfl | rfl | rfl
      · exact ⟨_, w45_0, ⟨_, rfl⟩⟩
      · exact ⟨_, w45_1, rfl⟩
      · exact ⟨_, w45_2, rfl⟩
      · exact ⟨_, w45_3, rfl⟩
      · exact ⟨_, w45_4, rfl⟩
      · exact ⟨_, w45_5, rfl⟩
      · exact ⟨_, w45_6, rfl⟩⟩⟩, k45⟩
  have F46 := fun_mk (st := sPInit) l46 e46 k46
  have b46 := F46.binds (ps := ["self", "rooms"]) fun _ _ _ _ _ _ us hl => match us, hl with | [_, _], _ => rfl
  have F47 := fun_mk (st := sRms) l47 e47 k47
  have b47 := F47.binds (ps := ["self"]) fun _ _ _ _ _ _ us hl => match us, hl with | [_], _ => rfl
  have F48 := fun_mk (st := sRO) l48 e48 k48
  have b48 := F48.binds (ps := ["self", "name"]) fun _ _ _ _ _ _ us hl => match us, hl with | [_, _], _ => rfl
  have F49 := fun_mk (st := sBen) l49 e49 k49
  have b49 := F49.binds (ps := ["self", "name"]) fun _ _ _ _ _ _ us hl => match us, hl with | [_, _], _ => rfl
  have F50 := fun_mk (st := sRooms) l50 e50 k50
  have b50 := F50.binds (ps := ["things"]) fun _ _ _ _ _ _ us hl => match us, hl with | [_], _ => rfl
  have m50 := PySem.W.mg_of X G a50
  have F51 := fun_mk (st := sFault) l51 e51 k51
  have b51 := F51.binds (ps := ["rooms", "at"]) fun _ _ _ _ _ _ us hl => match us, hl with | [_, _], _ => rfl
  have m51 := PySem.W.mg_of X G a51
  have F52 := fun_mk (st := sNameF) l52 e52 k52
  have b52 := F52.binds (ps := ["rooms", "at"]) fun _ _ _ _ _ _ us hl => match us, hl with | [_, _], _ => rfl
  have m52 := PySem.W.mg_of X G a52
  have F53 := fun_mk (st := sAboveF) l53 e53 k53
  have b53 := F53.binds (ps := ["rooms", "at"]) fun _ _ _ _ _ _ us hl => match us, hl with | [_, _], _ => rfl
  have m53 := PySem.W.mg_of X G a53
  have F54 := fun_mk (st := sFloor) l54 e54 k54
  have b54 := F54.binds (ps := ["rooms", "at"]) fun _ _ _ _ _ _ us hl => match us, hl with | [_, _], _ => rfl
  have m54 := PySem.W.mg_of X G a54
  have F55 := fun_mk (st := sBoxesF) l55 e55 k55
  have b55 := F55.binds (ps := ["boxes"]) fun _ _ _ _ _ _ us hl => match us, hl with | [_], _ => rfl
  have m55 := PySem.W.mg_of X G a55
  have F56 := fun_mk (st := sBoxF) l56 e56 k56
  have b56 := F56.binds (ps := ["box"]) fun _ _ _ _ _ _ us hl => match us, hl with | [_], _ => rfl
  have m56 := PySem.W.mg_of X G a56
  have F57 := fun_mk (st := sSaysF) l57 e57 k57
  have b57 := F57.binds (ps := ["room"]) fun _ _ _ _ _ _ us hl => match us, hl with | [_], _ => rfl
  have m57 := PySem.W.mg_of X G a57
  have F58 := fun_mk (st := sFirstF) l58 e58 k58
  have b58 := F58.binds (ps := ["room"]) fun _ _ _ _ _ _ us hl => match us, hl with | [_], _ => rfl
  have m58 := PySem.W.mg_of X G a58
  have F59 := fun_mk (st := sOtherF) l59 e59 k59
  have b59 := F59.binds (ps := ["room"]) fun _ _ _ _ _ _ us hl => match us, hl with | [_], _ => rfl
  have m59 := PySem.W.mg_of X G a59
  have F60 := fun_mk (st := sToldF) l60 e60 k60
  have b60 := F60.binds (ps := ["room"]) fun _ _ _ _ _ _ us hl => match us, hl with | [_], _ => rfl
  have m60 := PySem.W.mg_of X G a60
  have F61 := fun_mk (st := sBodyF) l61 e61 k61
  have b61 := F61.binds (ps := ["rooms", "at", "words"]) fun _ _ _ _ _ _ us hl => match us, hl with | [_, _, _], _ => rfl
  have m61 := PySem.W.mg_of X G a61
  have F62 := fun_mk (st := sNames) l62 e62 k62
  have b62 := F62.binds (ps := ["room"]) fun _ _ _ _ _ _ us hl => match us, hl with | [_], _ => rfl
  have m62 := PySem.W.mg_of X G a62
  have F63 := fun_mk (st := sBag) l63 e63 k63
  have b63 := F63.binds (ps := ["_law_script", "_law_at"]) fun _ _ _ _ _ _ us hl => match us, hl with | [_, _], _ => rfl
  have m63 := PySem.W.mg_of X G a63
  have F64 := fun_mk (st := sTake) l64 e64 k64
  have b64 := F64.binds (ps := ["_law_bag_here", "_law_many"]) fun _ _ _ _ _ _ us hl => match us, hl with | [_, _], _ => rfl
  have m64 := PySem.W.mg_of X G a64
  have F65 := fun_mk (st := sNicks) l65 e65 k65
  have b65 := F65.binds (ps := ["_law_bag_here", "_law_many"]) fun _ _ _ _ _ _ us hl => match us, hl with | [_, _], _ => rfl
  have m65 := PySem.W.mg_of X G a65
  have F66 := fun_mk (st := sExpr) l66 e66 k66
  have b66 := F66.binds (ps := ["_law_bag_here", "_law_info", "_law_deep"]) fun _ _ _ _ _ _ us hl => match us, hl with | [_, _, _], _ => rfl
  have m66 := PySem.W.mg_of X G a66
  have F67 := fun_mk (st := sTest) l67 e67 k67
  have b67 := F67.binds (ps := ["_law_bag_here", "_law_info", "_law_deep"]) fun _ _ _ _ _ _ us hl => match us, hl with | [_, _, _], _ => rfl
  have m67 := PySem.W.mg_of X G a67
  have F68 := fun_mk (st := sStep) l68 e68 k68
  have b68 := F68.binds (ps := ["_law_bag_here", "_law_info", "_law_deep", "_law_left"]) fun _ _ _ _ _ _ us hl => match us, hl with | [_, _, _, _], _ => rfl
  have m68 := PySem.W.mg_of X G a68
  have F69 := fun_mk (st := sSteps) l69 e69 k69
  have b69 := F69.binds (ps := ["_law_bag_here", "_law_info", "_law_deep", "_law_left"]) fun _ _ _ _ _ _ us hl => match us, hl with | [_, _, _, _], _ => rfl
  have m69 := PySem.W.mg_of X G a69
  have F70 := fun_mk (st := sRoom) l70 e70 k70
  have b70 := F70.binds (ps := ["_law_bag_here", "_law_nick", "_law_upper", "_law_lower", "_law_sizes"]) fun _ _ _ _ _ _ us hl => match us, hl with | [_, _, _, _, _], _ => rfl
  have m70 := PySem.W.mg_of X G a70
  have F71 := fun_mk (st := sProg) l71 e71 k71
  have b71 := F71.binds (ps := ["_law_bag_here", "_law_many", "_law_sizes"]) fun _ _ _ _ _ _ us hl => match us, hl with | [_, _, _], _ => rfl
  have m71 := PySem.W.mg_of X G a71
  have F72 := fun_mk (st := sLW) l72 e72 k72
  have b72 := F72.binds (ps := ["_law_tree", "_law_steps_here"]) fun _ _ _ _ _ _ us hl => match us, hl with | [_, _], _ => rfl
  have m72 := PySem.W.mg_of X G a72
  have F73 := fun_mk (st := sLH) l73 e73 k73
  have b73 := F73.binds (ps := ["_law_tree", "_law_one"]) fun _ _ _ _ _ _ us hl => match us, hl with | [_, _], _ => rfl
  have m73 := PySem.W.mg_of X G a73
  have F74 := fun_mk (st := sRgs) l74 e74 k74
  have b74 := F74.binds (ps := ["_law_steps_here", "_law_rings_here", "_law_many"]) fun _ _ _ _ _ _ us hl => match us, hl with | [_, _, _], _ => rfl
  have m74 := PySem.W.mg_of X G a74
  have F75 := fun_mk (st := sLF) l75 e75 k75
  have b75 := F75.binds (ps := ["_law_tree", "_law_rows", "_law_at", "_law_paper"]) fun _ _ _ _ _ _ us hl => match us, hl with | [_, _, _, _], _ => rfl
  have m75 := PySem.W.mg_of X G a75
  have F76 := fun_mk (st := sLN) l76 e76 k76
  have b76 := F76.binds (ps := ["_law_some", "_law_many", "_law_least"]) fun _ _ _ _ _ _ us hl => match us, hl with | [_, _, _], _ => rfl
  have m76 := PySem.W.mg_of X G a76
  have F77 := fun_mk (st := sIM) l77 e77 k77
  have b77 := F77.binds (ps := ["_law_tree", "_law_one", "_law_paper"]) fun _ _ _ _ _ _ us hl => match us, hl with | [_, _, _], _ => rfl
  have m77 := PySem.W.mg_of X G a77
  have F78 := fun_mk (st := sLaw) l78 e78 k78
  have m78 := PySem.W.mg_of X G a78
  have y_isinstance := PySem.W.mg_none_of X G z1
  have y_int := PySem.W.mg_none_of X G z2
  have y_bool := PySem.W.mg_none_of X G z3
  have y_str := PySem.W.mg_none_of X G z4
  have y_tuple := PySem.W.mg_none_of X G z5
  have y_len := PySem.W.mg_none_of X G z6
  have y_all := PySem.W.mg_none_of X G z7
  have y_sum := PySem.W.mg_none_of X G z8
  have y_list := PySem.W.mg_none_of X G z9
  have y_max := PySem.W.mg_none_of X G z10
  have y_min := PySem.W.mg_none_of X G z11
  have y_range := PySem.W.mg_none_of X G z12
  have y_abs := PySem.W.mg_none_of X G z13
  have y_reversed := PySem.W.mg_none_of X G z14
  have y_set := PySem.W.mg_none_of X G z15
  have y_sorted := PySem.W.mg_none_of X G z16
  have y_repr := PySem.W.mg_none_of X G z17
  have y_enumerate := PySem.W.mg_none_of X G z18
  let T : List NTab := [(P7, fun _ _ => qReady), (P8, fun _ _ => qRT), (P9, fun _ _ => qRC)]
  refine ⟨PySem.W.fnOf "law" "law" (defArgs sLaw) (defBody sLaw) (defScope sLaw) .none kV78 dc78 pm78 an78 cd78 ct78, [(c7, P7), (c8, P8), (c9, P9)], spLaw K T, fun p hp => by
      simp only [List.mem_cons, List.not_mem_nil, or_false] at hp
      rcases hp with rfl | rfl | rfl
      · exact t7
      · exact t8
      · exact t9, fun p hp => by
      simp only [List.mem_cons, List.not_mem_nil, or_false] at hp
      rcases hp with rfl | rfl | rfl
      · exact n7
      · exact n8
      · exact n9, fun p hp => by
      simp only [List.mem_cons, List.not_mem_nil, or_false] at hp
      rcases hp with rfl | rfl | rfl
      · exact PySem.W.codeHd_of_K X q7
      · exact PySem.W.codeHd_of_K X q8
      · exact PySem.W.codeHd_of_K X q9, fun s v => .of_eq rfl, fun H a ns hl t hS => ⟨a, ns, rfl, hS, hl, ?_, fun _ => rfl⟩, fun base _ _ TB => ?_⟩
  · intro p hp
    simp only [T, List.mem_cons, List.not_mem_nil, or_false] at hp
    rcases hp with rfl | rfl | rfl
    · exact TabN.nil (t (c7, P7) (by simp))
    · exact TabN.nil (t (c8, P8) (by simp))
    · exact TabN.nil (t (c9, P9) (by simp))
  have TB7 : TabB base mg c7 P7 := TB (c7, P7) (by simp)
  have TB8 : TabB base mg c8 P8 := TB (c8, P8) (by simp)
  have TB9 : TabB base mg c9 P9 := TB (c9, P9) (by simp)
  have hm7 : (P7, fun _ _ => qReady) ∈ T := by simp [T]
  have hm8 : (P8, fun _ _ => qRT) ∈ T := by simp [T]
  have hm9 : (P9, fun _ _ => qRC) ∈ T := by simp [T]
  have ne7_8 : P7 ≠ P8 := by
    intro z
    have := PySem.W.codeHd_of_K X q7
    have := PySem.W.codeHd_of_K X q8
    exact x_ne7_8 z
  have ne7_9 : P7 ≠ P9 := by
    intro z
    have := PySem.W.codeHd_of_K X q7
    have := PySem.W.codeHd_of_K X q9
    exact x_ne7_9 z
  have ne8_9 : P8 ≠ P9 := by
    intro z
    have := PySem.W.codeHd_of_K X q8
    have := PySem.W.codeHd_of_K X q9
    exact x_ne8_9 z
  have hu7 : ∀ p ∈ T, p.1 = P7 → p.2 = fun _ _ => qReady := by
    intro p hp e
    simp only [T, List.mem_cons, List.not_mem_nil, or_false] at hp
    rcases hp with rfl | rfl | rfl
    · rfl
    · exact absurd e (Ne.symm ne7_8)
    · exact absurd e (Ne.symm ne7_9)
  have hu8 : ∀ p ∈ T, p.1 = P8 → p.2 = fun _ _ => qRT := by
    intro p hp e
    simp only [T, List.mem_cons, List.not_mem_nil, or_false] at hp
    rcases hp with rfl | rfl | rfl
    · exact absurd e (ne7_8)
    · rfl
    · exact absurd e (Ne.symm ne8_9)
  have hu9 : ∀ p ∈ T, p.1 = P9 → p.2 = fun _ _ => qRC := by
    intro p hp e
    simp only [T, List.mem_cons, List.not_mem_nil, or_false] at hp
    rcases hp with rfl | rfl | rfl
    · exact absurd e (ne7_9)
    · exact absurd e (ne8_9)
    · rfl
  have kd : ∀ (x : Str) (g : Addr), PySem.W.nsIn K D x = some (some (.ref g)) → KDct K w D x (.ref g) := fun x g e => ⟨es, en, _, dl, dk, e, rfl⟩
  have Dd_ : DeedsT l.prog w K mg base := ⟨D, PySem.W.mg_of X G da, fun d => by
    cases d with
    | plus => exact ⟨f1, kd _ _ d_plus, k1, (FnOk.raw (ok_plus F1) b1 .nil).imp fun vs H Q E h => by rw [List.append_nil]; exact h⟩
    | less => exact ⟨f2, kd _ _ d_less, k2, (FnOk.raw (ok_less F2) b2 .nil).imp fun vs H Q E h => by rw [List.append_nil]; exact h⟩
    | times => exact ⟨f3, kd _ _ d_times, k3, (FnOk.raw (ok_times F3) b3 .nil).imp fun vs H Q E h => by rw [List.append_nil]; exact h⟩
    | over => exact ⟨f4, kd _ _ d_over, k4, (FnOk.raw (ok_over F4) b4 .nil).imp fun vs H Q E h => by rw [List.append_nil]; exact h⟩
    | rest => exact ⟨f5, kd _ _ d_rest, k5, (FnOk.raw (ok_rest F5) b5 .nil).imp fun vs H Q E h => by rw [List.append_nil]; exact h⟩⟩
  have O : Own mg := ⟨y_isinstance, y_int, y_bool, y_str, y_tuple, y_len, y_all, y_sum, y_list⟩
  have TR : RoomC K C := ⟨⟨rpg, rhd, rpo, rsa⟩, r_name, r_above, r_boxes, r_sayings, r_ask, r_told, r_promise, r_body⟩
  have TI : RoomI K C := ⟨x_cl, x_get, x_tk, x_mro, kit_self⟩
  have TP : ProgC K CP := ⟨⟨ppg, phd, ppo, psa⟩, p_held, p_drawn⟩
  have TH : HeldC K CP := ⟨⟨ppg, phd, ppo, psa⟩, p_held⟩
  have mR := PySem.W.mg_of X G xC
  have mP := PySem.W.mg_of X G xCP
  have kD : KKeys K w D deedWords := ⟨es, en, dl, dk, dkd, by decide, dsm, by rw [sizeLine_eq]; decide⟩
  have hkw : ∀ H, SqT K H kw (keptWords.map V.str) := fun H => .inr ⟨ot, _, nt, kwl, kwc, kwd, by (show 5 ≤ sizeLine; rw [sizeLine_eq]; decide), .cons ⟨_, rfl⟩ (.cons ⟨_, rfl⟩ (.cons ⟨_, rfl⟩ (.cons ⟨_, rfl⟩ (.cons ⟨_, rfl⟩ .nil))))⟩
  have GRW := all_ready F7 TB7 hm7 hu7 Dd_ m7 b7 6
  have GC := ok_rc (P := l.prog) (w := w) F9 TB9 hm9 hu9
  have GRT := all_rt F8 TB8 hm8 hu8 m8 b8 GRW m7 k7 b7 GC m9 k9 b9 5
  have GH := ok_holds F6 GRT m8 k8 b8 y_list
  have Gwhole := ok_whole (P := l.prog) (w := w) (mg := mg) (base := base) O F10
  have Gwithin := ok_within F11 Gwhole b10 k10 m10
  have Grow := ok_row (P := l.prog) (w := w) (mg := mg) (base := base) O F17
  have Gcount := all_count (P := l.prog) (w := w) (mg := mg) (base := base) O F18 b18 m18 6
  have Gef := all_ef O F15 b15 m15 Grow b17 k17 m17 Gwithin b11 k11 m11 (PySem.W.mg_of X G da) kD 6
  have Gtf := all_tf O F16 b16 m16 Grow b17 k17 m17 Gef b15 k15 m15 6
  have Gie := ok_isE F13 Gef b15 k15 m15 Gcount b18 k18 m18 (PySem.W.mg_of X G c_MOST_DEEP_TERM) (PySem.W.mg_of X G c_MOST_TERMS)
  have Git := ok_isT F14 Gtf b16 k16 m16 Gcount b18 k18 m18 (PySem.W.mg_of X G c_MOST_DEEP_TERM) (PySem.W.mg_of X G c_MOST_TERMS)
  have Gbf := all_bf O F21 F20 b21 k21 m21 (PySem.W.mg_of X G c_MOST_IN_BODY) b20 k20 m20 Grow b17 k17 m17 Gwithin b11 k11 m11 Gie b13 k13 m13 Git b14 k14 m14 4
  have Gwb := ok_wb (P := l.prog) (w := w) (mg := mg) (base := base) F23
  have Gas := all_all F22 b22 m22 Gwb b23 k23 m23 5
  have Gib := ok_isB O F19 Gbf b20 k20 m20 Gas b22 k22 m22 (PySem.W.mg_of X G c_MOST_DEEP_STEP) (PySem.W.mg_of X G c_MOST_STEPS)
  have Gname := ok_name (P := l.prog) (w := w) (mg := mg) (base := base) O F12 (PySem.W.mg_of X G kwn) hkw (PySem.W.mg_of X G ltn)
  have Gbn := ok_bn (P := l.prog) (w := w) (mg := mg) (base := base) TR F62
  have Gbox := ok_boxf O F56 Gname b12 k12 m12 Gwithin b11 k11 m11 (PySem.W.mg_of X G c_MOST_BOUND)
  have Gboxes := ok_boxesf O y_set y_sorted F55 (PySem.W.mg_of X G c_MOST_BOXES) Gbox b56 k56 m56
  have Gtold := ok_toldf O TR F60 Gwithin b11 k11 m11 (PySem.W.mg_of X G c_MOST_BOUND) Gie b13 k13 m13 Gbn b62 k62 m62
  have Gfirst := ok_firstf (P := l.prog) (w := w) (mg := mg) (base := base) TR F58
  have Gother := ok_otherf TR F59 Gwithin b11 k11 m11 (PySem.W.mg_of X G c_MOST_BOUND) Git b14 k14 m14 Gtold b60 k60 m60
  have Grooms := ok_rooms (P := l.prog) (w := w) (mg := mg) (base := base) O TR TI mR F50 (PySem.W.mg_of X G c_MOST_ROOMS)
  have Gnamef := ok_namef TR F52 Gname b12 k12 m12
  have Gbodyf := ok_bodyf TR F61 Gib b19 k19 m19 Gbn b62 k62 m62
  have Gfloor := ok_floor (P := l.prog) (w := w) (mg := mg) (base := base) TR y_reversed F54
  have Gabove := ok_abovef TR F53 Gfloor b54 k54 m54 (PySem.W.mg_of X G c_MOST_FLOORS)
  have Gsays := ok_saysf O TR F57 (PySem.W.mg_of X G c_MOST_SAYINGS) Git b14 k14 m14 F6 GH m6
  have Gfault := ok_fault TR F51 Gnamef b52 k52 m52 Gabove b53 k53 m53 Gboxes b55 k55 m55 Gsays b57 k57 m57 Gfirst b58 k58 m58 Gother b59 k59 m59 Gbodyf b61 k61 m61
  have Gpinit := ok_pinit O y_range TP F46 Grooms b50 k50 m50 Gfault b51 k51 m51
  have MkP : Mk K CP f46 := ⟨pmk, a46, i46, pkc⟩
  have MP : Mk1 l.prog w K mg base 30 "Program" CP _ (spPInit T C CP) := ⟨f46, _, mP, MkP, Gpinit, b46⟩
  have RM := room_m (P := l.prog) (w := w) (base := base) TR mR ⟨rmk, a45, i45, rkc⟩ F45
  have Dcw : Df l.prog w K mg base 1 "call_weight" _ spCW := ⟨f44, _, m44, k44, ok_cw F44, b44⟩
  have Dsw := all_sw O y_max ⟨f42, _, m42, F42, b42⟩ ⟨f41, _, m41, F41, b41⟩ ⟨f43, _, m43, F43, b43⟩ Dcw 4
  have Dbw : Df l.prog w K mg base 13 "body_weight" _ (spBW 4) := ⟨f41, _, m41, k41, ok_bw O F41 Dsw, b41⟩
  have Mrms : Mf l.prog w K mg base CP 1 "rooms" _ (spRms CP) := ⟨f47, _, ⟨a47, i47, k47⟩, ok_rms TH F47, b47⟩
  have Mro : Mf l.prog w K mg base CP 1 "room_of" _ (spRO C CP) := ⟨f48, _, ⟨a48, i48, k48⟩, ok_ro TR TH F48, b48⟩
  have Mben : Mf l.prog w K mg base CP 2 "beneath" _ (spBen C CP) := ⟨f49, _, ⟨a49, i49, k49⟩, ok_ben TR TH Mro F49, b49⟩
  have Dbws : Df l.prog w K mg base 14 "body_weights" _ (spBWs C CP) := ⟨f40, _, m40, k40, ok_bws TR TH Mrms Dbw F40, b40⟩
  have SZ := all_ssz (P := l.prog) (w := w) (mg := mg) (base := base) O F27 b27 m27 F26 b26 m26 4
  have DY : Df l.prog w K mg base 8 "step_size" _ (spSSz 4) := ⟨f27, _, m27, k27, SZ, b27⟩
  obtain ⟨DAB, DZ, DG⟩ := all_ab (P := l.prog) (w := w) (mg := mg) (base := base) O y_enumerate ⟨f29, _, m29, F29, b29⟩ ⟨f30, _, m30, F30, b30⟩ ⟨f31, _, m31, F31, b31⟩ ⟨f32, _, m32, F32, b32⟩ ⟨f33, _, m33, F33, b33⟩ ⟨f28, _, m28, F28, b28⟩ ⟨f26, _, m26, F26, b26⟩ ⟨f27, _, m27, F27, b27⟩ 4
  have Drp : Df l.prog w K mg base 15 "room_places" _ (spRP C) := ⟨f25, _, m25, k25, ok_rp TR F25 DAB DZ DG, b25⟩
  have Dpl : Df l.prog w K mg base 16 "places" _ (spPlc C CP) := ⟨f24, _, m24, k24, ok_plc TH Mro Drp F24, b24⟩
  have Dtw := tw_of ⟨f43, _, m43, F43, b43⟩ Dbw
  have Dwb : Df l.prog w K mg base 1 "bodies_within" _ spWB := ⟨f23, _, m23, k23, Gwb, b23⟩
  have Dals := all_als ⟨f22, _, m22, F22, b22⟩ Dwb 5
  have Dnb := (all_nw ⟨f35, _, m35, F35, b35⟩ ⟨f36, _, m36, F36, b36⟩ Dbw Dsw DY DZ 4 (Nat.le_refl _)).2
  have Gme := ok_me (P := l.prog) (w := w) (base := base) O TR TH Mro Dbws Dpl Dnb Dals Dtw F34
  have Diw : Df l.prog w K mg base 1 "is_whole" _ spWhole := ⟨f10, _, m10, k10, Gwhole, b10⟩
  have Daf : Df l.prog w K mg base 2 "are_from" _ spAre := ⟨f38, _, m38, k38, ok_are O Diw F38, b38⟩
  have Dfl : Df l.prog w K mg base 2 "falls" _ spFa := ⟨f39, _, m39, k39, ok_fl Dcw F39, b39⟩
  have Dmh : Df l.prog w K mg base 17 "measure_holds" _ (spMH C CP) := ⟨f37, _, m37, k37, ok_mh O y_range Dpl Daf Dbws Dfl F37, b37⟩
  have Dml : Df l.prog w K mg base 17 "measure_holds" _ (spML C CP) := ⟨f37, _, m37, k37, ok_ml O Dpl F37, b37⟩
  have Lbag : Df l.prog w K mg base 1 "_law_bag" _ (spBag K) := ⟨f63, _, m63, k63, ok_bag y_len y_abs y_int F63, b63⟩
  have Ltake : Df l.prog w K mg base 1 "_law_take" _ spTake := ⟨f64, _, m64, k64, ok_take (P := l.prog) (w := w) (mg := mg) (base := base) F64, b64⟩
  have Lnicks : Df l.prog w K mg base 2 "_law_nicks" _ spNicks := ⟨f65, _, m65, k65, ok_nicks y_range F65 Ltake, b65⟩
  have Lex2 := all_expr y_len ⟨f66, _, m66, F66, b66⟩ Ltake 2
  have Lex3 := all_expr y_len ⟨f66, _, m66, F66, b66⟩ Ltake 3
  have Lts := all_test ⟨f67, _, m67, F67, b67⟩ Ltake Lex2 2
  have Lst := all_steps_ y_range y_tuple y_len ⟨f69, _, m69, F69, b69⟩ ⟨f68, _, m68, F68, b68⟩ Ltake Lex3 Lts 4
  have Lroom : Df l.prog w K mg base 14 "_law_room" _ (spRoom C) := ⟨f70, _, m70, k70, ok_room O y_sorted F70 RM Ltake Lnicks Lex2 Lst, b70⟩
  have Lprog : Df l.prog w K mg base 32 "_law_program" _ (spProg T C CP) := ⟨f71, _, m71, k71, ok_prog O y_range F71 Ltake Lnicks Lroom MP, b71⟩
  have Llw := all_lw TR TH y_max Mro ⟨f72, _, m72, F72, b72⟩ 45
  have Llh : Df l.prog w K mg base 47 "_law_home" _ (spLH C CP) := ⟨f73, _, m73, k73, ok_lh TR Llw F73, b73⟩
  have Lrg := all_rg (P := l.prog) (w := w) (base := base) ⟨f74, _, m74, F74, b74⟩ 5
  have Lln : Df l.prog w K mg base 1 "_law_are_numbers" _ spAre := ⟨f76, _, m76, k76, ok_ln O F76, b76⟩
  have Llf : Df l.prog w K mg base 47 "_law_falls" _ (spLF C CP) := ⟨f75, _, m75, k75, ok_lf TR TH Mro Llw F75, b75⟩
  have Lim : Df l.prog w K mg base 48 "_law_is_measure" _ (spIM C CP) := ⟨f77, _, m77, k77, ok_im O y_range y_max TR Dpl Lrg Lln Llf Llh F77, b77⟩
  have N : Fns l.prog w K mg base T C CP := ⟨O, y_range, y_repr, TR, TH, Mrms, Lbag, Lprog, ⟨f34, _, m34, k34, Gme, b34⟩, ⟨f34, _, _, m34, k34, Gme, kb_me F34⟩, Lim, Dmh, Dml⟩
  exact ok_law N y_max y_min F78
end Any
open PySem PySem.W PyProof.Rows
set_option maxRecDepth 100000 in
set_option maxHeartbeats 0 in
theorem PySem.Challenge.cw_anystore_k51_measures_told_holds : PySem.Challenge.rw_anystore_k51_measures_told.Holds := by
  w_on; o_law; k_head; (case hw => w_witness2)
  k_fill
  refine Any.walk_gT (l := PySem.Challenge.rw_anystore_k51_measures_told) (n := 63) (k := 61) (x := "_law_script") rfl (by decide) rfl ⟨rfl, by decide, by decide⟩ (fun w h Y => PySem.W.km_in_of Y) ?F
  case F =>
    intro w mg fa h Y KX G hmg
    have hT8 := PySem.W.km_tabs_of Y
    refine' Any.all_mk KX G hmg ?xC ?xCP ?a1 ?l1 ?e1 ?k1 ?a2 ?l2 ?e2 ?k2 ?a3 ?l3 ?e3 ?k3 ?a4 ?l4 ?e4 ?k4 ?a5 ?l5 ?e5 ?k5 ?a6 ?l6 ?e6 ?k6 ?w6_0 ?w6_1 ?a7 ?l7 ?e7 ?k7 ?g7 ?v7 ?q7 ?n7 ?t7 ?a8 ?l8 ?e8 ?k8 ?g8 ?v8 ?q8 ?n8 ?t8 ?a9 ?l9 ?e9 ?k9 ?g9 ?v9 ?q9 ?n9 ?t9 ?a10 ?l10 ?e10 ?k10 ?a11 ?l11 ?e11 ?k11 ?a12 ?l12 ?e12 ?k12 ?a13 ?l13 ?e13 ?k13 ?a14 ?l14 ?e14 ?k14 ?a15 ?l15 ?e15 ?k15 ?a16 ?l16 ?e16 ?k16 ?a17 ?l17 ?e17 ?k17 ?a18 ?l18 ?e18 ?k18 ?a19 ?l19 ?e19 ?k19 ?a20 ?l20 ?e20 ?k20 ?a21 ?l21 ?e21 ?k21 ?a22 ?l22 ?e22 ?k22 ?a23 ?l23 ?e23 ?k23 ?a24 ?l24 ?e24 ?k24 ?a25 ?l25 ?e25 ?k25 ?a26 ?l26 ?e26 ?k26 ?a27 ?l27 ?e27 ?k27 ?a28 ?l28 ?e28 ?k28 ?a29 ?l29 ?e29 ?k29 ?a30 ?l30 ?e30 ?k30 ?a31 ?l31 ?e31 ?k31 ?a32 ?l32 ?e32 ?k32 ?a33 ?l33 ?e33 ?k33 ?a34 ?l34 ?e34 ?k34 ?a35 ?l35 ?e35 ?k35 ?a36 ?l36 ?e36 ?k36 ?a37 ?l37 ?e37 ?k37 ?a38 ?l38 ?e38 ?k38 ?a39 ?l39 ?e39 ?k39 ?a40 ?l40 ?e40 ?k40 ?a41 ?l41 ?e41 ?k41 ?a42 ?l42 ?e42 ?k42 ?a43 ?l43 ?e43 ?k43 ?a44 ?l44 ?e44 ?k44 ?a45 ?i45 ?l45 ?e45 ?k45 ?w45_0 ?w45_1 ?w45_2 ?w45_3 ?w45_4 ?w45_5 ?w45_6 ?a46 ?i46 ?l46 ?e46 ?k46 ?a47 ?i47 ?l47 ?e47 ?k47 ?a48 ?i48 ?l48 ?e48 ?k48 ?a49 ?i49 ?l49 ?e49 ?k49 ?a50 ?l50 ?e50 ?k50 ?a51 ?l51 ?e51 ?k51 ?a52 ?l52 ?e52 ?k52 ?a53 ?l53 ?e53 ?k53 ?a54 ?l54 ?e54 ?k54 ?a55 ?l55 ?e55 ?k55 ?a56 ?l56 ?e56 ?k56 ?a57 ?l57 ?e57 ?k57 ?a58 ?l58 ?e58 ?k58 ?a59 ?l59 ?e59 ?k59 ?a60 ?l60 ?e60 ?k60 ?a61 ?l61 ?e61 ?k61 ?a62 ?l62 ?e62 ?k62 ?a63 ?l63 ?e63 ?k63 ?a64 ?l64 ?e64 ?k64 ?a65 ?l65 ?e65 ?k65 ?a66 ?l66 ?e66 ?k66 ?a67 ?l67 ?e67 ?k67 ?a68 ?l68 ?e68 ?k68 ?a69 ?l69 ?e69 ?k69 ?a70 ?l70 ?e70 ?k70 ?a71 ?l71 ?e71 ?k71 ?a72 ?l72 ?e72 ?k72 ?a73 ?l73 ?e73 ?k73 ?a74 ?l74 ?e74 ?k74 ?a75 ?l75 ?e75 ?k75 ?a76 ?l76 ?e76 ?k76 ?a77 ?l77 ?e77 ?k77 ?a78 ?l78 ?e78 ?k78 ?da ?dl ?dk ?d_plus ?d_less ?d_times ?d_over ?d_rest ?rpg ?rhd ?rpo ?rsa ?rmk ?rkc ?r_name ?r_above ?r_boxes ?r_sayings ?r_ask ?r_told ?r_promise ?r_body ?ppg ?phd ?ppo ?psa ?pmk ?pkc ?p_held ?p_drawn ?x_cl ?x_get ?x_tk ?x_mro ?dkd ?dsm ?kwn ?kwl ?kwc ?kwd ?ltn ?c_MOST_DEEP_TERM ?c_MOST_TERMS ?c_MOST_DEEP_STEP ?c_MOST_STEPS ?c_MOST_IN_BODY ?c_MOST_ROOMS ?c_MOST_FLOORS ?c_MOST_BOXES ?c_MOST_SAYINGS ?c_MOST_BOUND ?z1 ?z2 ?z3 ?z4 ?z5 ?z6 ?z7 ?z8 ?z9 ?z10 ?z11 ?z12 ?z13 ?z14 ?z15 ?z16 ?z17 ?z18 ?x_ne7_8 ?x_ne7_9 ?x_ne8_9
    (case xC => k_is)
    (case xCP => k_is)
    (case a1 => k_is)
    (case l1 => k_is)
    (case e1 => k_is)
    (case k1 => k_is)
    (case a2 => k_is)
    (case l2 => k_is)
    (case e2 => k_is)
    (case k2 => k_is)
    (case a3 => k_is)
    (case l3 => k_is)
    (case e3 => k_is)
    (case k3 => k_is)
    (case a4 => k_is)
    (case l4 => k_is)
    (case e4 => k_is)
    (case k4 => k_is)
    (case a5 => k_is)
    (case l5 => k_is)
    (case e5 => k_is)
    (case k5 => k_is)
    (case a6 => k_is)
    (case l6 => k_is)
    (case e6 => k_is)
    (case k6 => k_is)
    (case w6_0 => k_is)
    (case w6_1 => k_is)
    (case a7 => k_is)
    (case l7 => k_is)
    (case e7 => k_is)
    (case k7 => k_is)
    (case g7 => k_is)
    (case v7 => rfl)
    (case q7 => kernel_rfl)
    (case n7 => kernel_rfl)
    (case t7 => exact hT8 _ (by k_mem))
    (case a8 => k_is)
    (case l8 => k_is)
    (case e8 => k_is)
    (case k8 => k_is)
    (case g8 => k_is)
    (case v8 => rfl)
    (case q8 => kernel_rfl)
    (case n8 => kernel_rfl)
    (case t8 => exact hT8 _ (by k_mem))
    (case a9 => k_is)
    (case l9 => k_is)
    (case e9 => k_is)
    (case k9 => k_is)
    (case g9 => k_is)
    (case v9 => rfl)
    (case q9 => kernel_rfl)
    (case n9 => kernel_rfl)
    (case t9 => exact hT8 _ (by k_mem))
    (case a10 => k_is)
    (case l10 => k_is)
    (case e10 => k_is)
    (case k10 => k_is)
    (case a11 => k_is)
    (case l11 => k_is)
    (case e11 => k_is)
    (case k11 => k_is)
    (case a12 => k_is)
    (case l12 => k_is)
    (case e12 => k_is)
    (case k12 => k_is)
    (case a13 => k_is)
    (case l13 => k_is)
    (case e13 => k_is)
    (case k13 => k_is)
    (case a14 => k_is)
    (case l14 => k_is)
    (case e14 => k_is)
    (case k14 => k_is)
    (case a15 => k_is)
    (case l15 => k_is)
    (case e15 => k_is)
    (case k15 => k_is)
    (case a16 => k_is)
    (case l16 => k_is)
    (case e16 => k_is)
    (case k16 => k_is)
    (case a17 => k_is)
    (case l17 => k_is)
    (case e17 => k_is)
    (case k17 => k_is)
    (case a18 => k_is)
    (case l18 => k_is)
    (case e18 => k_is)
    (case k18 => k_is)
    (case a19 => k_is)
    (case l19 => k_is)
    (case e19 => k_is)
    (case k19 => k_is)
    (case a20 => k_is)
    (case l20 => k_is)
    (case e20 => k_is)
    (case k20 => k_is)
    (case a21 => k_is)
    (case l21 => k_is)
    (case e21 => k_is)
    (case k21 => k_is)
    (case a22 => k_is)
    (case l22 => k_is)
    (case e22 => k_is)
    (case k22 => k_is)
    (case a23 => k_is)
    (case l23 => k_is)
    (case e23 => k_is)
    (case k23 => k_is)
    (case a24 => k_is)
    (case l24 => k_is)
    (case e24 => k_is)
    (case k24 => k_is)
    (case a25 => k_is)
    (case l25 => k_is)
    (case e25 => k_is)
    (case k25 => k_is)
    (case a26 => k_is)
    (case l26 => k_is)
    (case e26 => k_is)
    (case k26 => k_is)
    (case a27 => k_is)
    (case l27 => k_is)
    (case e27 => k_is)
    (case k27 => k_is)
    (case a28 => k_is)
    (case l28 => k_is)
    (case e28 => k_is)
    (case k28 => k_is)
    (case a29 => k_is)
    (case l29 => k_is)
    (case e29 => k_is)
    (case k29 => k_is)
    (case a30 => k_is)
    (case l30 => k_is)
    (case e30 => k_is)
    (case k30 => k_is)
    (case a31 => k_is)
    (case l31 => k_is)
    (case e31 => k_is)
    (case k31 => k_is)
    (case a32 => k_is)
    (case l32 => k_is)
    (case e32 => k_is)
    (case k32 => k_is)
    (case a33 => k_is)
    (case l33 => k_is)
    (case e33 => k_is)
    (case k33 => k_is)
    (case a34 => k_is)
    (case l34 => k_is)
    (case e34 => k_is)
    (case k34 => k_is)
    (case a35 => k_is)
    (case l35 => k_is)
    (case e35 => k_is)
    (case k35 => k_is)
    (case a36 => k_is)
    (case l36 => k_is)
    (case e36 => k_is)
    (case k36 => k_is)
    (case a37 => k_is)
    (case l37 => k_is)
    (case e37 => k_is)
    (case k37 => k_is)
    (case a38 => k_is)
    (case l38 => k_is)
    (case e38 => k_is)
    (case k38 => k_is)
    (case a39 => k_is)
    (case l39 => k_is)
    (case e39 => k_is)
    (case k39 => k_is)
    (case a40 => k_is)
    (case l40 => k_is)
    (case e40 => k_is)
    (case k40 => k_is)
    (case a41 => k_is)
    (case l41 => k_is)
    (case e41 => k_is)
    (case k41 => k_is)
    (case a42 => k_is)
    (case l42 => k_is)
    (case e42 => k_is)
    (case k42 => k_is)
    (case a43 => k_is)
    (case l43 => k_is)
    (case e43 => k_is)
    (case k43 => k_is)
    (case a44 => k_is)
    (case l44 => k_is)
    (case e44 => k_is)
    (case k44 => k_is)
    (case a45 => k_is)
    (case i45 => k_is)
    (case l45 => k_is)
    (case e45 => k_is)
    (case k45 => k_is)
    (case w45_0 => k_is)
    (case w45_1 => k_is)
    (case w45_2 => k_is)
    (case w45_3 => k_is)
    (case w45_4 => k_is)
    (case w45_5 => k_is)
    (case w45_6 => k_is)
    (case a46 => k_is)
    (case i46 => k_is)
    (case l46 => k_is)
    (case e46 => k_is)
    (case k46 => k_is)
    (case a47 => k_is)
    (case i47 => k_is)
    (case l47 => k_is)
    (case e47 => k_is)
    (case k47 => k_is)
    (case a48 => k_is)
    (case i48 => k_is)
    (case l48 => k_is)
    (case e48 => k_is)
    (case k48 => k_is)
    (case a49 => k_is)
    (case i49 => k_is)
    (case l49 => k_is)
    (case e49 => k_is)
    (case k49 => k_is)
    (case a50 => k_is)
    (case l50 => k_is)
    (case e50 => k_is)
    (case k50 => k_is)
    (case a51 => k_is)
    (case l51 => k_is)
    (case e51 => k_is)
    (case k51 => k_is)
    (case a52 => k_is)
    (case l52 => k_is)
    (case e52 => k_is)
    (case k52 => k_is)
    (case a53 => k_is)
    (case l53 => k_is)
    (case e53 => k_is)
    (case k53 => k_is)
    (case a54 => k_is)
    (case l54 => k_is)
    (case e54 => k_is)
    (case k54 => k_is)
    (case a55 => k_is)
    (case l55 => k_is)
    (case e55 => k_is)
    (case k55 => k_is)
    (case a56 => k_is)
    (case l56 => k_is)
    (case e56 => k_is)
    (case k56 => k_is)
    (case a57 => k_is)
    (case l57 => k_is)
    (case e57 => k_is)
    (case k57 => k_is)
    (case a58 => k_is)
    (case l58 => k_is)
    (case e58 => k_is)
    (case k58 => k_is)
    (case a59 => k_is)
    (case l59 => k_is)
    (case e59 => k_is)
    (case k59 => k_is)
    (case a60 => k_is)
    (case l60 => k_is)
    (case e60 => k_is)
    (case k60 => k_is)
    (case a61 => k_is)
    (case l61 => k_is)
    (case e61 => k_is)
    (case k61 => k_is)
    (case a62 => k_is)
    (case l62 => k_is)
    (case e62 => k_is)
    (case k62 => k_is)
    (case a63 => k_is)
    (case l63 => k_is)
    (case e63 => k_is)
    (case k63 => k_is)
    (case a64 => k_is)
    (case l64 => k_is)
    (case e64 => k_is)
    (case k64 => k_is)
    (case a65 => k_is)
    (case l65 => k_is)
    (case e65 => k_is)
    (case k65 => k_is)
    (case a66 => k_is)
    (case l66 => k_is)
    (case e66 => k_is)
    (case k66 => k_is)
    (case a67 => k_is)
    (case l67 => k_is)
    (case e67 => k_is)
    (case k67 => k_is)
    (case a68 => k_is)
    (case l68 => k_is)
    (case e68 => k_is)
    (case k68 => k_is)
    (case a69 => k_is)
    (case l69 => k_is)
    (case e69 => k_is)
    (case k69 => k_is)
    (case a70 => k_is)
    (case l70 => k_is)
    (case e70 => k_is)
    (case k70 => k_is)
    (case a71 => k_is)
    (case l71 => k_is)
    (case e71 => k_is)
    (case k71 => k_is)
    (case a72 => k_is)
    (case l72 => k_is)
    (case e72 => k_is)
    (case k72 => k_is)
    (case a73 => k_is)
    (case l73 => k_is)
    (case e73 => k_is)
    (case k73 => k_is)
    (case a74 => k_is)
    (case l74 => k_is)
    (case e74 => k_is)
    (case k74 => k_is)
    (case a75 => k_is)
    (case l75 => k_is)
    (case e75 => k_is)
    (case k75 => k_is)
    (case a76 => k_is)
    (case l76 => k_is)
    (case e76 => k_is)
    (case k76 => k_is)
    (case a77 => k_is)
    (case l77 => k_is)
    (case e77 => k_is)
    (case k77 => k_is)
    (case a78 => k_is)
    (case l78 => k_is)
    (case e78 => k_is)
    (case k78 => k_is)
    (case da => k_is)
    (case dl => k_is)
    (case dk => k_keys)
    (case d_plus => k_is)
    (case d_less => k_is)
    (case d_times => k_is)
    (case d_over => k_is)
    (case d_rest => k_is)
    (case rpg => k_is)
    (case rhd => k_is)
    (case rpo => k_is)
    (case rsa => k_is)
    (case rmk => k_is)
    (case rkc => k_is)
    (case r_name => k_is)
    (case r_above => k_is)
    (case r_boxes => k_is)
    (case r_sayings => k_is)
    (case r_ask => k_is)
    (case r_told => k_is)
    (case r_promise => k_is)
    (case r_body => k_is)
    (case ppg => k_is)
    (case phd => k_is)
    (case ppo => k_is)
    (case psa => k_is)
    (case pmk => k_is)
    (case pkc => k_is)
    (case p_held => k_is)
    (case p_drawn => k_is)
    (case x_cl => k_is)
    (case x_get => k_is)
    (case x_tk => k_is)
    (case x_mro => k_is)
    (case dkd => exact ⟨⟨_, rfl⟩, ⟨_, rfl⟩, ⟨_, rfl⟩, ⟨_, rfl⟩, ⟨_, rfl⟩, trivial⟩)
    (case dsm => rfl)
    (case kwn => k_is)
    (case kwl => k_is)
    (case kwc => rfl)
    (case kwd => rfl)
    (case ltn => k_is)
    (case c_MOST_DEEP_TERM => k_is)
    (case c_MOST_TERMS => k_is)
    (case c_MOST_DEEP_STEP => k_is)
    (case c_MOST_STEPS => k_is)
    (case c_MOST_IN_BODY => k_is)
    (case c_MOST_ROOMS => k_is)
    (case c_MOST_FLOORS => k_is)
    (case c_MOST_BOXES => k_is)
    (case c_MOST_SAYINGS => k_is)
    (case c_MOST_BOUND => k_is)
    (case z1 => k_is)
    (case z2 => k_is)
    (case z3 => k_is)
    (case z4 => k_is)
    (case z5 => k_is)
    (case z6 => k_is)
    (case z7 => k_is)
    (case z8 => k_is)
    (case z9 => k_is)
    (case z10 => k_is)
    (case z11 => k_is)
    (case z12 => k_is)
    (case z13 => k_is)
    (case z14 => k_is)
    (case z15 => k_is)
    (case z16 => k_is)
    (case z17 => k_is)
    (case z18 => k_is)
    (case x_ne7_8 => exact (by decide))
    (case x_ne7_9 => exact (by decide))
    (case x_ne8_9 => exact (by decide))
#print axioms PySem.Challenge.cw_anystore_k51_measures_told_holds
