import PyProof.Rows.All
import Wide.All
import OpenK.AllK
import Wide.FinOn
import HandS.ForMost
import HandS.Wide
import HandS.Defaults
import HandS.More
import HandS.RaiseMore
import HandS.Style
import PyProof.ReprRoads
import PyProof.SliceMore
import HandS.IterVal
import HandS.Nested
import HandS.Conv
import KE.KDictList
import KE.KNestM
import HandS.EndTab
import HandS.NoneIn
import HandS.Star
import HandS.IsInst
import HandS.Iter
import HandS.MakeKwOnly
import HandS.Rev
import HandS.DictComp
import HandS.Flow
import HandS.Set
import HandS.TupSets
import HandS.DeepEq
import HandS.ForExc
import HandS.ExcInit
import HandS.ExcField
import HandS.ExcIs
import HandS.FStr
import KE.KExcIs
import PyProof.EqKinds
import PyProof.FactsAll.dict_1
import HandS.Dict
import KE.DataMinMax
import HandS.SortKw
import HandS.Small
import PyProof.StrBlock2
import PyProof.StrBlockL
import PyProof.StrLaws
import PyProof.FitsReplace
import HandS.Lambda
import HandS.TryMany
import PyProof.StrLawsRepr
import KE.KStrOpen
import PySem.Challenge.RW_anystore_k50_beats_to_home
set_option Elab.async false
set_option linter.all false
set_option maxRecDepth 100000
namespace Any
open L2 PySem PyProof.Rows
open PySem.Spec

/-! ### the texts of data (repr) -/
/-- a thing without parts -/
inductive Flat : V → PyData → Prop
  | non : Flat .non .none
  | bl (b : Bool) : Flat (.bl b) (.bool b)
  | int (i : Int) : Flat (.int i) (.int i)
  | str (x : Str) : Flat (.str x) (.str x)
def keyD : Key → PyData
  | .inl i => .int i
  | .inr x => .str x
/-- what repr may be asked of: lists and tuples at any depth, dicts of flat things -/
inductive Shows (K : PySem.W.Frag) (H : Hp) : Addr → PyData → Prop
  | seq {a : Addr} {d : PyData} : Dp K H (.ref a) d → d.hasDict = false → Shows K H a d
  | dct {a : Addr} {kvs : List (Key × V)} {ds : List (PyData × PyData)} : H a = some (.dK kvs) →
      Paired (fun (p : Key × V) (q : PyData × PyData) => q.1 = keyD p.1 ∧ Flat p.2 q.2) kvs ds → Shows K H a (.dict ds)

section
variable {P : Program} {w : World} {h : Heap}
theorem flat_reads {v : V} {u : Value} {d : PyData} (f : Flat v d) (r : RelV v u) : Reads h u d [] := by
  cases f with
  | non => cases r; exact .none
  | bl b => cases r; exact .bool b
  | int i => obtain ⟨t, rfl⟩ := r; exact .int i t
  | str x => obtain ⟨t, rfl⟩ := r; exact .str x t
theorem key_reads {k : Key} {u : Value} (e : keyIs k u = true) : Reads h u (keyD k) [] := by
  rcases keyIs_shape e with ⟨i, t, rfl, rfl⟩ | ⟨x, t, rfl, rfl⟩
  · exact .int i t
  · exact .str x t
theorem dct_reads : ∀ {kvs : List (Key × V)} {ds : List (PyData × PyData)} {vs : List (Key × Value)} {es : List DictEntry},
    Paired (fun (p : Key × V) (q : PyData × PyData) => q.1 = keyD p.1 ∧ Flat p.2 q.2) kvs ds → KV kvs vs → Pairs (mixKind P w) es vs →
    ReadsAll h (es.map (·.key)) (ds.map (·.1)) [] ∧ ReadsAll h (es.map (·.val)) (ds.map (·.2)) []
  | _, _, _, _, .nil, r, q => by
    cases r; cases q; exact ⟨.nil, .nil⟩
  | _, _, _, _, .cons z zs, r, q => by
    cases r with
    | cons r1 r2 =>
      cases q with
      | cons q1 q2 q3 =>
        obtain ⟨a, b⟩ := dct_reads zs r2 q3
        rename_i p ps d dd vv vr e es
        have k1 : keyIs vv.1 e.key = true := q1
        refine ⟨?_, ?_⟩
        · have c := ReadsAll.cons (as := []) (bs := []) (key_reads (h := h) k1) a
          rw [← r1.1, ← z.1] at c
          exact c
        · have c := ReadsAll.cons (as := []) (bs := []) (flat_reads (h := h) z.2 r1.2) b
          rw [← q2] at c
          exact c
end

section
variable {X : Cx}
def rRepr (K : PySem.W.Frag) : List V → Hp → VK → Prop := fun vs H Q => ∃ a d, vs = [.ref a] ∧ Shows K H a d ∧ d.showable = true ∧ d.depth ≤ 60 ∧ d.shown.length ≤ sizeLine ∧ Q (.str d.shown) H
theorem call_repr (hG : X.A.guards = some []) (hu : X.A.units + 70 < cLine) : CallR X (.builtin "repr") (rRepr X.K) := by
  intro pins s σ H xs us Q I r h
  obtain ⟨a, d, rfl, hd, hs, hdp, hz, q⟩ := h
  obtain ⟨u, rfl, ru⟩ := vals1 r
  cases ru
  have key : ∃ as, Reads s.heap (.ref a) d as ∧ (d.hasDict = true → sysModules ∉ as) := by
    cases hd with
    | seq h1 h2 =>
      obtain ⟨as, q1⟩ := Dp.reads I d _ _ h1 rfl
      exact ⟨as, q1, fun z => by rw [h2] at z; cases z⟩
    | dct h1 h2 =>
      obtain ⟨_, ns, vs, kv, o, es, ep, e1, e2, e3, _, e5, _⟩ := I.hok a _ h1
      obtain ⟨q1, q2⟩ := dct_reads (h := s.heap) h2 kv e5
      refine ⟨_, Reads.dict e1 e2.1 e3 q1 q2, fun _ z => ?_⟩
      rcases List.mem_append.mp z with z | z
      · rcases List.mem_cons.mp z with z | z
        · rw [← z] at ns
          simp at ns
        · cases z
      · cases z
  obtain ⟨as, rd, sm⟩ := key
  refine repr_of_reads' rd hs sm hG (by omega) (fun _ _ e => e) (fun h' u tk hk => ?_) hz
  exact ⟨.str d.shown, H, I.kept hk, ⟨_, rfl⟩, q⟩

/-! ### xs[::e], e being 1 or -1 -/
theorem pick_one (items : Array Value) : slicePick items none none (some 1) = items := by
  have e : slicePick items none none (some 1) = slicePick items none none none := rfl
  rw [e, slicePick_all]
def tStep (K : PySem.W.Frag) (te ts : TE) : TE := fun σ H Q => te σ H fun x H1 => ts σ H1 fun y H2 => ∃ a xs, x = .ref a ∧ SqL K H2 a xs ∧
  ((y = .int 1 ∧ ∀ p, H2 p = none → Q (.ref p) (upd H2 p (.lst xs))) ∨ (y = .int (-1) ∧ ∀ p, H2 p = none → Q (.ref p) (upd H2 p (.lst xs.reverse))))
theorem pe_step {e st : Expr} {te ts : TE} {p3 pos : Pos} (he : PE X e te) (hst : PE X st ts) :
    PE X (.Subscript e (.Slice none none (some st) p3) pos) (tStep X.K te ts) := by
  refine ⟨fun pins s σ H Q I h => ?_⟩
  refine Subscript_ (thn (he.run pins s σ H _ I h) fun v s1 ⟨x, H1, I1, r1, q1⟩ => ?_)
  refine wpAny_Slice (thn (po_none.run pins s1 σ H1 (fun o H2 => o = none ∧ H2 = H1) I1 ⟨rfl, rfl⟩) fun vl s2 ⟨l, H2, I2, pl, el, e2⟩ => ?_)
  subst el e2
  refine thn (po_none.run pins s2 σ H2 (fun o H3 => o = none ∧ H3 = H2) I2 ⟨rfl, rfl⟩) fun vu s3 ⟨u, H3, I3, pu, eu, e3⟩ => ?_
  subst eu e3
  rw [evalPart_some]
  refine thn (hst.run pins s3 σ H3 _ I3 q1) fun vs s4 ⟨y, H4, I4, r4, a, xs, ex, hx, q⟩ => ?_
  subst ex
  cases r1
  have I5 : Inv X pins σ H4 { s4 with heap := s4.heap.push { cls := .type "slice", data := .fields #[vl, vu, vs] } } := I4.kept (t' := s4.toks) fun b ob q => Heap.get?_push_of_some _ q
  obtain ⟨its, r, ht, hz⟩ := I5.list hx
  have hlen := r.length
  have two : ∃ k : Int, y = .int k ∧ k ≠ 0 ∧ ∃ zs ws, Vals ws zs ∧ slicePick its.toArray none none (some k) = zs.toArray ∧ ws.length ≤ sizeLine ∧ ∀ p, H4 p = none → Q (.ref p) (upd H4 p (.lst ws)) := by
    rcases q with ⟨ey, q⟩ | ⟨ey, q⟩
    · exact ⟨1, ey, by decide, its, xs, r, pick_one _, hz, q⟩
    · exact ⟨-1, ey, by decide, its.reverse, xs.reverse, r.reverse, by rw [PySem.W.krv_pick], by rw [List.length_reverse]; exact hz, q⟩
  obtain ⟨k, ey, hk, zs, ws, rz, epk, hzs, qq⟩ := two
  subst ey
  obtain ⟨t, rfl⟩ := (show ∃ t, vs = Value.int k t from r4)
  show wpAny (model X.prog X.w) X.A (subscriptTail e (.Slice none none (some st) p3) (.ref a) (.ref s4.heap.objs.size)) (EP X pins σ Q) X.xe _
  refine tail_any (ops := [.ref a, .ref s4.heap.objs.size]) ht.isList.typeIs (PySem.slot_list_getitem.lookup) ?_ (by with_unfolding_all rfl)
  refine wpAny_getItem_list_slice ht.isList (Heap.IsSliceOf.new _ vl vu (.int k t)) pl pu (IsPart.int k t) (by intro z; exact hk (Option.some.inj z)) ?_ (by rw [List.size_toArray]; omega)
  rw [epk]
  refine ⟨.ref _, _, I5.laid (t' := s4.toks) (o := .lst ws) (fun b ob q => Heap.get?_push_of_some _ q) (Nat.le_refl _) ?_, rfl, qq _ (I5.hok.fresh (Nat.le_refl _))⟩
  exact ⟨hzs, _, 0, rz, Heap.get?_push_size _ rfl⟩

/-! ### great powers -/
def CPowW (i j : Int) : Prop := 0 ≤ j ∧ (Builtin.Int.intBits i : Int) * j ≤ 2 ^ 27
theorem op_powW : OpR X (binaryOp .Pow) (rI CPowW fun i j => .int (i ^ j.toNat)) := opI fun _ _ _ _ _ _ _ hc q => pow_int hc.1 hc.2 q
end
end Any
namespace Any
open L2 PySem PyProof.Rows
open PySem.Spec

/-! ### defs that run where no repr is under way -/
section
variable (P : Program) (w : World) (K : PySem.W.Frag) (mg : Str → Option Value) (base : Heap)
/-- as FnOk, for callers with no guard -/
structure FnG (C : CXT) (k : Nat) (f : Addr) (fd : FuncData) (ps : List Str) (sp : Sp) : Prop where
  len : ∀ vs H Q E, sp vs H Q E → vs.length = ps.length
  go : ∀ (A : Around) (out : List Env) (s : Shared) (H : Hp) (args : Args) (us : List Value) (vs : List V) (Q : VK) (E : XK), A.guards = some [] → Room k A →
    Env0 P w K mg base A out s H → BindsTo s fd args (ps.zip us) → Vals vs us → sp vs H Q E → codeAny (model P w) A (.call (.ref f) args) (CR C out P w H s Q E) s
end
section
variable {P : Program} {w : World} {K : PySem.W.Frag} {mg : Str → Option Value} {base : Heap}
theorem FnG.of {C : CXT} {k : Nat} {f : Addr} {fd : FuncData} {ps : List Str} {sp : Sp} (F : FnOk P w K mg base C k f fd ps sp) : FnG P w K mg base C k f fd ps sp :=
  ⟨F.len, fun A out s H args us vs Q E _ hr => F.run A out s H args us vs Q E hr⟩
theorem FnG.mono {C : CXT} {j k : Nat} {f : Addr} {fd : FuncData} {ps : List Str} {sp : Sp} (F : FnG P w K mg base C j f fd ps sp) (h : j ≤ k) : FnG P w K mg base C k f fd ps sp :=
  ⟨F.len, fun A out s H args us vs Q E hg hr => F.go A out s H args us vs Q E hg (hr.mono h)⟩

/-- a def's body, under no guard -/
theorem fn_g {C : CXT} {k : Nat} {f : Addr} {nm ql : Str} {ar : Arguments} {bd : List Stmt} {sc : Scope} {v1 v2 v3 v4 v5 v6 v7 : Value} {a1 a2 : Option Addr} {sl : Array (Option Value)} {N ps : List Str} {sp : Sp}
    (at_ : K.lookup f = some ⟨v7, a2, .func (PySem.W.fnOf nm ql ar bd sc v1 v2 v3 v4 a1 v5 v6), sl⟩) (code : PySem.W.codeIn K v5 ql = true) (S : FnScope N ps sc)
    (ln : ∀ vs H Q E, sp vs H Q E → vs.length = ps.length)
    (hb : ∀ (A : Around) (out : List Env) (s : Shared) (H : Hp) (vs : List V) (Q : VK) (E : XK), A.guards = some [] → Room k (A.deeper (envOfC ql sc s.heap.objs.size f v5)) → sp vs H Q E →
      ∃ t, PSs (cxOf C P w K mg base N ql sc f v5 A out s H E) bd t ∧ t ⟨fun _ H' => Q .non H', Q, fun _ _ => False, fun _ _ => False⟩ (start N vs) H) :
    FnG P w K mg base C (k + 1) f (PySem.W.fnOf nm ql ar bd sc v1 v2 v3 v4 a1 v5 v6) ps sp where
  len := ln
  go A out s H args us vs Q E hg hr e0 hbi rv hsp := by
    have kx : K.In s.heap := e0.mod.kin.keeps (fun b o z => (e0.bs b o z).1)
    have nl : s.heap.NoLimit := e0.mod.nolimit.keeps (fun b o z => (e0.bs b o z).1)
    have kd : ∀ y ∈ ps.zip us, sc.names.lookup y.1 = some .local ∨ (sc.names.lookup y.1 = some .cell ∧ ((cellsFrom (s.heap.objs.size + 1) sc.names []).lookup y.1).isSome = true) := by
      rintro ⟨n, v⟩ hy
      have z := S.par n (List.of_mem_zip hy).1
      exact z.elim .inl (fun z => .inr ⟨z, PySem.W.cellsFrom_some _ _ _ (.inl z)⟩)
    refine codeAny_call_function hr.depth (kx _ _ at_) rfl S.co S.gen rfl (PySem.W.codeRec_of kx code) (hbi _ _ _ _ (wpAny_newFunctionEnv_cells S.kind kd (fun env he s1 x => ?_)))
    subst he
    obtain ⟨t, ht, hq⟩ := hb A out s H vs Q E hg (hr.deeper _) hsp
    have I := inv_start (CX := C) (E := E) S hr.hd e0 (ln _ _ _ _ hsp) rv x
    refine ⟨nl.keeps x.toInCall.keep, codeAny_func (wpAny_mono (ht.run [] s1 (start N vs) H _ I hq) (fun fl s' hs => ?_) (fun _ _ z => z))⟩
    cases fl with
    | ret u => obtain ⟨v, σ', H', J, r', q⟩ := hs; exact ⟨v, H', J.os, J.bare, J.base, J.hok, r', q⟩
    | next => obtain ⟨σ', H', J, q⟩ := hs; exact ⟨.non, H', J.os, J.bare, J.base, J.hok, rfl, q⟩
    | brk => exact hs.elim fun _ z => z.elim fun _ z => z.2.elim
    | cont => exact hs.elim fun _ z => z.elim fun _ z => z.2.elim
theorem fun_g {x ql : Str} {st : Stmt} {f : Addr} {fd : FuncData} {N ps : List Str} {k : Nat} {sp : Sp} (F : Fun K x ql st f fd) (S : FnScope N ps (defScope st)) (ln : ∀ vs H Q E, sp vs H Q E → vs.length = ps.length)
    (hb : ∀ (cv : Value) (A : Around) (out : List Env) (s : Shared) (H : Hp) (vs : List V) (Q : VK) (E : XK), A.guards = some [] → Room k (A.deeper (envOfC ql (defScope st) s.heap.objs.size f cv)) → sp vs H Q E →
      ∃ t, PSs (cxOf CX0 P w K mg base N ql (defScope st) f cv A out s H E).nox (defBody st) t ∧ t ⟨fun _ H' => Q .non H', Q, fun _ _ => False, fun _ _ => False⟩ (start N vs) H) : FnG P w K mg base CX0 (k + 1) f fd ps sp := by
  obtain ⟨_, _, _, _, _, _, cv, _, _, rfl, lk, hc⟩ := F.ex
  refine fn_g lk hc S ln fun A out s H vs Q E hg hr hs => ?_
  obtain ⟨t, h, q⟩ := hb cv A out s H vs Q E hg hr hs
  exact ⟨t, h.nox, q⟩
end

section
variable {X : Cx} {C : CXT} {k : Nat} {f : Addr} {fd : FuncData} {ps : List Str} {sp : Sp} {ds : List V} {us0 : List Value} {E : XK} {x : Str} {p pos : Pos} {e : Expr} {es : List Expr} {t : TA}
/-- a call of such a def -/
theorem pe_callG (F : FnG X.prog X.w X.K X.mg X.base C k f fd ps sp) (hG : X.A.guards = some []) (hr : Room k X.A) (hg : Gl X x) (hm : X.mg x = some (.ref f)) (hk : PySem.W.keepIn X.K (.ref f) = true) (hb : Binds X.K fd ps us0) (hd : Vals ds us0)
    (hx : Passes C X E) (ha : PA X (e :: es) t) (h1 : (x == ("__debug__" : Str)) = false := by decide) (h2 : starEach (e :: es) X.env = (false, eval e X.env) :: starEach es X.env := by rfl)
    (h3 : (backTo pos (starEach es X.env)).any (·.1) = false := by rfl) : PE X (.Call (.Name x p) (e :: es) [] pos) (tCall sp ds E t) where
  run pins s σ H Q I h := by
    refine wpAny_Call_Name_kw (ld_glob I hg hm (PySem.W.callWith_K (h₀ := X.base) I.ok.mod.kin hk (thn (ha.run pos pins s σ H _ I h) ?_) h2 h3) h1)
    rintro us s1 ⟨vs, H1, I1, rv, q⟩
    have rr := rv.append hd
    have hl : (us ++ us0).length = ps.length := rr.length.symm.trans (F.len _ _ _ _ q)
    refine ⟨I1.kIn, wpAny_call (codeAny_mono (F.go X.A X.stack s1 H1 _ _ _ Q E hG hr I1.env0 (hb s1 us I1.kIn hl) rr q) ?_)⟩
    rintro (err | fl) s' hq
    · exact hx pins σ H1 s1 err s' I1 hq
    · cases fl with
      | ret u => exact I1.after hq
      | next => cases hq
      | brk => cases hq
      | cont => cases hq

/-- x(e, ..), x a name that holds one of several defs -/
def tCallS (X : Cx) (C : CXT) (k i : Nat) (E : XK) (t : TA) : TE := fun σ H Q => ∃ f sp, FnR X.prog X.w X.K X.mg X.base C k f sp ∧ PySem.W.keepIn X.K (.ref f) = true ∧ σ[i]? = some (some (.ref f)) ∧ t σ H fun vs H1 => sp vs H1 Q E
theorem pe_callS {i : Nat} (hr : Room k X.A) (hx : Passes C X E) (hN : X.N[i]? = some x) (hv : Vis X.env.scope x) (ha : PA X (e :: es) t)
    (h1 : (x == ("__debug__" : Str)) = false := by decide) (h4 : (x == ("__classdict__" : Str)) = false := by decide) (h2 : starEach (e :: es) X.env = (false, eval e X.env) :: starEach es X.env := by rfl)
    (h3 : (backTo pos (starEach es X.env)).any (·.1) = false := by rfl) : PE X (.Call (.Name x p) (e :: es) [] pos) (tCallS X C k i E t) where
  run pins s σ H Q I h := by
    obtain ⟨f, sp, F, hk, hs, h⟩ := h
    exact (ItX.pe_callV (i := i) (p := p) F hr hk hx hN hv ha h1 h4 h2 h3).run pins s σ H Q I ⟨hs, h⟩

/-- f(k = v, ..) alone -/
theorem pe_callK0 {ks : List Str} {g : List Value → List Value → List Value} {gV : List V → List V → List V} {kws : List Keyword} {tk : TA} (F : FnOk X.prog X.w X.K X.mg X.base C k f fd ps sp) (hr : Room k X.A) (hg : Gl X x) (hm : X.mg x = some (.ref f))
    (hk : PySem.W.keepIn X.K (.ref f) = true) (hb : KBn X.K fd ps 0 ks g gV) (hx : Passes C X E) (hkw : PK X kws tk) (hall : (backToKw pos (keywordEach kws X.env)).all (·.1.isSome) = true := by rfl)
    (hks : (backToKw pos (keywordEach kws X.env)).filterMap (·.1) = ks := by rfl) (h1 : (x == ("__debug__" : Str)) = false := by decide)
    (h3 : ((backTo pos (starEach [] X.env)).any (·.1) || (backToKw pos (keywordEach kws X.env)).any (·.1.isNone)) = false := by rfl) :
    PE X (.Call (.Name x p) [] kws pos) (fun σ H Q => tk σ H fun zs H1 => zs.length = ks.length ∧ sp (gV [] zs) H1 Q E) where
  run pins s σ H Q I h := by
    refine wpAny_Call_Name_kw (ld_glob I hg hm ?_ h1)
    refine PySem.W.callWith_KW0 (h₀ := X.base) I.ok.mod.kin hk hall (thn (hkw.run pos pins s σ H _ I h) ?_) h3
    rintro ws s1 ⟨zs, H1, I1, rz, l1, q⟩
    refine ⟨I1.kIn, ?_⟩
    rw [hks]
    exact run_fnN (us := []) (vs := []) F hr hb hx I1 .nil rz rfl l1 q
end

/-! ### the law's call, under no guard -/
section
variable {P : Program} {w : World} {K : PySem.W.Frag} {mg mb : Str → Option Value}
theorem law_g {C : CXT} {k : Nat} {fa a : Addr} {fd : FuncData} {x : Str} {sp : Sp} {s : Shared} {vs : List Value} {ns : List Int}
    (kx : K.In s.heap) (g1 : s.heap.Ns mainGlobals mg) (g2 : s.heap.Ns builtinsNs mb) (g3 : ∀ x : Str, x ≠ "__name__" → mb x = bootBuiltins x) (g4 : s.heap.NoLimit) (g5 : s.gens = #[])
    (la : s.heap.get? a = some { cls := .type "list", data := .seq vs.toArray }) (li : IntsAre vs ns) (ll : ns.length ≤ sizeLine) (hr : Room k callerA)
    (F : ∀ base : Heap, K.In base → base.Ns mainGlobals mg → FnG P w K mg base C k fa fd [x] sp) (bd : ∀ (s : Shared) (u : Value), BindsTo s fd ⟨[u], []⟩ [(x, u)])
    (want : ∀ H : Hp, Only H → SqL K H a (ns.map V.int) → sp [.ref a] H (fun v _ => v = .bl true) fun _ _ _ => False)
    (noC : ∀ H e s', C [] H s (fun _ _ _ => False) e s' → False) :
    codeAny (model P w) callerA (.call (.ref fa) ⟨[.ref a], []⟩) (fun r s' => r = .ok (.ret (.bool true)) ∧ OldK s.heap s'.heap ∧ s'.os = s.os ∧ AllBare s'.gens) s := by
  -- one abstract heap: the script, if the written part has it not
  have pick : ∃ H : Hp, Only H ∧ SqL K H a (ns.map V.int) ∧ HOk P w H s.heap ∧ (∀ b u, H b = some u → b = a) ∧ ((H a).isSome = true → K.lookup a = none) := by
    cases hk : K.lookup a with
    | some o =>
      have z := (kx a o hk).symm.trans la
      cases z
      exact ⟨fun _ => none, fun _ => .inl rfl, .inr ⟨_, vs.toArray, _, hk, rfl, rfl, rfl, by rw [List.size_toArray, li.length]; exact ll, by simpa using vals_ints li⟩, (fun b u z => by cases z), (fun b u z => by cases z), (fun z => by cases z)⟩
    | none =>
      let o : HO := .frz { cls := .type "list", data := .seq vs.toArray } (.lst (ns.map V.int))
      have at_a : ∀ b u, upd (fun _ => none) a o b = some u → b = a ∧ u = o := fun b u z => by
        by_cases hb : b = a
        · subst hb; rw [upd_same] at z; exact ⟨rfl, (Option.some.inj z).symm⟩
        · rw [upd_ne hb] at z; cases z
      refine ⟨upd (fun _ => none) a o, fun b => ?_, .inl (.inr ⟨_, upd_same⟩), fun b u z => ?_, fun b u z => (at_a b u z).1, fun _ => rfl⟩
      · by_cases hb : b = a
        · subst hb; exact .inr ⟨_, _, upd_same⟩
        · exact .inl (by rw [upd_ne hb])
      · obtain ⟨rfl, rfl⟩ := at_a b u z
        exact ⟨la, by rw [List.length_map]; exact ll, vs, _, vals_ints li, la⟩
  obtain ⟨H, hO, hS, hok, hA, hK⟩ := pick
  have free : ∀ {b : Addr} {ob : Obj} {es : Array DictEntry} {n : Nat}, s.heap.get? b = some ob → ob.data = .dict es n → H b = none := by
    intro b ob es n z d
    cases q : H b with
    | none => rfl
    | some u =>
      have z1 := hA b u q
      subst z1
      have z2 := z.symm.trans la
      cases z2
      have d' : Data.seq vs.toArray 0 = Data.dict es n := d
      cases d'
  have ns' : ∀ {b : Addr} {m : Str → Option Value}, s.heap.Ns b m → (hidT s.heap H).Ns b m := by
    rintro b m ⟨o, es, n, z, d, r⟩
    exact ⟨o, es, n, hidT_get z (free z d), d, r⟩
  have kb : K.In (hidT s.heap H) := by
    intro b o z
    refine hidT_get (kx b o z) ?_
    cases q : H b with
    | none => rfl
    | some u =>
      have z1 := hA b u q
      subst z1
      have z2 := hK (by rw [q]; rfl)
      rw [z2] at z
      cases z
  obtain ⟨mc, l1, l2⟩ := g4
  have e0 : Env0 P w K mg (hidT s.heap H) callerA [] s H :=
    { frames := rfl, mod := ⟨kb, ns' g1, ⟨mb, ns' g2, g3⟩, ⟨mc, ns' l1, l2⟩⟩, bs := fun b o z => of_hidT z, bsz := Nat.le_of_eq (hidT_size _ _), funs := trivial, frf := fun b z => (by cases z), hok := hok, bare := .of_eq g5 }
  refine codeAny_mono ((F _ kb (ns' g1)).go callerA [] s H ⟨[.ref a], []⟩ [.ref a] [.ref a] _ _ rfl hr e0 (bd s (.ref a)) (.cons rfl .nil) (want H hO hS)) ?_
  rintro (err | fl) s' h
  · exact (noC H err s' h).elim
  cases fl with
  | next => cases h
  | brk => cases h
  | cont => cases h
  | ret u =>
    obtain ⟨v, H', h1, h2, un, hok', rv, rfl⟩ := h
    cases rv
    refine ⟨rfl, OldK.of_keep (fun b o z => ?_), h1, h2⟩
    cases q : H b with
    | none => exact un.keep b o z q (fun z => by cases z) (fun z => by cases z)
    | some u =>
      rcases hO b with z1 | ⟨ob, xs, z1⟩
      · rw [q] at z1; cases z1
      · have z2 := (hok b _ z1).1
        rw [z] at z2
        cases z2
        exact (hok' b _ (un.frzs b _ _ z1)).1
theorem walk_g {l : PySem.W.OpenLaw} {n k : Nat} {q : Program} {loose : List Str} {XP : (Str → Option Value) → Heap → Prop} {YP : World → Heap → Prop} {d : DefRec} {K : Params → PySem.W.Frag} {sp : PySem.W.Frag → Sp} {x : Str}
    (h1 : l.most = some n) (h2 : n ≤ sizeLine) (h3 : d.params.defaults = []) (hr : Room k callerA) (hY : ∀ (w : World) (h : Heap), YP w h → (K w.params).In h)
    (F : ∀ (w : World) (mg : Str → Option Value) (fa : Addr) (h : Heap), (K w.params).In h → h.Ns mainGlobals mg → mg d.name = some (.ref fa) →
      ∃ fd : FuncData, (∀ (s : Shared) (u : Value), BindsTo s fd ⟨[u], []⟩ [(x, u)]) ∧ ∀ base : Heap, (K w.params).In base → base.Ns mainGlobals mg → FnG l.prog w (K w.params) mg base CX0 k fa fd [x] (sp (K w.params)))
    (want : ∀ (K : PySem.W.Frag) (H : Hp) (a : Addr) (ns : List Int), ns.length ≤ n → Only H → SqL K H a (ns.map V.int) → sp K [.ref a] H (fun v _ => v = .bl true) fun _ _ _ => False) :
    PySem.W.WalkO q loose XP YP l.row.toRowW d [] (fun f vs => PySem.call f vs) := by
  refine Att.attach_call h1 h3 fun w s₀ s₁ mg mb fa o pm cd doc a vs ns G Y _ _ _ hmg hobj hints hlen hg => ?_
  have kx := hY w _ Y
  obtain ⟨fd, hb, hF⟩ := F w mg fa _ kx G.T.g hmg
  exact law_g kx G.T.g G.T.b G.T.builtins G.T.nolimit hg hobj hints (Nat.le_trans hlen h2) hr hF hb (fun H hO hS => want _ H a ns hlen hO hS) (fun _ _ _ z => z)
end
end Any
set_option maxHeartbeats 1000000
namespace Any
open L2 PySem PyProof.Rows LamX NdefX
open PySem.Spec
/-! ### statements, the slots at the return told -/
structure EndR where
  nx : L2.St → Hp → Prop
  rt : V → L2.St → Hp → Prop
abbrev TR := EndR → L2.St → Hp → Prop
def SR (X : Cx) (pins : List (Addr × Obj)) (D : EndR) (f : Flow) (s' : Shared) : Prop :=
  match f with
  | .next => ∃ σ' H', Inv X pins σ' H' s' ∧ D.nx σ' H'
  | .ret u => ∃ v σ' H', Inv X pins σ' H' s' ∧ L2.RelV v u ∧ D.rt v σ' H'
  | _ => False
structure PR (X : Cx) (st : Stmt) (t : TR) : Prop where
  run : ∀ (pins : List (Addr × Obj)) (s : Shared) (σ : L2.St) (H : Hp) (D : EndR), Inv X pins σ H s → t D σ H → wpAny (model X.prog X.w) X.A (exec st X.env) (SR X pins D) X.xe s
structure PRs (X : Cx) (st : List Stmt) (t : TR) : Prop where
  run : ∀ (pins : List (Addr × Obj)) (s : Shared) (σ : L2.St) (H : Hp) (D : EndR), Inv X pins σ H s → t D σ H → wpAny (model X.prog X.w) X.A (execs st X.env) (SR X pins D) X.xe s
section
variable {X : Cx} {st : Stmt} {rest : List Stmt} {t u : TR} {e : Expr} {pos : Pos}
/-- a statement that only goes on -/
def tGo (t : TS) : TR := fun D σ H => t { nx := D.nx, rt := fun _ _ => False } σ H
theorem pr_go {t : TS} (h : PS X st t) : PR X st (tGo t) := by
  refine ⟨fun pins s σ H D I hq => thn (h.run pins s σ H _ I hq) fun f s1 q => ?_⟩
  cases f with
  | next => exact q
  | ret v =>
    obtain ⟨_, _, _, _, _, z⟩ := q
    exact z.elim
  | brk =>
    obtain ⟨_, _, _, z⟩ := q
    exact z.elim
  | cont =>
    obtain ⟨_, _, _, z⟩ := q
    exact z.elim
def tRetR (te : TE) : TR := fun D σ H => te σ H fun v H' => D.rt v σ H'
theorem pr_ret {te : TE} (he : PE X e te) : PR X (.Return (some e) pos) (tRetR te) := by
  refine ⟨fun pins s σ H D I h => ?_⟩
  exact wpAny_Return_some (thn (he.run pins s σ H _ I h) fun v s1 ⟨x, H1, I1, r1, q1⟩ => ⟨x, σ, H1, I1, r1, q1⟩)
def tIfR (c : TT) (t u : TR) : TR := fun D σ H => c σ H fun b H1 => if b = true then t D σ H1 else u D σ H1
theorem pr_if {c : Expr} {a b : List Stmt} {tc : TT} (hc : PT X c tc) (ha : PRs X a t) (hb : PRs X b u) : PR X (.If c a b pos) (tIfR tc t u) := by
  refine ⟨fun pins s σ H D I h => ?_⟩
  refine wpAny_If (thn (hc.run pins s σ H _ I h) fun d s1 ⟨H1, I1, q1⟩ => ?_)
  cases d with
  | true => exact ha.run pins s1 σ H1 D I1 q1
  | false => exact hb.run pins s1 σ H1 D I1 q1
def tSeqR (t u : TR) : TR := fun D σ H => t { D with nx := u D } σ H
def tNextR : TR := fun D σ H => D.nx σ H
theorem prs_nil : PRs X [] tNextR := ⟨fun _ _ σ H _ I h => wpAny_execs_nil ⟨σ, H, I, h⟩⟩
theorem prs_cons (h1 : PR X st t) (h2 : PRs X rest u) : PRs X (st :: rest) (tSeqR t u) := by
  refine ⟨fun pins s σ H D I h => ?_⟩
  refine wpAny_execs_cons (thn (h1.run pins s σ H { D with nx := u D } I h) fun f s1 q => ?_)
  cases f with
  | next =>
    obtain ⟨σ', H', I', q⟩ := q
    exact h2.run pins s1 σ' H' D I' q
  | ret v => exact q
  | brk => exact q.elim
  | cont => exact q.elim
theorem prs_one (h1 : PR X st t) : PRs X [st] t := by
  refine ⟨fun pins s σ H D I h => ?_⟩
  refine wpAny_execs_cons (thn (h1.run pins s σ H D I h) fun f s1 q => ?_)
  cases f with
  | next => exact wpAny_execs_nil q
  | ret v => exact q
  | brk => exact q.elim
  | cont => exact q.elim
end
/-! ### a made lambda -/
structure LF where
  qual : Str
  params : Arguments
  body : Expr
  scope : Scope
  cl : List (Str × Addr)
  c : Addr
/-- the object at f is the lambda F -/
def LamO (f : Addr) (F : LF) : HO := .ext fun h => ∃ (pm ctv : Value), h.get? f = some (PySem.W.kla_obj "<lambda>" F.qual F.params F.body F.scope F.cl pm F.c ctv)
theorem lamO_at {P : Program} {w : World} {H : Hp} {h : Heap} {f : Addr} {F : LF} (hok : HOk P w H h) (e : H f = some (LamO f F)) : ∃ (pm ctv : Value), h.get? f = some (PySem.W.kla_obj "<lambda>" F.qual F.params F.body F.scope F.cl pm F.c ctv) := by
  obtain ⟨z, _, _⟩ := hok f _ e
  exact z
theorem lamO_ne {f : Addr} {F : LF} (ps : Array Value) : LamO f F ≠ .tbl ps := fun z => by
  unfold LamO at z
  cases z
section
variable {X : Cx} {pins : List (Addr × Obj)} {σ : L2.St} {H : Hp} {s : Shared}
theorem inv_lam {F : LF} {t' : Nat} {pm ctv : Value} (I : Inv X pins σ H s) :
    Inv X pins σ (upd H s.heap.objs.size (LamO s.heap.objs.size F)) { s with heap := s.heap.push (PySem.W.kla_obj "<lambda>" F.qual F.params F.body F.scope F.cl pm F.c ctv), toks := t' } := by
  refine I.laid (a := s.heap.objs.size) (fun b u e => Heap.get?_push_of_some _ e) (Nat.le_refl _) ?_
  have e : (s.heap.push (PySem.W.kla_obj "<lambda>" F.qual F.params F.body F.scope F.cl pm F.c ctv)).get? s.heap.objs.size = some (PySem.W.kla_obj "<lambda>" F.qual F.params F.body F.scope F.cl pm F.c ctv) := Heap.get?_push_size _ rfl
  exact ⟨⟨pm, ctv, e⟩, ⟨_, e⟩, fun h1 h2 ⟨p, t, z⟩ st => ⟨p, t, st _ z⟩⟩
/-- a table with one code object more -/
def putTab (H : Hp) (P c' : Addr) (ps : Array Value) (pos : Pos) (q : Str) : Hp := upd (upd H P (.tbl (ps ++ #[rawInt pos.line, rawInt pos.col, .ref c']))) c' (CodeO c' q)
theorem putTab_ext {P c' : Addr} {ps : Array Value} {pos : Pos} {q : Str} (at_ : H P = some (.tbl ps)) (new : H c' = none) : ExtN H (putTab H P c' ps pos q) := fun b o e no => by
  have b1 : b ≠ c' := ne_of_none e new
  have b2 : b ≠ P := fun z => by
    rw [z, at_] at e
    exact no ps (Option.some.inj e).symm
  unfold putTab
  rw [upd_ne b1, upd_ne b2, e]
theorem putTab_tabs {T : List NTab} {nm : Nat → Nat → Str} {P c' : Addr} {ps : Array Value} {pos : Pos} {q : Str} (uni : ∀ p ∈ T, p.1 = P → p.2 = nm) (all : TabsN T H) (at_ : H P = some (.tbl ps)) (tri : TriplesOk ps.toList)
    (told : ∀ (pos : Pos) (cv : Value), codeAmong pos ps.toList = some cv → ∃ c, cv = .ref c ∧ H c = some (CodeO c (nm pos.line pos.col))) (new : H c' = none) (hq : nm pos.line pos.col = q) : TabsN T (putTab H P c' ps pos q) := by
  have ext := putTab_ext (pos := pos) (q := q) at_ new
  have own : putTab H P c' ps pos q c' = some (CodeO c' q) := upd_same
  intro p hp
  by_cases pP : p.1 = P
  · have lst : (ps ++ #[rawInt pos.line, rawInt pos.col, .ref c']).toList = ps.toList ++ [rawInt pos.line, rawInt pos.col, .ref c'] := by simp
    refine ⟨ps ++ #[rawInt pos.line, rawInt pos.col, .ref c'], ?_, ?_, fun at2 cv found => ?_⟩
    · rw [pP]
      unfold putTab
      rw [upd_ne (ne_of_none at_ new), upd_same]
    · rw [lst]
      exact PySem.TriplesOk_snoc _ _ _ _ tri
    · rw [lst] at found
      rw [uni p hp pP]
      rcases among_app2 _ tri found with z | ⟨z, l1, l2⟩
      · obtain ⟨c0, x1, x2⟩ := told at2 cv z
        exact ⟨c0, x1, ext _ _ x2 codeO_ne⟩
      · rw [← l1, ← l2, hq]
        exact ⟨c', z, own⟩
  · obtain ⟨qs, y1, y2, y3⟩ := all p hp
    refine ⟨qs, ?_, y2, fun at2 cv found => ?_⟩
    · unfold putTab
      rw [upd_ne (ne_of_none y1 new), upd_ne pP, y1]
    · obtain ⟨c0, x1, x2⟩ := y3 at2 cv found
      exact ⟨c0, x1, ext _ _ x2 codeO_ne⟩
/-- a lambda is made: it is known from now on, and so is its code object -/
theorem lam_make {T : List NTab} {nm : Nat → Nat → Str} {c P : Addr} {ar : Arguments} {bd : Expr} {sc : Scope} {pos : Pos} {E : Value → Shared → Prop} {Q : Value → Shared → Prop} (I : Inv X pins σ H s) (base : TabB X.base X.mg c P) (mine : X.env.code = .ref c)
    (listed : (P, nm) ∈ T) (named : nm pos.line pos.col = X.env.qual ++ "<lambda>") (uni : ∀ p ∈ T, p.1 = P → p.2 = nm) (all : TabsN T H) (nod : defaultsOf ar X.env = ([], [])) (capt : ∀ y ∈ sc.names, y.2 = .free → ∃ c, X.env.cells.lookup y.1 = some c)
    (go : ∀ (f c' : Addr) (H1 : Hp) (s' : Shared), Inv X pins σ H1 s' → ExtN H H1 → (∀ b, H1 b = Option.none → H b = Option.none) → TabsN T H1 → H f = none → H1 f = some (LamO f ⟨X.env.qual ++ "<lambda>", ar, bd, sc, cloFrom X.env.cells sc.names [], c'⟩) → H1 c' = some (CodeO c' (X.env.qual ++ "<lambda>")) → Q (.ref f) s') :
    wpAny (model X.prog X.w) X.A (eval (.Lambda ar bd sc pos) X.env) Q E s := by
  obtain ⟨ps, at_, tri, told⟩ := (show TabN H P nm from all _ listed)
  have raw : s.heap.get? P = some { cls := .none, data := .fields ps } := I.hok P _ at_
  have glob := I.mod.glob.keeps I.bk
  -- behind the making: the new function's object is laid last
  have last : ∀ (H1 : Hp) (s1 : Shared) (c' : Addr) (ctv : Value) (tk : Nat), Inv X pins σ H1 s1 → ExtN H H1 → (∀ b, H1 b = Option.none → H b = Option.none) → TabsN T H1 → H1 c' = some (CodeO c' (X.env.qual ++ "<lambda>")) →
      Q (.ref s1.heap.objs.size) { s1 with heap := s1.heap.push (PySem.W.kla_obj "<lambda>" (X.env.qual ++ "<lambda>") ar bd sc (cloFrom X.env.cells sc.names []) ((X.mg "__name__").getD .none) c' ctv), toks := tk } := fun H1 s1 c' ctv tk J x1 x2 x3 x4 => by
    have free1 := J.hok.fresh (Nat.le_refl _)
    have J2 := inv_lam (F := ⟨X.env.qual ++ "<lambda>", ar, bd, sc, cloFrom X.env.cells sc.names [], c'⟩) (t' := tk) (pm := (X.mg "__name__").getD .none) (ctv := ctv) J
    have up : ∀ b o, H1 b = some o → upd H1 s1.heap.objs.size (LamO s1.heap.objs.size ⟨X.env.qual ++ "<lambda>", ar, bd, sc, cloFrom X.env.cells sc.names [], c'⟩) b = some o := fun b o e => by
      rw [upd_ne (ne_of_none e free1)]
      exact e
    exact go _ c' _ _ J2 (fun b o e n => up b o (x1 b o e n)) (fun b e => x2 b (NdefX.upd_none e)) (x3.ext up) (x2 _ free1) upd_same (up _ _ x4)
  refine PySem.W.kla_eval nod ?_
  cases seen : codeAmong pos ps.toList with
  | some cv =>
    obtain ⟨c', rfl, known⟩ := told pos cv seen
    rw [named] at known
    refine PySem.W.kla_makeFunctionHit (mg := X.mg) (c := c) (P := P) (ps := ps) (closure_ok capt) I.ok.glob glob mine (base.code.keeps I.bk) raw tri seen (base.bm.keeps I.bk) fun ctv h' tk kp _ => ?_
    exact last H { s with heap := h', toks := tk } c' ctv tk (I.kept kp) (ExtN.refl H) (fun _ z => z) all known
  | none =>
    refine PySem.W.kla_makeFunction (mg := X.mg) (c := c) (P := P) (ps := ps) (closure_ok capt) I.ok.glob glob mine (base.code.keeps I.bk) raw tri seen base.gP (base.bm.keeps I.bk) fun c' ctv h' tk kp above _ rec tab => ?_
    obtain ⟨d, oc, vs, tok, ed, g1, g2, g3⟩ := rec
    cases ed
    have new : H c' = none := I.hok.fresh above
    have J := inv_table (t' := tk) (more := #[rawInt pos.line, rawInt pos.col, .ref c']) (h' := h') I at_ (fun b o n e => kp b o n e) tab above ⟨oc, vs, tok, g1, g2, g3⟩
    exact last (putTab H P c' ps pos (X.env.qual ++ "<lambda>")) { s with heap := h', toks := tk } c' ctv tk J (putTab_ext at_ new) (fun b z => NdefX.upd_none (NdefX.upd_none z)) (putTab_tabs uni all at_ tri told new named) upd_same
end
/-- the reading of a lambda -/
def tLamb (T : List NTab) (mk : Addr → LF) : TE := fun _ H Q => TabsN T H ∧ ∀ (f c' : Addr) (H1 : Hp), ExtN H H1 → (∀ b, H1 b = Option.none → H b = Option.none) → TabsN T H1 → H f = none → H1 f = some (LamO f (mk c')) → H1 c' = some (CodeO c' (mk c').qual) → Q (.ref f) H1
theorem pe_lamb {X : Cx} {T : List NTab} {nm : Nat → Nat → Str} {c P : Addr} {params : Arguments} {body : Expr} {scope : Scope} {pos : Pos} (TB : TabB X.base X.mg c P) (hcode : X.env.code = .ref c)
    (hm : (P, nm) ∈ T) (hn : nm pos.line pos.col = X.env.qual ++ "<lambda>") (hu : ∀ p ∈ T, p.1 = P → p.2 = nm) (hdef : defaultsOf params X.env = ([], []))
    (hfree : ∀ y ∈ scope.names, y.2 = .free → X.env.scope.names.lookup y.1 = some .cell ∨ X.env.scope.names.lookup y.1 = some .free) :
    PE X (.Lambda params body scope pos) (tLamb T fun c' => ⟨X.env.qual ++ "<lambda>", params, body, scope, cloFrom X.env.cells scope.names [], c'⟩) := by
  refine ⟨fun pins s σ H Q I h => ?_⟩
  obtain ⟨hT, h⟩ := h
  have hfr : ∀ y ∈ scope.names, y.2 = .free → ∃ c, X.env.cells.lookup y.1 = some c := fun y hy e => (hfree y hy e).elim (fun z => I.ok.has _ (.inl z)) fun z => I.ok.has _ (.inr z)
  exact lam_make I TB hcode hm hn hu hT hdef hfr fun f c' H1 s' I1 eN nn T1 f0 f1 c1 => ⟨.ref f, H1, I1, rfl, h f c' H1 eN nn T1 f0 f1 c1⟩
end Any
set_option maxHeartbeats 1000000
namespace Any
open L2 PySem PyProof.Rows LamX NdefX
open PySem.Spec
/-! ### cells that are known beyond their frame -/
def CellO (c : Addr) (v : V) : HO := .ext fun h => ∃ u, L2.RelV v u ∧ h.IsCell c (some u)
theorem cellO_ok {P : Program} {w : World} {H : Hp} {h : Heap} {c : Addr} {v : V} {u : Value} (r : L2.RelV v u) (hc : h.IsCell c (some u)) : ObjOk P w H h c (CellO c v) := by
  obtain ⟨o, ho, hd⟩ := id hc
  exact ⟨⟨u, r, hc⟩, ⟨o, ho⟩, fun h1 h2 ⟨u, r, o, ho, hd⟩ st => ⟨u, r, o, st _ ho, hd⟩⟩
theorem cellO_tbl {c : Addr} {v : V} (ps : Array Value) : CellO c v ≠ .tbl ps := fun z => by
  unfold CellO at z
  cases z
theorem cellO_own {c x : Addr} {v : V} : CellO c v ≠ .own x := fun z => by
  unfold CellO at z
  cases z
theorem cellO_tup {c : Addr} {v : V} {xs : List V} : CellO c v ≠ .tup xs := fun z => by
  unfold CellO at z
  cases z
theorem cellO_frz {c : Addr} {v : V} {o : Obj} {u : HO} : CellO c v ≠ .frz o u := fun z => by
  unfold CellO at z
  cases z
/-- the cell at b holds v, by the slots -/
def Capt (X : Cx) (σ : L2.St) (b : Addr) (v : V) : Prop := ∃ (x : Str) (i : Nat), X.env.cells.lookup x = some b ∧ X.N[i]? = some x ∧ σ[i]? = some (some v) ∧ X.env.scope.names.lookup x = some .cell
open Classical in
noncomputable def trkC (X : Cx) (σ : L2.St) (H : Hp) : Hp := fun b => if h : ∃ v, Capt X σ b v then some (CellO b h.choose) else H b
section
variable {X : Cx} {pins : List (Addr × Obj)} {σ : L2.St} {H : Hp} {s : Shared}
theorem capt_one (I : Inv X pins σ H s) (nd : X.N.Nodup) {b : Addr} {v v' : V} (h : Capt X σ b v) (h' : Capt X σ b v') : v = v' := by
  obtain ⟨x, i, e1, e2, e3, e4⟩ := h
  obtain ⟨x', i', f1, f2, f3, f4⟩ := h'
  have ex := I.ok.inj x x' b e1 f1
  subst ex
  have ei := nodup_ix nd e2 f2
  subst ei
  rw [e3] at f3
  exact Option.some.inj (Option.some.inj f3)
theorem trkC_at (I : Inv X pins σ H s) (nd : X.N.Nodup) {b : Addr} {v : V} (h : Capt X σ b v) : trkC X σ H b = some (CellO b v) := by
  have e : ∃ v, Capt X σ b v := ⟨v, h⟩
  unfold trkC
  rw [dif_pos e, capt_one I nd e.choose_spec h]
theorem capt_none (I : Inv X pins σ H s) {b : Addr} {v : V} (h : Capt X σ b v) : H b = none := by
  obtain ⟨x, i, e1, _⟩ := h
  exact I.freeC x b e1
theorem trkC_same (I : Inv X pins σ H s) : Same H (trkC X σ H) := fun b o e => by
  unfold trkC
  rw [dif_neg (fun ⟨v, h⟩ => by rw [capt_none I h] at e; cases e)]
  exact e
theorem trkC_cases (I : Inv X pins σ H s) (nd : X.N.Nodup) (b : Addr) : (∃ v, Capt X σ b v ∧ trkC X σ H b = some (CellO b v)) ∨ ((¬ ∃ v, Capt X σ b v) ∧ trkC X σ H b = H b) := by
  by_cases h : ∃ v, Capt X σ b v
  · obtain ⟨v, h⟩ := h
    exact .inl ⟨v, h, trkC_at I nd h⟩
  · refine .inr ⟨h, ?_⟩
    unfold trkC
    rw [dif_neg h]
theorem capt_cell (I : Inv X pins σ H s) {b : Addr} {v : V} (h : Capt X σ b v) : ∃ u, L2.RelV v u ∧ s.heap.IsCell b (some u) := by
  obtain ⟨x, i, e1, e2, e3, e4⟩ := h
  obtain ⟨m, hn, hl⟩ := I.loc
  obtain ⟨u, r, l⟩ := hl i x v e2 e3 (.inr (.inl e4))
  refine ⟨u, r, ?_⟩
  rcases l with ⟨k, _⟩ | ⟨_, c, e, z⟩
  · have k : X.env.scope.names.lookup x = some .local := k
    rw [e4] at k
    cases k
  · rw [e1] at e
    cases e
    exact z
/-- at a def's end its cells are known -/
theorem end_track (I : Inv X pins σ H s) (nd : X.N.Nodup) (hfn : ∀ x, X.fn x = true) (hex : X.ex = []) :
    Un X.fs [] X.H_0 (trkC X σ H) X.s_0.heap s.heap ∧ HOk X.prog X.w (trkC X σ H) s.heap := by
  have new : ∀ {b : Addr} {v : V}, Capt X σ b v → X.s_0.heap.objs.size ≤ b := fun {b v} h => by
    obtain ⟨x, i, e1, _⟩ := h
    exact I.ok.cab x b (hfn x) e1
  have un := I.base
  rw [hex] at un
  have sm := trkC_same I
  refine ⟨⟨un.keep, un.slot, fun b o e n hx => ?_, un.there, fun b xs e => sm _ _ (un.tups b xs e), fun b o u e => sm _ _ (un.frzs b o u e), fun b ps e => ?_⟩, fun b u e => ?_⟩
  · rcases trkC_cases I nd b with ⟨v, h, _⟩ | ⟨_, e2⟩
    · exact absurd (Heap.lt_size e) (Nat.not_lt.mpr (new h))
    · rw [e2]
      exact un.free b o e n hx
  · obtain ⟨more, e1⟩ := un.tbls b ps e
    exact ⟨more, sm _ _ e1⟩
  · rcases trkC_cases I nd b with ⟨v, h, e2⟩ | ⟨_, e2⟩
    · rw [e2] at e
      cases e
      obtain ⟨u, r, z⟩ := capt_cell I h
      exact cellO_ok r z
    · rw [e2] at e
      exact (I.hok b u e).stay (fun _ _ _ q => q) (fun c q => sm _ _ q) fun c xs q => sm _ _ q
end
/-- what is wanted at the end of a def whose cells stay known -/
def RetC (N : List Str) (sc : Scope) (L : Addr) (Q : VK) : V → L2.St → Hp → Prop := fun v σ H' => ∀ H'', Same H' H'' →
  (∀ (x : Str) (c : Addr) (i : Nat) (u : V), (cellsFrom (L + 1) sc.names []).lookup x = some c → N[i]? = some x → σ[i]? = some (some u) → sc.names.lookup x = some .cell → H' c = none ∧ H'' c = some (CellO c u)) →
  (∀ b o, H'' b = some o → H' b = some o ∨ ∃ u, o = CellO b u) → (∀ x y c, (cellsFrom (L + 1) sc.names []).lookup x = some c → (cellsFrom (L + 1) sc.names []).lookup y = some c → x = y) → Q v H''
section
variable {P : Program} {w : World} {K : PySem.W.Frag} {mg : Str → Option Value} {base : Heap}
theorem fn_c {C : CXT} {k : Nat} {f : Addr} {nm ql : Str} {ar : Arguments} {bd : List Stmt} {sc : Scope} {v1 v2 v3 v4 v5 v6 v7 : Value} {a1 a2 : Option Addr} {sl : Array (Option Value)} {N ps : List Str} {sp : Sp}
    (at_ : K.lookup f = some ⟨v7, a2, .func (PySem.W.fnOf nm ql ar bd sc v1 v2 v3 v4 a1 v5 v6), sl⟩) (code : PySem.W.codeIn K v5 ql = true) (S : FnScope N ps sc)
    (ln : ∀ vs H Q E, sp vs H Q E → vs.length = ps.length)
    (hb : ∀ (A : Around) (out : List Env) (s : Shared) (H : Hp) (vs : List V) (Q : VK) (E : XK), Room k (A.deeper (envOfC ql sc s.heap.objs.size f v5)) → sp vs H Q E →
      ∃ t, PRs (cxOf C P w K mg base N ql sc f v5 A out s H E) bd t ∧ t ⟨fun _ H' => Q .non H', RetC N sc s.heap.objs.size Q⟩ (L2.start N vs) H) :
    FnOk P w K mg base C (k + 1) f (PySem.W.fnOf nm ql ar bd sc v1 v2 v3 v4 a1 v5 v6) ps sp where
  len := ln
  run A out s H args us vs Q E hr e0 hbi rv hsp := by
    have kx : K.In s.heap := e0.mod.kin.keeps (fun b o z => (e0.bs b o z).1)
    have nl : s.heap.NoLimit := e0.mod.nolimit.keeps (fun b o z => (e0.bs b o z).1)
    have kd : ∀ y ∈ ps.zip us, sc.names.lookup y.1 = some .local ∨ (sc.names.lookup y.1 = some .cell ∧ ((cellsFrom (s.heap.objs.size + 1) sc.names []).lookup y.1).isSome = true) := by
      rintro ⟨n, v⟩ hy
      have z := S.par n (List.of_mem_zip hy).1
      exact z.elim .inl (fun z => .inr ⟨z, PySem.W.cellsFrom_some _ _ _ (.inl z)⟩)
    refine codeAny_call_function hr.depth (kx _ _ at_) rfl S.co S.gen rfl (PySem.W.codeRec_of kx code) (hbi _ _ _ _ (wpAny_newFunctionEnv_cells S.kind kd (fun env he s1 x => ?_)))
    subst he
    obtain ⟨t, ht, hq⟩ := hb A out s H vs Q E (hr.deeper _) hsp
    have I := inv_start (CX := C) (E := E) S hr.hd e0 (ln _ _ _ _ hsp) rv x
    refine ⟨nl.keeps x.toInCall.keep, codeAny_func (wpAny_mono (ht.run [] s1 (L2.start N vs) H _ I hq) (fun fl s' hs => ?_) (fun _ _ z => z))⟩
    cases fl with
    | ret u =>
      obtain ⟨v, σ', H', J, r', q⟩ := hs
      obtain ⟨un, hok⟩ := end_track J S.nd (fun _ => rfl) rfl
      refine ⟨v, _, J.os, J.bare, un, hok, r', q _ (trkC_same J) (fun x c i u e1 e2 e3 e4 => ?_) (fun b o e => ?_) J.ok.inj⟩
      · have h : Capt (cxOf C P w K mg base N ql sc f v5 A out s H E) σ' c u := ⟨x, i, e1, e2, e3, e4⟩
        exact ⟨capt_none J h, trkC_at J S.nd h⟩
      · rcases trkC_cases J S.nd b with ⟨v, h, e2⟩ | ⟨_, e2⟩
        · rw [e2] at e
          exact .inr ⟨v, (Option.some.inj e).symm⟩
        · rw [e2] at e
          exact .inl e
    | next => obtain ⟨σ', H', J, q⟩ := hs; exact ⟨.non, H', J.os, J.bare, J.base, J.hok, rfl, q⟩
    | brk => exact hs.elim
    | cont => exact hs.elim
end
/-! ### a made lambda is called -/
def hid (H : Hp) (cs : List Addr) : Hp := fun b => if b ∈ cs then none else H b
/-- the cells of cs as in H, all else as in H1 -/
def reT (H H1 : Hp) (cs : List Addr) : Hp := fun b => if b ∈ cs then H b else H1 b
theorem hid_in {H : Hp} {cs : List Addr} {b : Addr} (h : b ∈ cs) : hid H cs b = none := if_pos h
theorem hid_out {H : Hp} {cs : List Addr} {b : Addr} (h : b ∉ cs) : hid H cs b = H b := if_neg h
theorem hid_some {H : Hp} {cs : List Addr} {b : Addr} {o : HO} (h : hid H cs b = some o) : b ∉ cs ∧ H b = some o := by
  by_cases e : b ∈ cs
  · rw [hid_in e] at h
    cases h
  · rw [hid_out e] at h
    exact ⟨e, h⟩
theorem reT_in {H H1 : Hp} {cs : List Addr} {b : Addr} (h : b ∈ cs) : reT H H1 cs b = H b := if_pos h
theorem reT_out {H H1 : Hp} {cs : List Addr} {b : Addr} (h : b ∉ cs) : reT H H1 cs b = H1 b := if_neg h
/-- the captured names fr of F hold ws, in cells that are known -/
structure CapsAt (H : Hp) (F : LF) (fr : List Str) (ws : List V) : Prop where
  len : ws.length = fr.length
  all : ∀ y c, F.cl.lookup y = some c → ∃ w, H c = some (CellO c w)
  inj : ∀ x y c, F.cl.lookup x = some c → F.cl.lookup y = some c → x = y
  has : ∀ (i : Nat) (y : Str), fr[i]? = some y → ∃ c, F.cl.lookup y = some c ∧ ∀ v, ws[i]? = some v → H c = some (CellO c v)
def LF.cells (F : LF) : List Addr := F.cl.filterMap fun p => if F.cl.lookup p.1 = some p.2 then some p.2 else none
theorem LF.mem_cells {F : LF} {y : Str} {c : Addr} (h : F.cl.lookup y = some c) : c ∈ F.cells := by
  refine List.mem_filterMap.mpr ⟨(y, c), PySem.mem_of_lookup h, ?_⟩
  rw [if_pos h]
theorem LF.of_cells {F : LF} {c : Addr} (h : c ∈ F.cells) : ∃ y, F.cl.lookup y = some c := by
  obtain ⟨⟨y, d⟩, _, e⟩ := List.mem_filterMap.mp h
  split at e
  · rename_i z
    cases e
    exact ⟨y, z⟩
  · cases e
abbrev LF.nf (F : LF) : NF := ⟨"<lambda>", F.qual, F.params, [], F.scope, F.cl, F.c⟩
section
variable {P : Program} {w : World} {K : PySem.W.Frag} {mg : Str → Option Value} {base : Heap} {N ps fr : List Str} {F : LF} {f : Addr} {k : Nat}
theorem CapsAt.cell {H : Hp} {ws : List V} (C : CapsAt H F fr ws) {c : Addr} (h : c ∈ F.cells) : ∃ w, H c = some (CellO c w) := by
  obtain ⟨y, e⟩ := F.of_cells h
  exact C.all y c e
theorem lam_run (S : NScope N ps fr F.scope) (hbi : ∀ (pm ctv : Value) (us : List Value), us.length = ps.length → bindArgs (PySem.W.kla_fn "<lambda>" F.qual F.params F.body F.scope F.cl pm (.ref F.c) ctv) ⟨us, []⟩ = pure (ps.zip us))
    {A : Around} {outer : List Env} {s : Shared} {H : Hp} {us : List Value} {vs ws : List V} {Q : VK} (hr : Room (k + 1) A) (e0 : Env0 P w K mg base A outer s H) (hf : H f = some (LamO f F)) (hc : H F.c = some (CodeO F.c F.qual)) (C : CapsAt H F fr ws) (r : Vals vs us) (hl : vs.length = ps.length)
    (hbody : Room k (A.deeper (envF F.nf f s.heap.objs.size)) → ∃ t, PE (ncx CX0 P w K mg base N F.nf f A outer s (hid H F.cells) E0) F.body t ∧ t (startF N vs (ws.map some)) (hid H F.cells) fun v H1 => Q v (reT H H1 F.cells)) :
    codeAny (model P w) A (.call (.ref f) ⟨us, []⟩) (CR CX0 outer P w H s Q E0) s := by
  have lim : s.heap.NoLimit := e0.mod.nolimit.keeps fun b o e => (e0.bs b o e).1
  obtain ⟨pm, ctv, ho⟩ := lamO_at e0.hok hf
  have nown : ∀ {b x : Addr}, H b = some (.own x) → b ∉ F.cells := fun {b x} e z => by
    obtain ⟨w, h⟩ := C.cell z
    rw [e] at h
    exact cellO_own (Option.some.inj h).symm
  have ntup : ∀ {b : Addr} {xs : List V}, H b = some (.tup xs) → b ∉ F.cells := fun {b x} e z => by
    obtain ⟨w, h⟩ := C.cell z
    rw [e] at h
    exact cellO_tup (Option.some.inj h).symm
  have e1 : Env0 P w K mg base A outer s (hid H F.cells) := by
    refine ⟨e0.frames, e0.mod, fun b o e => ⟨(e0.bs b o e).1, ?_⟩, e0.bsz, e0.funs, fun b hb => ?_, fun b u e => ?_, e0.bare⟩
    · by_cases z : b ∈ F.cells
      · exact hid_in z
      · rw [hid_out z]
        exact (e0.bs b o e).2
    · by_cases z : b ∈ F.cells
      · exact hid_in z
      · rw [hid_out z]
        exact e0.frf b hb
    · obtain ⟨n, e⟩ := hid_some e
      exact (e0.hok b u e).stay (fun _ _ _ q => q) (fun c q => by rw [hid_out (nown q)]; exact q) fun c xs q => by rw [hid_out (ntup q)]; exact q
  have isC : ∀ {c : Addr} {v : V}, H c = some (CellO c v) → ∃ u, L2.RelV v u ∧ s.heap.IsCell c (some u) := fun {c v} h => (e0.hok c _ h).1
  have CA : CellsAt F.nf.cl fr (ws.map some) s.heap (hid H F.cells) := by
    refine ⟨by rw [List.length_map]; exact C.len, fun y c e => ⟨hid_in (F.mem_cells e), ?_⟩, C.inj, fun i y e => ?_⟩
    · obtain ⟨w, h⟩ := C.all y c e
      obtain ⟨u, _, z⟩ := isC h
      exact ⟨_, z⟩
    · obtain ⟨c, hc, hv⟩ := C.has i y e
      refine ⟨c, hc, fun v ev => ?_⟩
      rw [List.getElem?_map] at ev
      cases ew : ws[i]? with
      | none => rw [ew] at ev; cases ev
      | some v' =>
        rw [ew] at ev
        cases ev
        exact isC (hv _ ew)
  refine PySem.W.kla_callFunE hr.depth ho rfl S.co S.gen rfl (codeO_at e0.hok hc) ?_
  rw [hbi pm ctv us (by rw [← r.length]; exact hl)]
  refine wpAny_pure (wpAny_newFunctionEnv S.nocell (fun ⟨n, _⟩ hy => S.par n (List.of_mem_zip hy).1) (fun h₁ hns hsb => ⟨lim.fresh _ hsb, ?_⟩) S.kind)
  show codeAny _ _ (.expr F.body (envF F.nf f s.heap.objs.size)) _ _
  have kp : ∀ b o, s.heap.get? b = some o → h₁.get? b = some o := fun b o e => hsb.extBut b o (Nat.ne_of_lt (Heap.lt_size e)) (Heap.get?_push_of_some _ e)
  obtain ⟨t, ht, hq⟩ := hbody (hr.deeper _)
  have I : Inv (ncx CX0 P w K mg base N F.nf f A outer s (hid H F.cells) E0) [] (startF N vs (ws.map some)) (hid H F.cells) { s with heap := h₁, toks := s.toks + (ps.zip us).length } := inv_startN S hr.hd e1 hl r CA hns kp
  refine PySem.W.kla_codeExpr (wpAny_mono (ht.run [] _ _ _ _ I hq) (fun u s' hs => ?_) fun e s' hs => hs)
  obtain ⟨v, H1, J, rv, q⟩ := hs
  have un : Un (frs outer) [] (hid H F.cells) H1 s.heap s'.heap := J.base
  have cn : ∀ {c : Addr}, c ∈ F.cells → H1 c = none ∧ ∀ o, s.heap.get? c = some o → s'.heap.get? c = some o := fun {c} z => by
    obtain ⟨w, h⟩ := C.cell z
    obtain ⟨u, _, o, ho, hd⟩ := isC h
    have nf : c ∉ frs outer := fun z => by
      rw [e0.frf c z] at h
      cases h
    exact ⟨un.free c o ho (hid_in z) (by simp), fun o e => un.keep c o e (hid_in z) nf (by simp)⟩
  refine ⟨v, reT H H1 F.cells, J.os, J.bare, ⟨fun b o e n hb hx => ?_, fun b o e n hb hx => ?_, fun b o e n hx => ?_, un.there, fun b xs e => ?_, fun b o u e => ?_, fun b qs e => ?_⟩, fun b u e => ?_, rv, q⟩
  · have nb : b ∉ F.cells := fun z => by obtain ⟨w, h⟩ := C.cell z; rw [n] at h; cases h
    exact un.keep b o e (by rw [hid_out nb]; exact n) hb hx
  · have nb : b ∉ F.cells := fun z => by obtain ⟨w, h⟩ := C.cell z; rw [n] at h; cases h
    exact un.slot b o e (by rw [hid_out nb]; exact n) hb hx
  · have nb : b ∉ F.cells := fun z => by obtain ⟨w, h⟩ := C.cell z; rw [n] at h; cases h
    rw [reT_out nb]
    exact un.free b o e (by rw [hid_out nb]; exact n) hx
  · rw [reT_out (ntup e)]
    exact un.tups b xs (by rw [hid_out (ntup e)]; exact e)
  · have nb : b ∉ F.cells := fun z => by obtain ⟨w, h⟩ := C.cell z; rw [e] at h; exact cellO_frz (Option.some.inj h).symm
    rw [reT_out nb]
    exact un.frzs b o u (by rw [hid_out nb]; exact e)
  · have nb : b ∉ F.cells := fun z => by obtain ⟨w, h⟩ := C.cell z; rw [e] at h; exact cellO_tbl _ (Option.some.inj h).symm
    rw [reT_out nb]
    exact un.tbls b qs (by rw [hid_out nb]; exact e)
  · by_cases z : b ∈ F.cells
    · rw [reT_in z] at e
      obtain ⟨w, h⟩ := C.cell z
      rw [h] at e
      cases e
      obtain ⟨u, r, o, ho, hd⟩ := isC h
      exact cellO_ok r ⟨o, (cn z).2 o ho, hd⟩
    · rw [reT_out z] at e
      have out : ∀ {c : Addr} {o : HO}, H1 c = some o → reT H H1 F.cells c = some o := fun {c o} q => by
        rw [reT_out (fun z => by rw [(cn z).1] at q; cases q)]
        exact q
      exact (J.hok b u e).stay (fun _ _ _ q => q) (fun c q => out q) fun c xs q => out q
end
end Any
set_option maxHeartbeats 1000000
namespace Any
open L2 PySem PyProof.Rows LamX NdefX
open PySem.Spec
/-! ### a call of a name that holds a made lambda -/
/-- what made lambdas promise: sp f speaks of the one at f -/
def FnL (P : Program) (w : World) (K : PySem.W.Frag) (mg : Str → Option Value) (base : Heap) (k : Nat) (sp : Addr → Sp) : Prop :=
  ∀ (f : Addr) (A : Around) (outer : List Env) (s : Shared) (H : Hp) (us : List Value) (vs : List V) (Q : VK), Room k A → Env0 P w K mg base A outer s H → Vals vs us → sp f vs H Q E0 → codeAny (model P w) A (.call (.ref f) ⟨us, []⟩) (CR CX0 outer P w H s Q E0) s
theorem FnL.mono {P : Program} {w : World} {K : PySem.W.Frag} {mg : Str → Option Value} {base : Heap} {j k : Nat} {sp : Addr → Sp} (F : FnL P w K mg base j sp) (h : j ≤ k) : FnL P w K mg base k sp := fun f A outer s H us vs Q hr => F f A outer s H us vs Q (hr.mono h)
def IsLm (H : Hp) (f : Addr) : Prop := ∃ F, H f = some (LamO f F)
def tCallL (i : Nat) (sp : Addr → Sp) (t : TA) : TE := fun σ H Q => ∃ f, σ[i]? = some (some (.ref f)) ∧ IsLm H f ∧ t σ H fun vs H1 => IsLm H1 f ∧ sp f vs H1 Q E0
section
variable {X : Cx} {sp : Addr → Sp} {i k : Nat} {x : Str} {t : TA} {e : Expr} {es : List Expr} {p pos apos cpos : Pos} {te : TE}
theorem lmAt {pins : List (Addr × Obj)} {σ : L2.St} {H : Hp} {s : Shared} {f : Addr} (I : Inv X pins σ H s) (h : IsLm H f) : PySem.W.FnAt f s.heap := by
  obtain ⟨F, e⟩ := h
  obtain ⟨pm, ctv, ho⟩ := lamO_at I.hok e
  exact ⟨_, _, _, _, ho⟩
theorem pe_callL (Fn : FnL X.prog X.w X.K X.mg X.base k sp) (hr : Room k X.A) (hN : X.N[i]? = some x) (hv : Vis X.env.scope x) (ha : PA X (e :: es) t)
    (hd : (x == ("__debug__" : Str)) = false := by decide) (hcd : (x == ("__classdict__" : Str)) = false := by decide)
    (he : starEach (e :: es) X.env = (false, eval e X.env) :: starEach es X.env := by rfl) (hpl : (backTo pos (starEach es X.env)).any (·.1) = false := by rfl) :
    PE X (.Call (.Name x p) (e :: es) [] pos) (tCallL i sp t) := by
  refine ⟨fun pins s σ H Q I h => ?_⟩
  obtain ⟨f, hs, hf, ht⟩ := h
  refine wpAny_Call_Name_kw (thn ((pe_var (pos := p) hN hv hd hcd).run pins s σ H (fun v H1 => v = .ref f ∧ H1 = H) I ⟨.ref f, hs, rfl, rfl⟩) fun u s1 ⟨v, H1, I1, r1, q1⟩ => ?_)
  obtain ⟨ev, eH⟩ := q1
  subst ev
  rw [eH] at I1
  obtain rfl : u = Value.ref f := r1
  refine PySem.W.callWith_F (first := []) (lmAt I1 hf) (thn (ha.run pos pins s1 σ H _ I1 ht) fun us s2 ⟨vs, H2, I2, r, h1, q⟩ => ⟨lmAt I2 h1, ?_⟩) he hpl
  show wpAny _ _ (call (.ref f) us) _ _ _
  refine wpAny_call (codeAny_mono (Fn f X.A X.stack s2 H2 us vs Q hr I2.env0 r q) fun r s' hq => ?_)
  cases r with
  | error e => exact pass0 pins σ H2 s2 e s' I2 hq
  | ok fl =>
    cases fl with
    | ret u => exact I2.after hq
    | next => exact False.elim hq
    | brk => exact False.elim hq
    | cont => exact False.elim hq
/-! ### list(d.values()) -/
def tListVals (te : TE) : TE := fun σ H Q => te σ H fun x H1 => ∃ (d : Addr) (kvs : List (Key × V)), x = .ref d ∧ H1 d = some (.dK kvs) ∧ ∀ p, H1 p = none → Q (.ref p) (upd H1 p (.lst (kvs.map (·.2))))
theorem vals_get {κ : Type} : ∀ {kvs : List (κ × V)} {vs : List (κ × Value)}, KV kvs vs → Vals (kvs.map (·.2)) (vs.map (·.2))
  | _, _, .nil => .nil
  | _, _, .cons r t => .cons r.2 (vals_get t)
theorem pe_listVals (hc : X.calm = true) (he : PE X e te) (hg : Gl X "list") (hm : X.mg "list" = none) (hv : bootBuiltins "list" = some (.type "list")) (hbase : attributeBase e "values" X.env (eval e X.env) = eval e X.env := by rfl) (hline : (apos.endLine == cpos.line) = true := by rfl)
    (hs : starEach [.Call (.Attribute e "values" apos) [] [] cpos] X.env = (false, eval (.Call (.Attribute e "values" apos) [] [] cpos) X.env) :: starEach [] X.env := by rfl) :
    PE X (.Call (.Name "list" p) [.Call (.Attribute e "values" apos) [] [] cpos] [] pos) (tListVals te) := by
  refine ⟨fun pins s σ H Q I hq => ?_⟩
  refine wpAny_Call_Name_kw (ld_blt I hg hm hv ?_)
  refine PyProof.Rows.callWith_type1 ?_ hs rfl
  rw [hs]
  show wpAny _ _ (spliced ((false, eval (.Call (.Attribute e "values" apos) [] [] cpos) X.env) :: backTo pos (starEach [] X.env))) _ _ s
  refine Calls.spliced_cons ?_
  refine wpAny_Call_method (T := "dict") (id := "dict.values") hbase rfl hline F.plainAttrs_dict F.slot_dict_values F.type_dict_values (thn (he.run pins s σ H _ I hq) fun u s1 ⟨x, H1, I1, rx, d, kvs, ex, hd, q⟩ => ?_)
  subst ex
  obtain rfl : u = Value.ref d := rx
  obtain ⟨hz, hs0, vs, kv, hdo⟩ := I1.hok d _ hd
  obtain ⟨ep, hat⟩ := hdo.dictAt
  have lk : kvs.length = vs.length := Paired.length kv
  have I2 : Inv X pins σ H1 { s1 with heap := s1.heap.push { cls := .type "dict_values", data := .fields #[.ref d] } } := I1.kept (t' := s1.toks) fun b ob q => Heap.get?_push_of_some _ q
  refine ⟨hdo.typeIs, hdo.mapOf.noDict, ?_⟩
  show wpAny _ _ (callWith cpos (.builtin "dict.values") [.ref d] [] []) _ X.xe s1
  refine method_meetsIn F.slot_dict_values F.entry_dict_values rfl (PySem.evalArgs_none ⟨rfl, hdo.typeIs, F.args_dict_values_1 _, _, meets_dict_values (mixKind X.prog X.w) d hs0, ⟨vs, hdo⟩, ?_⟩)
  refine Calls.spliced_nil ?_
  refine PySem.W.kdl_call (PySem.W.kdl_values (knd := mixKind X.prog X.w) (kvs := vs) (ep := ep)) (I1.ok.hd hc) ⟨⟨_, Heap.get?_push_size _ rfl, rfl, rfl⟩, hat.push _⟩ (by omega) fun h' tk acc c hk hS hacc => ?_
  have ev : acc.toList = vs.map (·.2) := PySem.W.kdl_vals_eq acc.toList (by rw [Array.length_toList]; exact hacc.1) fun j v e => hacc.2 j v (by rw [← Array.getElem?_toList]; exact e)
  have hvv := vals_get kv
  rw [← ev] at hvv
  refine ⟨.ref _, upd H1 _ (.lst (kvs.map (·.2))), I2.laid (t' := tk) hk (Nat.le_refl _)
    (show ObjOk X.prog X.w _ _ _ (.lst (kvs.map (·.2))) from ⟨by rw [List.length_map]; exact hz, acc.toList, c, hvv, by rw [Array.toArray_toList]; exact hS⟩), rfl, q _ (I2.hok.fresh (Nat.le_refl _))⟩
end
end Any
set_option maxHeartbeats 1000000
namespace Any
open L2 PySem PyProof.Rows LamX NdefX
open PySem.Spec
/-! ### the law's call with tables of code objects, under no guard -/
section
variable {P : Program} {w : World} {K : PySem.W.Frag} {mg mb : Str → Option Value}
/-- a heap that knows the script, if the written part has it not, and the tables -/
theorem pick_T {a : Addr} {ts : List Addr} {s : Shared} {vs : List Value} {ns : List Int} (kx : K.In s.heap) (la : s.heap.get? a = some { cls := .type "list", data := .seq vs.toArray }) (li : IntsAre vs ns) (ll : ns.length ≤ sizeLine)
    (tab : ∀ t ∈ ts, s.heap.get? t = some { cls := .none, data := .fields #[] }) :
    ∃ H : Hp, (∀ t ∈ ts, H t = some (.tbl #[])) ∧ SqL K H a (ns.map V.int) ∧ HOk P w H s.heap ∧ (∀ b u, H b = some u → b ∉ ts → b = a ∧ K.lookup a = none ∧ ∃ o xs, u = .frz o (.lst xs)) := by
  have nat_ : a ∉ ts := fun z => by
    have q := tab a z
    rw [la] at q
    have d := congrArg Obj.data (Option.some.inj q)
    have d : Data.seq vs.toArray _ = Data.fields #[] := d
    cases d
  cases hk : K.lookup a with
  | some o =>
    have z := (kx a o hk).symm.trans la
    cases z
    refine ⟨fun b => if b ∈ ts then some (.tbl #[]) else none, fun t ht => if_pos ht, .inr ⟨_, vs.toArray, _, hk, rfl, rfl, rfl, by rw [List.size_toArray, li.length]; exact ll, by simpa using vals_ints li⟩, fun b u e => ?_, fun b u e nb => ?_⟩
    · have e : (if b ∈ ts then some (HO.tbl #[]) else none) = some u := e
      split at e
      · rename_i hb
        cases e
        exact tab b hb
      · cases e
    · have e : (if b ∈ ts then some (HO.tbl #[]) else none) = some u := e
      rw [if_neg nb] at e
      cases e
  | none =>
    let o : HO := .frz { cls := .type "list", data := .seq vs.toArray } (.lst (ns.map V.int))
    refine ⟨fun b => if b ∈ ts then some (.tbl #[]) else if b = a then some o else none, fun t ht => if_pos ht, .inl (.inr ⟨_, (if_neg nat_).trans (if_pos rfl)⟩), fun b u e => ?_, fun b u e nb => ?_⟩
    · have e : (if b ∈ ts then some (HO.tbl #[]) else if b = a then some o else none) = some u := e
      split at e
      · rename_i hb
        cases e
        exact tab b hb
      · split at e
        · rename_i hb
          cases e
          rw [hb]
          exact ⟨la, by rw [List.length_map]; exact ll, vs, _, vals_ints li, la⟩
        · cases e
    · have e : (if b ∈ ts then some (HO.tbl #[]) else if b = a then some o else none) = some u := e
      rw [if_neg nb] at e
      split at e
      · rename_i hb
        cases e
        exact ⟨hb, rfl, _, _, rfl⟩
      · cases e
theorem law_gT {C : CXT} {k : Nat} {fa a : Addr} {cs : List (Addr × Addr)} {fd : FuncData} {x : Str} {sp : Sp} {s : Shared} {vs : List Value} {ns : List Int}
    (kx : K.In s.heap) (g1 : s.heap.Ns mainGlobals mg) (g2 : s.heap.Ns builtinsNs mb) (g3 : ∀ x : Str, x ≠ "__name__" → mb x = bootBuiltins x) (g4 : s.heap.NoLimit) (g5 : s.gens = #[])
    (tab : ∀ p ∈ cs, s.heap.get? p.2 = some { cls := .none, data := .fields #[] }) (out : ∀ p ∈ cs, K.lookup p.2 = none) (cod : ∀ p ∈ cs, PySem.W.CodeHd s.heap p.1 p.2)
    (bmn : ∃ (bm : Addr) (ob : Obj), mg "__builtins__" = some (.ref bm) ∧ bm ≠ builtinsNs ∧ s.heap.get? bm = some ob ∧ ob.cls = .type "module" ∧ ob.dict = some builtinsNs ∧ ob.data = .plain)
    (la : s.heap.get? a = some { cls := .type "list", data := .seq vs.toArray }) (li : IntsAre vs ns) (ll : ns.length ≤ sizeLine) (hr : Room k callerA)
    (F : ∀ base : Heap, K.In base → base.Ns mainGlobals mg → (∀ p ∈ cs, TabB base mg p.1 p.2) → FnG P w K mg base C k fa fd [x] sp) (bd : ∀ (s : Shared) (u : Value), BindsTo s fd ⟨[u], []⟩ [(x, u)])
    (want : ∀ H : Hp, (∀ p ∈ cs, H p.2 = some (.tbl #[])) → SqL K H a (ns.map V.int) → sp [.ref a] H (fun v _ => v = .bl true) fun _ _ _ => False)
    (noC : ∀ H e s', C [] H s (fun _ _ _ => False) e s' → False) :
    codeAny (model P w) callerA (.call (.ref fa) ⟨[.ref a], []⟩) (fun r s' => r = .ok (.ret (.bool true)) ∧ OldK s.heap s'.heap ∧ s'.os = s.os ∧ AllBare s'.gens) s := by
  have mem : ∀ p ∈ cs, p.2 ∈ cs.map (·.2) := fun p hp => List.mem_map_of_mem hp
  have isT : ∀ t ∈ cs.map (·.2), s.heap.get? t = some { cls := .none, data := .fields #[] } := fun t ht => by
    obtain ⟨p, hp, rfl⟩ := List.mem_map.mp ht
    exact tab p hp
  obtain ⟨H, hT, hS, hok, hA⟩ := pick_T (P := P) (w := w) kx la li ll isT
  -- what is neither a list nor an empty table is not known
  have free : ∀ {b : Addr} {ob : Obj}, s.heap.get? b = some ob → (∀ us n, ob.data ≠ .seq us n) → ob.data ≠ .fields #[] → H b = none := fun {b ob} z d1 d2 => by
    cases q : H b with
    | none => rfl
    | some u =>
      by_cases ht : b ∈ cs.map (·.2)
      · have z2 := z.symm.trans (isT b ht)
        cases z2
        exact absurd rfl d2
      · obtain ⟨rfl, _⟩ := hA b u q ht
        have z2 := z.symm.trans la
        cases z2
        exact absurd rfl (d1 _ _)
  have freeD : ∀ {b : Addr} {ob : Obj} {es : Array DictEntry} {n : Nat}, s.heap.get? b = some ob → ob.data = .dict es n → H b = none := fun z d => free z (fun us n e => by rw [d] at e; cases e) fun e => by rw [d] at e; cases e
  have ns' : ∀ {b : Addr} {m : Str → Option Value}, s.heap.Ns b m → (hidT s.heap H).Ns b m := by
    rintro b m ⟨o, es, n, z, d, r⟩
    exact ⟨o, es, n, hidT_get z (freeD z d), d, r⟩
  have kb : K.In (hidT s.heap H) := by
    intro b o z
    refine hidT_get (kx b o z) ?_
    cases q : H b with
    | none => rfl
    | some u =>
      by_cases ht : b ∈ cs.map (·.2)
      · obtain ⟨p, hp, rfl⟩ := List.mem_map.mp ht
        rw [out p hp] at z
        cases z
      · obtain ⟨rfl, z2, _⟩ := hA b u q ht
        rw [z2] at z
        cases z
  have TB : ∀ p ∈ cs, TabB (hidT s.heap H) mg p.1 p.2 := fun p hp => by
    have tp := tab p hp
    have apart : ∀ {b : Addr} {ob : Obj}, s.heap.get? b = some ob → ob.data ≠ .fields #[] → b ≠ p.2 := fun z d e => by
      rw [e, tp] at z
      cases z
      exact d rfl
    obtain ⟨og, esg, ng, zg, dg, _⟩ := id g1
    refine ⟨?_, ?_, apart zg (fun e => by rw [dg] at e; cases e)⟩
    · obtain ⟨o, us, file, tf, flags, tg, inF, text, tt, y1, y2, y3, y4, rest⟩ := cod p hp
      refine ⟨o, us, file, tf, flags, tg, inF, text, tt, hidT_get y1 (free y1 (fun us n e => by rw [y3] at e; cases e) fun e => ?_), y2, y3, y4, rest⟩
      rw [y3] at e
      cases e
      simp at y4
    · obtain ⟨bm, ob, m1, m2, m3, m4, m5, m6⟩ := bmn
      refine ⟨bm, ob, m1, m2, fun e => ?_, apart m3 (fun e => by rw [m6] at e; cases e), hidT_get m3 (free m3 (fun us n e => by rw [m6] at e; cases e) fun e => by rw [m6] at e; cases e), m4, m5, m6⟩
      rw [e] at m3
      have z2 := m3.symm.trans zg
      cases z2
      rw [m6] at dg
      cases dg
  obtain ⟨mc, l1, l2⟩ := g4
  have e0 : Env0 P w K mg (hidT s.heap H) callerA [] s H :=
    { frames := rfl, mod := ⟨kb, ns' g1, ⟨mb, ns' g2, g3⟩, ⟨mc, ns' l1, l2⟩⟩, bs := fun b o z => of_hidT z, bsz := Nat.le_of_eq (hidT_size _ _), funs := trivial, frf := fun b z => (by cases z), hok := hok, bare := .of_eq g5 }
  refine codeAny_mono ((F _ kb (ns' g1) TB).go callerA [] s H ⟨[.ref a], []⟩ [.ref a] [.ref a] _ _ rfl hr e0 (bd s (.ref a)) (.cons rfl .nil) (want H (fun p hp => hT _ (mem p hp)) hS)) ?_
  rintro (err | fl) s' h
  · exact (noC H err s' h).elim
  cases fl with
  | next => cases h
  | brk => cases h
  | cont => cases h
  | ret u =>
    obtain ⟨v, H', h1, h2, un, hok', rv, rfl⟩ := h
    cases rv
    have grown : ∀ t ∈ cs.map (·.2), ∃ more : Array Value, s'.heap.get? t = some { cls := .none, data := .fields more } := fun t ht => by
      obtain ⟨more, z⟩ := un.tbls t #[] (hT t ht)
      exact ⟨_, hok' t _ z⟩
    have stay : ∀ b o, b ∉ cs.map (·.2) → s.heap.get? b = some o → s'.heap.get? b = some o := fun b o nb z => by
      cases q : H b with
      | none => exact un.keep b o z q (fun z => by cases z) (fun z => by cases z)
      | some u =>
        obtain ⟨rfl, _, ob, xs, rfl⟩ := hA b u q nb
        have z2 := (hok b _ q).1
        rw [z] at z2
        cases z2
        exact (hok' b _ (un.frzs b _ _ q)).1
    refine ⟨rfl, ⟨fun b o z => ?_, fun b o z => ?_⟩, h1, h2⟩
    · by_cases ht : b ∈ cs.map (·.2)
      · obtain ⟨more, hm⟩ := grown b ht
        obtain ⟨p, hp, rfl⟩ := List.mem_map.mp ht
        have z2 := z.symm.trans (tab p hp)
        cases z2
        exact .inr (.inl ⟨((cod p hp).tab (tab p hp)).isCodeTable, rfl, #[], more, rfl, by rw [Array.empty_append]; exact hm⟩)
      · exact .inl (stay b o ht z)
    · by_cases ht : b ∈ cs.map (·.2)
      · obtain ⟨more, hm⟩ := grown b ht
        exact ⟨_, hm⟩
      · exact ⟨o, stay b o ht z⟩
/-- what is known at the law's end: its promise, with the tables cs -/
def LawT (l : PySem.W.OpenLaw) (w : World) (K : PySem.W.Frag) (k n : Nat) (x : Str) (mg : Str → Option Value) (fa : Addr) (h : Heap) : Prop :=
  ∃ (fd : FuncData) (cs : List (Addr × Addr)) (sp : Sp), (∀ p ∈ cs, h.get? p.2 = some { cls := .none, data := .fields #[] }) ∧ (∀ p ∈ cs, K.lookup p.2 = none) ∧ (∀ p ∈ cs, PySem.W.CodeHd h p.1 p.2) ∧ (∀ (s : Shared) (u : Value), BindsTo s fd ⟨[u], []⟩ [(x, u)]) ∧
    (∀ (H : Hp) (a : Addr) (ns : List Int), ns.length ≤ n → (∀ p ∈ cs, H p.2 = some (.tbl #[])) → SqL K H a (ns.map V.int) → sp [.ref a] H (fun v _ => v = .bl true) fun _ _ _ => False) ∧
    ∀ base : Heap, K.In base → base.Ns mainGlobals mg → (∀ p ∈ cs, TabB base mg p.1 p.2) → FnG l.prog w K mg base CX0 k fa fd [x] sp
theorem walk_gT {l : PySem.W.OpenLaw} {n k : Nat} {q : Program} {loose : List Str} {XP : (Str → Option Value) → Heap → Prop} {YP : World → Heap → Prop} {d : DefRec} {K : Params → PySem.W.Frag} {x : Str}
    (h1 : l.most = some n) (h2 : n ≤ sizeLine) (h3 : d.params.defaults = []) (hr : Room k callerA) (hY : ∀ (w : World) (h : Heap), YP w h → (K w.params).In h)
    (F : ∀ (w : World) (mg : Str → Option Value) (fa : Addr) (h : Heap), YP w h → (K w.params).In h → h.Ns mainGlobals mg → mg d.name = some (.ref fa) → LawT l w (K w.params) k n x mg fa h) :
    PySem.W.WalkO q loose XP YP l.row.toRowW d [] (fun f vs => PySem.call f vs) := by
  refine Att.attach_call h1 h3 fun w s₀ s₁ mg mb fa o pm cd doc a vs ns G Y _ _ _ hmg hobj hints hlen hg => ?_
  have kx := hY w _ Y
  obtain ⟨fd, cs, sp, c1, c2, c3, hb, want, hF⟩ := F w mg fa _ Y kx G.T.g hmg
  exact law_gT kx G.T.g G.T.b G.T.builtins G.T.nolimit hg c1 c2 c3 G.T.bmain hobj hints (Nat.le_trans hlen h2) hr hF hb (fun H t hS => want H a ns hlen t hS) (fun _ _ _ z => z)
end
end Any
namespace Any
open L2 PySem

/-! ### expressions as trees -/
inductive Dd | plus | less | times | over | rest
  deriving DecidableEq
def Dd.word : Dd → Str
  | .plus => "plus" | .less => "less" | .times => "times" | .over => "over" | .rest => "rest"
def Dd.fn : Dd → Int → Int → Int
  | .plus, i, j => i + j
  | .less, i, j => if i < j then 0 else i - j
  | .times, i, j => i * j
  | .over, i, j => if j = 0 then 0 else i / j
  | .rest, i, j => if j = 0 then 0 else i % j
inductive Ex
  | num (n : Int) | box (x : Str) | asked | told | op (d : Dd) (l r : Ex)
def Ex.deep : Ex → Nat
  | .op _ l r => max l.deep r.deep + 1
  | _ => 1
def Ex.size : Ex → Nat
  | .op _ l r => l.size + r.size
  | _ => 1
/-- the number of a box -/
def look (kvs : List (Str × Int)) (x : Str) : Option Int := (kvs.find? fun kv => decide (kv.1 = x)).map (·.2)
def Ex.val (kvs : List (Str × Int)) (a t : Int) : Ex → Int
  | .num n => n
  | .box x => (look kvs x).getD 0
  | .asked => a
  | .told => t
  | .op d l r => d.fn (l.val kvs a t) (r.val kvs a t)
/-- of these boxes, with small numbers -/
def Ex.good (xs : List Str) : Ex → Prop
  | .num n => 0 ≤ n ∧ n < 1024
  | .box x => x ∈ xs
  | .op _ l r => l.good xs ∧ r.good xs
  | _ => True
/-- boxes with small numbers, for each of these names -/
structure Bx (kvs : List (Str × Int)) (xs : List Str) : Prop where
  all : ∀ x ∈ xs, ∃ n, look kvs x = some n ∧ 0 ≤ n ∧ n < 1024
def bx (kvs : List (Str × Int)) : List (Key × V) := kvs.map fun p => (Sum.inr p.1, V.int p.2)
theorem bx_val (x : Str) : ∀ kvs : List (Str × Int), valV (bx kvs) (Sum.inr x) = (look kvs x).map V.int
  | [] => rfl
  | p :: r => by
    have ih := bx_val x r
    unfold valV look bx at ih ⊢
    rw [List.map_cons, List.find?_cons, List.find?_cons]
    by_cases e : p.1 = x
    · have e1 : decide ((Sum.inr p.1 : Key) = Sum.inr x) = true := decide_eq_true (by rw [e])
      rw [decide_eq_true e]
      dsimp only
      rw [e1]
      rfl
    · have e1 : decide ((Sum.inr p.1 : Key) = Sum.inr x) = false := decide_eq_false (fun z => e (Sum.inr.inj z))
      rw [decide_eq_false e]
      dsimp only
      rw [e1]
      exact ih
theorem Dd.fn_nn (d : Dd) {i j : Int} (hi : 0 ≤ i) (hj : 0 ≤ j) : 0 ≤ d.fn i j := by
  cases d with
  | plus => show 0 ≤ i + j; omega
  | less => show 0 ≤ (if i < j then 0 else i - j); split <;> omega
  | times => exact Int.mul_nonneg hi hj
  | over => show 0 ≤ (if j = 0 then 0 else i / j); split; omega; exact Int.ediv_nonneg hi hj
  | rest => show 0 ≤ (if j = 0 then 0 else i % j); split; omega; exact Int.emod_nonneg i (by assumption)
theorem Dd.fn_lt (d : Dd) {i j : Int} {m n : Nat} (hi : 0 ≤ i) (hj : 0 ≤ j) (him : i < 2 ^ m) (hjn : j < 2 ^ n) (hm : 0 < m) (hn : 0 < n) : d.fn i j < 2 ^ (m + n) := by
  have e : (2 : Int) ^ (m + n) = 2 ^ m * 2 ^ n := Int.pow_add ..
  have m2 : (2 : Int) ≤ 2 ^ m := by
    obtain ⟨k, rfl⟩ : ∃ k, m = k + 1 := ⟨m - 1, by omega⟩
    rw [Int.pow_succ]
    have : (0 : Int) < 2 ^ k := Int.pow_pos (by decide)
    omega
  have n2 : (2 : Int) ≤ 2 ^ n := by
    obtain ⟨k, rfl⟩ : ∃ k, n = k + 1 := ⟨n - 1, by omega⟩
    rw [Int.pow_succ]
    have : (0 : Int) < 2 ^ k := Int.pow_pos (by decide)
    omega
  rw [e]
  generalize (2 : Int) ^ m = M at *
  generalize (2 : Int) ^ n = N at *
  have big : M ≤ M * N := by
    have := Int.mul_le_mul_of_nonneg_left (show (1 : Int) ≤ N by omega) (show (0 : Int) ≤ M by omega)
    omega
  have big2 : N ≤ M * N := by
    have := Int.mul_le_mul_of_nonneg_right (show (1 : Int) ≤ M by omega) (show (0 : Int) ≤ N by omega)
    omega
  cases d with
  | plus =>
    show i + j < M * N
    have : 0 ≤ (M - 1) * (N - 1) := Int.mul_nonneg (by omega) (by omega)
    have e2 : (M - 1) * (N - 1) = M * N - M - N + 1 := by rw [Int.sub_mul, Int.mul_sub]; omega
    omega
  | less => show (if i < j then 0 else i - j) < M * N; split <;> omega
  | times => exact Int.lt_of_le_of_lt (Int.mul_le_mul_of_nonneg_left (by omega) hi) (Int.mul_lt_mul_of_pos_right him (by omega))
  | over =>
    show (if j = 0 then 0 else i / j) < M * N
    split
    · omega
    · have := Int.ediv_le_self j hi
      omega
  | rest =>
    show (if j = 0 then 0 else i % j) < M * N
    split
    · omega
    · have := Int.emod_lt_of_pos i (show 0 < j by omega)
      omega
theorem Ex.size_pos : ∀ e : Ex, 0 < e.size
  | .num _ => by show 0 < 1; decide
  | .box _ => by show 0 < 1; decide
  | .asked => by decide
  | .told => by decide
  | .op _ l r => by have := l.size_pos; show 0 < l.size + r.size; omega
theorem Ex.size_le : ∀ e : Ex, e.size ≤ 2 ^ e.deep
  | .num _ => by show 1 ≤ 2 ^ 1; decide
  | .box _ => by show 1 ≤ 2 ^ 1; decide
  | .asked => by show 1 ≤ 2 ^ 1; decide
  | .told => by show 1 ≤ 2 ^ 1; decide
  | .op _ l r => by
    have h1 := l.size_le
    have h2 := r.size_le
    show l.size + r.size ≤ 2 ^ (max l.deep r.deep + 1)
    have h3 : 2 ^ l.deep ≤ 2 ^ max l.deep r.deep := Nat.pow_le_pow_right (by decide) (Nat.le_max_left ..)
    have h4 : 2 ^ r.deep ≤ 2 ^ max l.deep r.deep := Nat.pow_le_pow_right (by decide) (Nat.le_max_right ..)
    rw [Nat.pow_succ]
    omega
theorem Ex.val_ok {kvs : List (Str × Int)} {xs : List Str} {a t : Int} (B : Bx kvs xs) (ha : 0 ≤ a ∧ a < 1024) (ht : 0 ≤ t ∧ t < 1024) : ∀ e : Ex, e.good xs → 0 ≤ e.val kvs a t ∧ e.val kvs a t < 2 ^ (10 * e.size)
  | .num n, h => h
  | .box x, h => by
    obtain ⟨n, e1, h1, h2⟩ := B.all x h
    show 0 ≤ (look kvs x).getD 0 ∧ (look kvs x).getD 0 < 2 ^ 10
    rw [e1]
    exact ⟨h1, h2⟩
  | .asked, _ => ha
  | .told, _ => ht
  | .op d l r, h => by
    obtain ⟨l1, l2⟩ := Ex.val_ok B ha ht l h.1
    obtain ⟨r1, r2⟩ := Ex.val_ok B ha ht r h.2
    refine ⟨d.fn_nn l1 r1, ?_⟩
    have q := d.fn_lt l1 r1 l2 r2 (by have := l.size_pos; omega) (by have := r.size_pos; omega)
    show d.fn _ _ < 2 ^ (10 * (l.size + r.size))
    rw [Nat.mul_add]
    exact q
/-- a number that all deeds take -/
def Nb (i : Int) : Prop := 0 ≤ i ∧ i < 2 ^ 640
theorem nb_of {i : Int} {n : Nat} (h0 : 0 ≤ i) (h : i < 2 ^ (10 * n)) (hn : n ≤ 64) : Nb i := by
  refine ⟨h0, Int.lt_of_lt_of_le h ?_⟩
  have : (2 : Nat) ^ (10 * n) ≤ 2 ^ 640 := Nat.pow_le_pow_right (by decide) (by omega)
  exact_mod_cast this
theorem Ex.nb {kvs : List (Str × Int)} {xs : List Str} {a t : Int} (B : Bx kvs xs) (ha : 0 ≤ a ∧ a < 1024) (ht : 0 ≤ t ∧ t < 1024) {e : Ex} (h : e.good xs) (hd : e.deep ≤ 6) : Nb (e.val kvs a t) := by
  obtain ⟨h0, h1⟩ := e.val_ok B ha ht h
  refine nb_of h0 h1 (Nat.le_trans e.size_le ?_)
  exact Nat.pow_le_pow_right (by decide) hd
theorem Nb.abs {i : Int} (h : Nb i) : i.natAbs < 2 ^ 640 := by
  have h1 := h.1
  have h2 := h.2
  have e : ((2 : Nat) ^ 640 : Nat) = ((2 : Int) ^ 640).toNat := by decide +kernel
  rw [e]
  generalize (2 : Int) ^ 640 = M at *
  omega
theorem Nb.log {i : Int} (h : Nb i) : i.natAbs.log2 < 1920 := by
  by_cases z : i.natAbs = 0
  · rw [z]; decide
  · have := (Nat.log2_lt z).mpr h.abs
    omega

/-! ### trees in the heap -/
inductive ExAt (H : Hp) : V → Ex → Prop
  | num {a : Addr} {n : Int} : H a = some (.tup [.str "number", .int n]) → ExAt H (.ref a) (.num n)
  | box {a : Addr} {x : Str} : H a = some (.tup [.str "box", .str x]) → ExAt H (.ref a) (.box x)
  | asked {a : Addr} : H a = some (.tup [.str "asked"]) → ExAt H (.ref a) .asked
  | told {a : Addr} : H a = some (.tup [.str "told"]) → ExAt H (.ref a) .told
  | op {a : Addr} {d : Dd} {v u : V} {l r : Ex} : H a = some (.tup [.str d.word, v, u]) → ExAt H v l → ExAt H u r → ExAt H (.ref a) (.op d l r)
/-- the tuples stay -/
def Tups (H H' : Hp) : Prop := ∀ a xs, H a = some (.tup xs) → H' a = some (.tup xs)
theorem ExAt.keep {H H' : Hp} (k : Tups H H') {v : V} {e : Ex} (h : ExAt H v e) : ExAt H' v e := by
  induction h with
  | num h => exact .num (k _ _ h)
  | box h => exact .box (k _ _ h)
  | asked h => exact .asked (k _ _ h)
  | told h => exact .told (k _ _ h)
  | op h _ _ i1 i2 => exact .op (k _ _ h) i1 i2
theorem Same.tups {H H' : Hp} (s : Same H H') : Tups H H' := fun a xs h => s a _ h
theorem same_new {H : Hp} {p : Addr} (h : H p = none) (o : HO) : Same H (upd H p o) := fun b u q => by rw [upd_ne (ne_of_none q h)]; exact q
theorem same_refl {H : Hp} : Same H H := fun _ _ q => q
/-- all but b stays -/
def Kept (b : Addr) (H H' : Hp) : Prop := ∀ a o, a ≠ b → H a = some o → H' a = some o
theorem Kept.refl {b : Addr} {H : Hp} : Kept b H H := fun _ _ _ q => q
theorem Kept.trans {b : Addr} {H H1 H2 : Hp} (h : Kept b H H1) (g : Kept b H1 H2) : Kept b H H2 := fun a o n q => g a o n (h a o n q)
theorem Kept.of {b : Addr} {H H' : Hp} (s : Same H H') : Kept b H H' := fun a o _ q => s a o q
theorem Kept.new {b p : Addr} {H : Hp} (h : H p = none) (o : HO) : Kept b H (upd H p o) := .of (same_new h o)
theorem Kept.put {b : Addr} {H : Hp} (o : HO) : Kept b H (upd H b o) := fun a u n q => by rw [upd_ne n]; exact q
theorem Kept.tups {b : Addr} {H H' : Hp} {xs : List V} (k : Kept b H H') (hb : H b = some (.lst xs)) : Tups H H' := fun a ys q => k a _ (ne_of q hb (by intro z; cases z)) q
end Any
namespace Any
open L2 PySem

/-! ### the text, by places -/
def top (i : Nat) : Stmt := PySem.Challenge.pw_anystore_k50_beats_to_home.main.body.getD i (.Pass ⟨0, 0, 0, 0⟩)
abbrev sPlus : Stmt := top 2
abbrev sLess : Stmt := top 3
abbrev sTimes : Stmt := top 4
abbrev sOver : Stmt := top 5
abbrev sRest : Stmt := top 6
abbrev sReady : Stmt := top 9

theorem scPlus : FnScope ["left", "right"] ["left", "right"] (defScope sPlus) := ⟨rfl, rfl, rfl, by decide +kernel, rfl, by decide +kernel, by decide +kernel⟩
theorem scLess : FnScope ["left", "right"] ["left", "right"] (defScope sLess) := ⟨rfl, rfl, rfl, by decide +kernel, rfl, by decide +kernel, by decide +kernel⟩
theorem scTimes : FnScope ["left", "right"] ["left", "right"] (defScope sTimes) := ⟨rfl, rfl, rfl, by decide +kernel, rfl, by decide +kernel, by decide +kernel⟩
theorem scOver : FnScope ["left", "right"] ["left", "right"] (defScope sOver) := ⟨rfl, rfl, rfl, by decide +kernel, rfl, by decide +kernel, by decide +kernel⟩
theorem scRest : FnScope ["left", "right"] ["left", "right"] (defScope sRest) := ⟨rfl, rfl, rfl, by decide +kernel, rfl, by decide +kernel, by decide +kernel⟩
def spDeed (d : Dd) : Sp := fun vs H Q _ => ∃ i j, vs = [.int i, .int j] ∧ Nb i ∧ Nb j ∧ Q (.int (d.fn i j)) H
section
variable {P : Program} {w : World} {K : PySem.W.Frag} {mg : Str → Option Value} {base : Heap} {f : Addr} {fd : FuncData}
theorem wideMul {i j : Int} (hi : Nb i) (hj : Nb j) : CMulW i j := wide_mul hi.abs hj.abs (by decide) (by decide) (by decide)
theorem wideDiv {i j : Int} (hj : Nb j) (h : j ≠ 0) : CDivW i j := wide_div (by have := hj.1; omega) hj.abs (by decide) (by decide)
theorem ok_plus (F : Fun K "plus" "plus" sPlus f fd) : FnOk P w K mg base CX0 1 f fd ["left", "right"] (spDeed .plus) := by
  refine F.ok scPlus (fun vs H Q E h => ?_) (fun cdv A outer s H vs Q E hr h => ?_)
  · obtain ⟨i, j, rfl, _⟩ := h
    rfl
  obtain ⟨i, j, rfl, hi, hj, q⟩ := h
  exact ⟨_, pss_one (ps_ret (pe_op op_add (pv 0) (pv 1))), _, rfl, _, rfl, _, _, rfl, rfl, q⟩
theorem ok_less (F : Fun K "less" "less" sLess f fd) : FnOk P w K mg base CX0 1 f fd ["left", "right"] (spDeed .less) := by
  refine F.ok scLess (fun vs H Q E h => ?_) (fun cdv A outer s H vs Q E hr h => ?_)
  · obtain ⟨i, j, rfl, _⟩ := h
    rfl
  obtain ⟨i, j, rfl, hi, hj, q⟩ := h
  refine ⟨_, pss_cons (ps_if (pt_cmpR op_lt (pv 0) (pv 1) (nomark _)) (pss_one (ps_ret pe_int)) pss_nil) (pss_one (ps_ret (pe_op op_sub (pv 0) (pv 1)))), _, rfl, _, rfl, _, _, rfl, rfl, _, rfl, ?_⟩
  have q' : Q (.int (if i < j then 0 else i - j)) H := q
  refine ite2 (fun c => ?_) (fun c => ?_)
  · rw [if_pos (of_decide_eq_true c)] at q'
    exact q'
  · rw [if_neg (of_decide_eq_false (Bool.eq_false_iff.mpr c))] at q'
    exact ⟨_, rfl, _, rfl, _, _, rfl, rfl, q'⟩
theorem ok_times (F : Fun K "times" "times" sTimes f fd) : FnOk P w K mg base CX0 1 f fd ["left", "right"] (spDeed .times) := by
  refine F.ok scTimes (fun vs H Q E h => ?_) (fun cdv A outer s H vs Q E hr h => ?_)
  · obtain ⟨i, j, rfl, _⟩ := h
    rfl
  obtain ⟨i, j, rfl, hi, hj, q⟩ := h
  exact ⟨_, pss_one (ps_ret (pe_op op_mulW (pv 0) (pv 1))), _, rfl, _, rfl, _, _, rfl, rfl, wideMul hi hj, q⟩
theorem ok_over (F : Fun K "over" "over" sOver f fd) : FnOk P w K mg base CX0 1 f fd ["left", "right"] (spDeed .over) := by
  refine F.ok scOver (fun vs H Q E h => ?_) (fun cdv A outer s H vs Q E hr h => ?_)
  · obtain ⟨i, j, rfl, _⟩ := h
    rfl
  obtain ⟨i, j, rfl, hi, hj, q⟩ := h
  refine ⟨_, pss_cons (ps_if (pt_cmpR op_eq (pv 1) pe_int (nomark _)) (pss_one (ps_ret pe_int)) pss_nil) (pss_one (ps_ret (pe_op op_fdivW (pv 0) (pv 1)))), _, rfl, rfl, _, rfl, ?_⟩
  have q' : Q (.int (if j = 0 then 0 else i / j)) H := q
  refine ite2 (fun c => ?_) (fun c => ?_)
  · have c' : V.int j = V.int 0 := of_decide_eq_true c
    rw [if_pos (V.int.inj c')] at q'
    exact q'
  · have c' : ¬ V.int j = V.int 0 := of_decide_eq_false (Bool.eq_false_iff.mpr c)
    have nz : j ≠ 0 := fun z => c' (by rw [z])
    rw [if_neg nz] at q'
    exact ⟨_, rfl, _, rfl, _, _, rfl, rfl, wideDiv hj nz, q'⟩
theorem ok_rest (F : Fun K "rest" "rest" sRest f fd) : FnOk P w K mg base CX0 1 f fd ["left", "right"] (spDeed .rest) := by
  refine F.ok scRest (fun vs H Q E h => ?_) (fun cdv A outer s H vs Q E hr h => ?_)
  · obtain ⟨i, j, rfl, _⟩ := h
    rfl
  obtain ⟨i, j, rfl, hi, hj, q⟩ := h
  refine ⟨_, pss_cons (ps_if (pt_cmpR op_eq (pv 1) pe_int (nomark _)) (pss_one (ps_ret pe_int)) pss_nil) (pss_one (ps_ret (pe_op op_mod (pv 0) (pv 1)))), _, rfl, rfl, _, rfl, ?_⟩
  have q' : Q (.int (if j = 0 then 0 else i % j)) H := q
  refine ite2 (fun c => ?_) (fun c => ?_)
  · have c' : V.int j = V.int 0 := of_decide_eq_true c
    rw [if_pos (V.int.inj c')] at q'
    exact q'
  · have c' : ¬ V.int j = V.int 0 := of_decide_eq_false (Bool.eq_false_iff.mpr c)
    have nz : j ≠ 0 := fun z => c' (by rw [z])
    rw [if_neg nz] at q'
    exact ⟨_, rfl, _, rfl, _, _, rfl, rfl, (by have := hj.1; omega), q'⟩

/-- what the table of deeds holds -/
structure Deeds (P : Program) (w : World) (K : PySem.W.Frag) (mg : Str → Option Value) (base : Heap) : Prop where
  ex : ∃ D : Addr, mg "DEEDS" = some (.ref D) ∧ ∀ d : Dd, ∃ g : Addr, KDct K w D d.word (.ref g) ∧ PySem.W.keepIn K (.ref g) = true ∧ FnR P w K mg base CX0 1 g (spDeed d)
end
end Any
set_option maxHeartbeats 1000000
namespace Any
open L2 PySem PySem.Spec PyProof.Rows LamX NdefX
theorem itT {b : Bool} {A B : Prop} (h : b = true) (a : A) : if b = true then A else B := by
  rw [if_pos h]
  exact a
theorem itF {b : Bool} {A B : Prop} (h : b = false) (a : B) : if b = true then A else B := by
  rw [if_neg (by rw [h]; decide)]
  exact a
theorem ne_str {x y : Str} (h : x ≠ y) : decide (V.str x = V.str y) = false := decide_eq_false fun z => h (V.str.inj z)
theorem eq_str {x : Str} : decide (V.str x = V.str x) = true := decide_eq_true rfl
/-! ### the lambdas of the text -/
def ifB : Stmt → List Stmt
  | .If _ b _ _ => b
  | _ => []
def retE : Stmt → Expr
  | .Return (some e) _ => e
  | _ => .Constant .none 0 ⟨0, 0, 0, 0⟩
def stN (l : List Stmt) (i : Nat) : Stmt := l.getD i (.Pass ⟨0, 0, 0, 0⟩)
def lamP : Expr → Arguments
  | .Lambda p _ _ _ => p
  | _ => { posonlyargs := [], args := [], vararg := none, kwonlyargs := [], kw_defaults := [], kwarg := none, defaults := [] }
def lamB : Expr → Expr
  | .Lambda _ b _ _ => b
  | e => e
def lamS : Expr → Scope
  | .Lambda _ _ s _ => s
  | _ => { kind := .function, names := [], isGenerator := false, isCoroutine := false }
abbrev lamN : Expr := retE (stN (ifB (stN (defBody sReady) 1)) 1)
abbrev lamX : Expr := retE (stN (ifB (stN (defBody sReady) 2)) 1)
abbrev lamA : Expr := retE (stN (ifB (stN (defBody sReady) 3)) 0)
abbrev lamT : Expr := retE (stN (ifB (stN (defBody sReady) 4)) 0)
abbrev lamO : Expr := retE (stN (defBody sReady) 8)
abbrev psL : List Str := ["boxes", "asked", "told"]
theorem scN : NScope ["boxes", "asked", "told", "number"] psL ["number"] (lamS lamN) := nscope_by (by decide +kernel)
theorem scX : NScope ["boxes", "asked", "told", "at"] psL ["at"] (lamS lamX) := nscope_by (by decide +kernel)
theorem scA : NScope ["boxes", "asked", "told"] psL [] (lamS lamA) := nscope_by (by decide +kernel)
theorem scT : NScope ["boxes", "asked", "told"] psL [] (lamS lamT) := nscope_by (by decide +kernel)
theorem scO : NScope ["boxes", "asked", "told", "deed", "left", "right"] psL ["deed", "left", "right"] (lamS lamO) := nscope_by (by decide +kernel)
/-- F is made of the lambda L, its code object is known -/
structure Made (H : Hp) (f : Addr) (F : LF) (L : Expr) : Prop where
  at_ : H f = some (LamO f F)
  p : F.params = lamP L
  b : F.body = lamB L
  s : F.scope = lamS L
  code : H F.c = some (CodeO F.c F.qual)
theorem Made.ext {H H' : Hp} {f : Addr} {F : LF} {L : Expr} (m : Made H f F L) (e : ExtN H H') : Made H' f F L := ⟨e _ _ m.at_ lamO_ne, m.p, m.b, m.s, e _ _ m.code codeO_ne⟩
theorem CapsAt.ext {H H' : Hp} {F : LF} {fr : List Str} {ws : List V} (C : CapsAt H F fr ws) (e : ExtN H H') : CapsAt H' F fr ws := by
  refine ⟨C.len, fun y c h => ?_, C.inj, fun i y h => ?_⟩
  · obtain ⟨w, z⟩ := C.all y c h
    exact ⟨w, e _ _ z cellO_tbl⟩
  · obtain ⟨c, h1, h2⟩ := C.has i y h
    exact ⟨c, h1, fun v hv => e _ _ (h2 v hv) cellO_tbl⟩
theorem hid_ext {H H' : Hp} (e : ExtN H H') (cs : List Addr) : ExtN (hid H cs) (hid H' cs) := fun b o h n => by
  obtain ⟨nb, h⟩ := hid_some h
  rw [hid_out nb]
  exact e b o h n
theorem reT_hid (H : Hp) (cs : List Addr) : reT H (hid H cs) cs = H := by
  funext b
  by_cases h : b ∈ cs
  · exact reT_in h
  · rw [reT_out h, hid_out h]
theorem back {Q : VK} {v : V} {H : Hp} {cs : List Addr} (q : Q v H) : Q v (reT H (hid H cs) cs) := by
  rw [reT_hid]
  exact q
/-- the lambda at f tells the worth of e, by the numbers of the boxes xs; G: which def a deed's is -/
def CloE (G : Dd → Addr → Prop) (xs : List Str) : Ex → Hp → Addr → Prop
  | .num n, H, f => ∃ F, Made H f F lamN ∧ CapsAt H F ["number"] [.int n]
  | .box x, H, f => ∃ (F : LF) (i : Nat), Made H f F lamX ∧ CapsAt H F ["at"] [.int i] ∧ xs[i]? = some x ∧ ∀ j, j < i → xs[j]? ≠ some x
  | .asked, H, f => ∃ F, Made H f F lamA ∧ CapsAt H F [] []
  | .told, H, f => ∃ F, Made H f F lamT ∧ CapsAt H F [] []
  | .op d l r, H, f => ∃ (F : LF) (g fl fr : Addr), Made H f F lamO ∧ CapsAt H F ["deed", "left", "right"] [.ref g, .ref fl, .ref fr] ∧ G d g ∧ CloE G xs l (hid H F.cells) fl ∧ CloE G xs r (hid H F.cells) fr
theorem CloE.ext {G : Dd → Addr → Prop} {xs : List Str} : ∀ {e : Ex} {H H' : Hp} {f : Addr}, CloE G xs e H f → ExtN H H' → CloE G xs e H' f
  | .num n, _, _, _, ⟨F, m, c⟩, e => ⟨F, m.ext e, c.ext e⟩
  | .box x, _, _, _, ⟨F, i, m, c, h⟩, e => ⟨F, i, m.ext e, c.ext e, h⟩
  | .asked, _, _, _, ⟨F, m, c⟩, e => ⟨F, m.ext e, c.ext e⟩
  | .told, _, _, _, ⟨F, m, c⟩, e => ⟨F, m.ext e, c.ext e⟩
  | .op d l r, _, _, _, ⟨F, g, fl, fr, m, c, hg, h1, h2⟩, e => ⟨F, g, fl, fr, m.ext e, c.ext e, hg, h1.ext (hid_ext e _), h2.ext (hid_ext e _)⟩
theorem CloE.lm {G : Dd → Addr → Prop} {xs : List Str} : ∀ {e : Ex} {H : Hp} {f : Addr}, CloE G xs e H f → IsLm H f
  | .num _, _, _, ⟨F, m, _⟩ => ⟨F, m.at_⟩
  | .box _, _, _, ⟨F, _, m, _⟩ => ⟨F, m.at_⟩
  | .asked, _, _, ⟨F, m, _⟩ => ⟨F, m.at_⟩
  | .told, _, _, ⟨F, m, _⟩ => ⟨F, m.at_⟩
  | .op _ _ _, _, _, ⟨F, _, _, _, m, _⟩ => ⟨F, m.at_⟩
/-- the numbers of boxes, as they stand in a list -/
def numsV (kvs : List (Str × Int)) : List V := kvs.map fun p => .int p.2
abbrev namesOf (kvs : List (Str × Int)) : List Str := kvs.map (·.1)
theorem look_at : ∀ {kvs : List (Str × Int)} {i : Nat} {x : Str}, (namesOf kvs)[i]? = some x → (∀ j, j < i → (namesOf kvs)[j]? ≠ some x) → ∃ n, look kvs x = some n ∧ (numsV kvs)[i]? = some (.int n)
  | [], i, x, h, _ => by simp at h
  | p :: r, 0, x, h, _ => by
    have h : p.1 = x := Option.some.inj h
    refine ⟨p.2, ?_, rfl⟩
    unfold look
    rw [List.find?_cons, decide_eq_true h]
    rfl
  | p :: r, i + 1, x, h, n => by
    have h0 : p.1 ≠ x := fun z => n 0 (by omega) (by rw [← z]; rfl)
    obtain ⟨m, e1, e2⟩ := look_at (kvs := r) (i := i) h (fun j hj => n (j + 1) (by omega))
    refine ⟨m, ?_, e2⟩
    unfold look at e1 ⊢
    rw [List.find?_cons, decide_eq_false h0]
    exact e1
def DeedIs (P : Program) (w : World) (K : PySem.W.Frag) (mg : Str → Option Value) (base : Heap) (d : Dd) (g : Addr) : Prop := PySem.W.keepIn K (.ref g) = true ∧ FnR P w K mg base CX0 1 g (spDeed d)
def spClo (G : Dd → Addr → Prop) (n : Nat) (f : Addr) : Sp := fun vs H Q _ => ∃ (e : Ex) (kvs : List (Str × Int)) (xs : List Str) (b : Addr) (a t : Int), vs = [.ref b, .int a, .int t] ∧ e.deep ≤ n ∧ e.deep ≤ 6 ∧ H b = some (.lst (numsV kvs)) ∧ CloE G (namesOf kvs) e H f ∧ e.good xs ∧ Bx kvs xs ∧
  (0 ≤ a ∧ a < 1024) ∧ (0 ≤ t ∧ t < 1024) ∧ Q (.int (e.val kvs a t)) H
section
variable {P : Program} {w : World} {K : PySem.W.Frag} {mg : Str → Option Value} {base : Heap}
theorem lst_hid {H : Hp} {F : LF} {fr : List Str} {ws xs : List V} {b : Addr} (C : CapsAt H F fr ws) (h : H b = some (.lst xs)) : hid H F.cells b = some (.lst xs) := by
  rw [hid_out fun z => ?_]
  · exact h
  · obtain ⟨w, e⟩ := C.cell z
    rw [h] at e
    unfold CellO at e
    cases e
theorem no_clo : FnL P w K mg base 0 (spClo (DeedIs P w K mg base) 0) := fun f A outer s H us vs Q _ _ _ h => by
  obtain ⟨e, kvs, xs, b, a, t, _, hd, _⟩ := h
  cases e <;> exact absurd hd (by show ¬ _ ≤ 0; exact Nat.not_succ_le_zero _)
theorem ok_clo {n : Nat} (G : FnL P w K mg base (n + 1) (spClo (DeedIs P w K mg base) n)) : FnL P w K mg base (n + 2) (spClo (DeedIs P w K mg base) (n + 1)) := by
  intro f A outer s H us vs Q hr e0 rv h
  obtain ⟨e, kvs, xs, b, a, t, rfl, hd, hd6, hb, hc, hg, B, ha, ht, q⟩ := h
  cases e with
  | num m =>
    obtain ⟨⟨qu, pa, bo, sc, cl, co⟩, M, C⟩ := hc
    obtain ⟨m1, rfl, rfl, rfl, m5⟩ := M
    refine lam_run (k := n + 1) (N := ["boxes", "asked", "told", "number"]) (ws := [.int m]) scN (fun pm ctv us hl => match us, hl with | [_, _, _], _ => rfl) hr e0 m1 m5 C rv rfl fun hr => ⟨_, pv 3, _, rfl, ?_⟩
    exact back q
  | box x =>
    obtain ⟨⟨qu, pa, bo, sc, cl, co⟩, i, M, C, hi, hj⟩ := hc
    obtain ⟨m1, rfl, rfl, rfl, m5⟩ := M
    obtain ⟨m, e1, e2⟩ := look_at hi hj
    refine lam_run (k := n + 1) (N := ["boxes", "asked", "told", "at"]) (ws := [.int i]) scX (fun pm ctv us hl => match us, hl with | [_, _, _], _ => rfl) hr e0 m1 m5 C rv rfl fun hr => ⟨_, pe_ix ix_list (pv 0) (pv 3) (fun _ _ => rfl), _, rfl, _, rfl, b, _, _, _, rfl, rfl, SqL.of (lst_hid C hb), atI_nat e2, ?_⟩
    refine back ?_
    have q' : Q (.int ((look kvs x).getD 0)) H := q
    rw [e1] at q'
    exact q'
  | asked =>
    obtain ⟨⟨qu, pa, bo, sc, cl, co⟩, M, C⟩ := hc
    obtain ⟨m1, rfl, rfl, rfl, m5⟩ := M
    refine lam_run (k := n + 1) (N := ["boxes", "asked", "told"]) (ws := []) scA (fun pm ctv us hl => match us, hl with | [_, _, _], _ => rfl) hr e0 m1 m5 C rv rfl fun hr => ⟨_, pv 1, _, rfl, ?_⟩
    exact back q
  | told =>
    obtain ⟨⟨qu, pa, bo, sc, cl, co⟩, M, C⟩ := hc
    obtain ⟨m1, rfl, rfl, rfl, m5⟩ := M
    refine lam_run (k := n + 1) (N := ["boxes", "asked", "told"]) (ws := []) scT (fun pm ctv us hl => match us, hl with | [_, _, _], _ => rfl) hr e0 m1 m5 C rv rfl fun hr => ⟨_, pv 2, _, rfl, ?_⟩
    exact back q
  | op d l r =>
    obtain ⟨⟨qu, pa, bo, sc, cl, co⟩, g, fl, fr, M, C, ⟨kk, FR⟩, h1, h2⟩ := hc
    obtain ⟨m1, rfl, rfl, rfl, m5⟩ := M
    have dl : l.deep ≤ n := Nat.le_trans (Nat.le_max_left ..) (Nat.le_of_succ_le_succ hd)
    have dr : r.deep ≤ n := Nat.le_trans (Nat.le_max_right ..) (Nat.le_of_succ_le_succ hd)
    have dl6 : l.deep ≤ 6 := Nat.le_trans (Nat.le_max_left ..) (Nat.le_of_succ_le hd6)
    have dr6 : r.deep ≤ 6 := Nat.le_trans (Nat.le_max_right ..) (Nat.le_of_succ_le hd6)
    refine lam_run (k := n + 1) (N := ["boxes", "asked", "told", "deed", "left", "right"]) (ws := [.ref g, .ref fl, .ref fr]) scO (fun pm ctv us hl => match us, hl with | [_, _, _], _ => rfl) hr e0 m1 m5 C rv rfl fun hr =>
      ⟨_, pe_callS (k := 1) (i := 3) (hr.mono (by omega)) pass0 rfl (.inr (.inr rfl)) (pa_cons (pe_callL (i := 4) G hr rfl (.inr (.inr rfl)) (pa_cons (pv 0) (pa_cons (pv 1) (pa_cons (pv 2) pa_nil)))) (pa_cons (pe_callL (i := 5) G hr rfl (.inr (.inr rfl)) (pa_cons (pv 0) (pa_cons (pv 1) (pa_cons (pv 2) pa_nil)))) pa_nil)), ?_⟩
    refine ⟨g, spDeed d, FR, kk, rfl, fl, rfl, h1.lm, _, rfl, _, rfl, _, rfl, h1.lm, l, kvs, xs, b, a, t, rfl, dl, dl6, lst_hid C hb, h1, hg.1, B, ha, ht, ?_⟩
    refine ⟨fr, rfl, h2.lm, _, rfl, _, rfl, _, rfl, h2.lm, r, kvs, xs, b, a, t, rfl, dr, dr6, lst_hid C hb, h2, hg.2, B, ha, ht, ?_⟩
    refine ⟨_, _, rfl, Ex.nb B ha ht hg.1 dl6, Ex.nb B ha ht hg.2 dr6, ?_⟩
    exact back q
theorem all_clo : ∀ n : Nat, FnL P w K mg base (n + 1) (spClo (DeedIs P w K mg base) n)
  | 0 => no_clo.mono (by omega)
  | n + 1 => ok_clo (all_clo n)
end
end Any
set_option maxHeartbeats 1000000
namespace Any
open L2 PySem PySem.Spec PyProof.Rows LamX NdefX
/-! ### heaps that grow, tables aside -/
structure Gr (T : List NTab) (H H' : Hp) : Prop where
  ext : ExtN H H'
  no : ∀ b, H' b = none → H b = none
  tabs : TabsN T H'
theorem Gr.refl {T : List NTab} {H : Hp} (t : TabsN T H) : Gr T H H := ⟨ExtN.refl H, fun _ z => z, t⟩
theorem Gr.trans {T : List NTab} {H H1 H2 : Hp} (a : Gr T H H1) (b : Gr T H1 H2) : Gr T H H2 := ⟨a.ext.trans b.ext, fun c z => a.no c (b.no c z), b.tabs⟩
theorem same_no {H H' : Hp} (s : Same H H') : ∀ b, H' b = none → H b = none := fun b z => by
  cases e : H b with
  | none => rfl
  | some o => rw [s b o e] at z; cases z
theorem Gr.same {T : List NTab} {H H1 H2 : Hp} (a : Gr T H H1) (s : Same H1 H2) : Gr T H H2 := ⟨a.ext.trans (ExtN.of s), fun c z => a.no c (same_no s c z), a.tabs.ext s⟩
theorem Gr.of {T : List NTab} {H H' : Hp} (t : TabsN T H) (s : Same H H') : Gr T H H' := (Gr.refl t).same s
theorem Gr.tup {T : List NTab} {H H' : Hp} (g : Gr T H H') {a : Addr} {xs : List V} (h : H a = some (.tup xs)) : H' a = some (.tup xs) := g.ext _ _ h fun _ z => by cases z
theorem Gr.lst {T : List NTab} {H H' : Hp} (g : Gr T H H') {a : Addr} {xs : List V} (h : H a = some (.lst xs)) : H' a = some (.lst xs) := g.ext _ _ h fun _ z => by cases z
theorem Gr.dK {T : List NTab} {H H' : Hp} (g : Gr T H H') {a : Addr} {xs : List (Key × V)} (h : H a = some (.dK xs)) : H' a = some (.dK xs) := g.ext _ _ h fun _ z => by cases z
theorem Gr.tups {T : List NTab} {H H' : Hp} (g : Gr T H H') : Tups H H' := fun _ _ h => g.tup h
/-! ### a def that hands back a lambda -/
structure FunC (K : PySem.W.Frag) (x qual : Str) (st : Stmt) (f : Addr) (fd : FuncData) (c : Addr) : Prop where
  ex : ∃ (oc : Value) (od : Option Addr) (kV doc pm : Value) (an : Option Addr) (ct : Value) (osl : Array (Option Value)),
    fd = PySem.W.fnOf x qual (defArgs st) (defBody st) (defScope st) .none kV doc pm an (.ref c) ct ∧ K.lookup f = some ⟨oc, od, .func fd, osl⟩ ∧ PySem.W.codeIn K (.ref c) qual = true
  kp : PySem.W.keepIn K (.ref f) = true
section
variable {P : Program} {w : World} {K : PySem.W.Frag} {mg : Str → Option Value} {base : Heap} {f c : Addr} {fd : FuncData}
theorem fun_c {x ql : Str} {st : Stmt} {N ps : List Str} {k : Nat} {sp : Sp} (F : FunC K x ql st f fd c) (S : FnScope N ps (defScope st)) (ln : ∀ vs H Q E, sp vs H Q E → vs.length = ps.length)
    (hb : ∀ (A : Around) (out : List Env) (s : Shared) (H : Hp) (vs : List V) (Q : VK) (E : XK), Room k (A.deeper (envOfC ql (defScope st) s.heap.objs.size f (.ref c))) → sp vs H Q E →
      ∃ t, PRs (cxOf CX0 P w K mg base N ql (defScope st) f (.ref c) A out s H E) (defBody st) t ∧ t ⟨fun _ H' => Q .non H', RetC N (defScope st) s.heap.objs.size Q⟩ (L2.start N vs) H) : FnOk P w K mg base CX0 (k + 1) f fd ps sp := by
  obtain ⟨_, _, _, _, _, _, _, _, rfl, lk, hc⟩ := F.ex
  exact fn_c lk hc S ln hb
theorem FunC.binds {x ql : Str} {st : Stmt} {ps : List Str} (F : FunC K x ql st f fd c) (h : ∀ (kV doc pm : Value) (an : Option Addr) (ct : Value) (us : List Value), us.length = ps.length → bindArgs (PySem.W.fnOf x ql (defArgs st) (defBody st) (defScope st) .none kV doc pm an (.ref c) ct) ⟨us, []⟩ = pure (ps.zip us)) : Binds K fd ps [] := by
  obtain ⟨_, _, kV, doc, pm, an, ct, _, rfl, lk, hc⟩ := F.ex
  intro s us _ hl
  rw [List.append_nil] at hl ⊢
  exact .of_eq (h kV doc pm an ct us hl)
/-- the captured names are known at the end -/
theorem caps_ret {N N2 ps fr : List Str} {sc nsc : Scope} {L : Addr} {σ : L2.St} {H' H'' : Hp} {F : LF} {ws : List V}
    (R : ∀ (x : Str) (c : Addr) (i : Nat) (u : V), (cellsFrom (L + 1) sc.names []).lookup x = some c → N[i]? = some x → σ[i]? = some (some u) → sc.names.lookup x = some .cell → H' c = none ∧ H'' c = some (CellO c u))
    (inj : ∀ x y c, (cellsFrom (L + 1) sc.names []).lookup x = some c → (cellsFrom (L + 1) sc.names []).lookup y = some c → x = y)
    (hcl : F.cl = cloFrom (cellsFrom (L + 1) sc.names []) nsc.names []) (S : NScope N2 ps fr nsc) (cel : ∀ y ∈ fr, sc.names.lookup y = some .cell) (len : ws.length = fr.length)
    (at_ : ∀ (i : Nat) (y : Str), fr[i]? = some y → ∃ (j : Nat) (u : V), N[j]? = some y ∧ σ[j]? = some (some u) ∧ ws[i]? = some u) : CapsAt H'' F fr ws ∧ ∀ b ∈ F.cells, H' b = none := by
  have hfree : ∀ y ∈ nsc.names, y.2 = .free → ∃ c, (cellsFrom (L + 1) sc.names []).lookup y.1 = some c := fun y hy e => cell_has (cel _ (S.free y hy e))
  have sub : ∀ {y c}, F.cl.lookup y = some c → (cellsFrom (L + 1) sc.names []).lookup y = some c := fun {y c} e => by
    rw [hcl] at e
    exact clo_cm hfree e
  have infr : ∀ {y c}, F.cl.lookup y = some c → y ∈ fr := fun {y c} e => by
    rw [hcl] at e
    rcases cloFrom_mem (PySem.mem_of_lookup e) with hm | ⟨h1, _⟩
    · cases hm
    · exact S.free _ h1 rfl
  have one : ∀ {y c}, F.cl.lookup y = some c → ∃ u, H' c = none ∧ H'' c = some (CellO c u) := fun {y c} e => by
    have hy := infr e
    obtain ⟨i, hi⟩ := List.mem_iff_getElem?.mp hy
    obtain ⟨j, u, j1, j2, _⟩ := at_ i y hi
    exact ⟨u, R y c j u (sub e) j1 j2 (cel y hy)⟩
  refine ⟨⟨len, fun y c e => ?_, fun x y c e1 e2 => inj x y c (sub e1) (sub e2), fun i y e => ?_⟩, fun b hb => ?_⟩
  · obtain ⟨u, _, z⟩ := one e
    exact ⟨u, z⟩
  · have hy := List.mem_of_getElem? e
    obtain ⟨c, hc⟩ := cell_has (n := L + 1) (cel y hy)
    refine ⟨c, ?_, fun v hv => ?_⟩
    · rw [hcl]
      exact clo_has hfree (PySem.mem_of_lookup (S.frk y hy)) hc
    · obtain ⟨j, u, j1, j2, j3⟩ := at_ i y e
      rw [hv] at j3
      cases j3
      exact (R y c j v hc j1 j2 (cel y hy)).2
  · obtain ⟨y, e⟩ := F.of_cells hb
    obtain ⟨u, z, _⟩ := one e
    exact z
end
/-! ### ready_worth -/
abbrev nmReady : List Str := ["expression", "owns", "kind", "number", "at", "deed", "left", "right"]
abbrev psReady : List Str := ["expression", "owns"]
theorem scReady : FnScope nmReady psReady (defScope sReady) := ⟨rfl, rfl, rfl, by decide +kernel, rfl, by decide +kernel, by decide +kernel⟩
/-- the lambdas' own name -/
def qReady : Str := (envOfC "ready_worth" (defScope sReady) 0 0 .none).qual ++ "<lambda>"
/-- a lambda that ready_worth made, its frame at L0 -/
abbrev mkReady (L : Expr) (L0 c' : Addr) : LF := ⟨qReady, lamP L, lamB L, lamS L, cloFrom (cellsFrom (L0 + 1) (defScope sReady).names []) (lamS L).names [], c'⟩
def spReady (T : List NTab) (G : Dd → Addr → Prop) (n : Nat) : Sp := fun vs H Q _ => ∃ (v : V) (o : Addr) (e : Ex) (xs : List Str), vs = [v, .ref o] ∧ ExAt H v e ∧ e.deep ≤ n ∧ e.good xs ∧ H o = some (.lst (xs.map V.str)) ∧ TabsN T H ∧
  ∀ f H', Gr T H H' → CloE G xs e H' f → Q (.ref f) H'
/-- the first place of a name -/
theorem first_at {x : Str} : ∀ {xs : List Str}, x ∈ xs → ∃ i : Nat, xs[i]? = some x ∧ ∀ j, j < i → xs[j]? ≠ some x
  | y :: r, h => by
    by_cases e : y = x
    · exact ⟨0, by rw [e]; rfl, fun j hj => absurd hj (Nat.not_lt_zero _)⟩
    · rcases List.mem_cons.mp h with z | z
      · exact absurd z.symm e
      · obtain ⟨i, h1, h2⟩ := first_at z
        refine ⟨i + 1, h1, fun j hj => ?_⟩
        cases j with
        | zero => exact fun z => e (Option.some.inj z)
        | succ j => exact h2 j (by omega)
theorem strs_flat : ∀ xs : List Str, (xs.map V.str).all flatV = true
  | [] => rfl
  | x :: r => by
    rw [List.map_cons, List.all_cons, strs_flat r]
    rfl
/-- the table of deeds, each a def that keeps its promise -/
structure DeedsT (P : Program) (w : World) (K : PySem.W.Frag) (mg : Str → Option Value) (base : Heap) : Prop where
  ex : ∃ D : Addr, mg "DEEDS" = some (.ref D) ∧ ∀ d : Dd, ∃ g : Addr, KDct K w D d.word (.ref g) ∧ DeedIs P w K mg base d g
section
variable {P : Program} {w : World} {K : PySem.W.Frag} {mg : Str → Option Value} {base : Heap} {f c Pt : Addr} {fd : FuncData} {T : List NTab}
theorem no_ready : FnOk P w K mg base CX0 0 f fd psReady (spReady T (DeedIs P w K mg base) 0) := by
  have no : ∀ vs H Q E, ¬ spReady T (DeedIs P w K mg base) 0 vs H Q E := fun vs H Q E h => by
    obtain ⟨v, o, e, xs, _, _, hd, _⟩ := h
    cases e <;> exact absurd hd (by show ¬ _ ≤ 0; exact Nat.not_succ_le_zero _)
  exact ⟨fun vs H Q E h => absurd h (no vs H Q E), fun A outer s H args us vs Q E _ _ _ _ h => absurd h (no vs H Q E)⟩
theorem ok_ready {n : Nat} (F : FunC K "ready_worth" "ready_worth" sReady f fd c) (TB : TabB base mg c Pt) (hm : (Pt, fun _ _ => qReady) ∈ T) (hu : ∀ p ∈ T, p.1 = Pt → p.2 = fun _ _ => qReady) (G : FnOk P w K mg base CX0 (n + 1) f fd psReady (spReady T (DeedIs P w K mg base) n))
    (D : DeedsT P w K mg base) (mR : mg "ready_worth" = some (.ref f)) (bR : Binds K fd psReady []) : FnOk P w K mg base CX0 (n + 2) f fd psReady (spReady T (DeedIs P w K mg base) (n + 1)) := by
  refine fun_c F scReady (fun vs H Q E h => ?_) (fun A outer s H vs Q E hr h => ?_)
  · obtain ⟨v, o, e, xs, rfl, _⟩ := h
    rfl
  obtain ⟨v, o, e, xs, rfl, hv, hd, hg, ho, hT, q⟩ := h
  obtain ⟨DA, mD, hD⟩ := D.ex
  let X := cxOf CX0 P w K mg base nmReady "ready_worth" (defScope sReady) f (.ref c) A outer s H E
  have TBx : TabB X.base X.mg c Pt := TB
  refine ⟨_, prs_cons (pr_go (ps_set (i := 2) scReady.nd rfl (Or.inl rfl) (pe_ix ix_tup (pv 0) pe_int (fun _ _ => rfl))))
    (prs_cons (pr_if (pt_cmpR op_eq (pv 2) pe_str (nomark _)) (prs_cons (pr_go (ps_set (i := 3) scReady.nd rfl (Or.inr rfl) (pe_ix ix_tup (pv 0) pe_int (fun _ _ => rfl)))) (prs_one (pr_ret (pe_lamb TBx rfl hm rfl hu rfl (ndef_free (sc := defScope sReady) (fr := []) (by decide +kernel)))))) prs_nil)
    (prs_cons (pr_if (pt_cmpR op_eq (pv 2) pe_str (nomark _)) (prs_cons (pr_go (ps_set (i := 4) scReady.nd rfl (Or.inr rfl) (pe_bm PySem.F.plainAttrs_list PySem.F.slot_list_index PySem.F.type_list_index mt_index (pv 1) (pa_cons (pe_ix ix_tup (pv 0) pe_int (fun _ _ => rfl)) pa_nil)))) (prs_one (pr_ret (pe_lamb TBx rfl hm rfl hu rfl (ndef_free (sc := defScope sReady) (fr := []) (by decide +kernel)))))) prs_nil)
    (prs_cons (pr_if (pt_cmpR op_eq (pv 2) pe_str (nomark _)) (prs_one (pr_ret (pe_lamb TBx rfl hm rfl hu rfl (ndef_free (sc := defScope sReady) (fr := []) (by decide +kernel))))) prs_nil)
    (prs_cons (pr_if (pt_cmpR op_eq (pv 2) pe_str (nomark _)) (prs_one (pr_ret (pe_lamb TBx rfl hm rfl hu rfl (ndef_free (sc := defScope sReady) (fr := []) (by decide +kernel))))) prs_nil)
    (prs_cons (pr_go (ps_set (i := 5) scReady.nd rfl (Or.inr rfl) (pe_ix ix_kdict (pe_glob (v := .ref DA) rfl mD rfl) (pv 2) (fun _ _ => rfl))))
    (prs_cons (pr_go (ps_set (i := 6) scReady.nd rfl (Or.inr rfl) (pe_call G hr rfl mR F.kp bR .nil pass0 (pa_cons (pe_ix ix_tup (pv 0) pe_int (fun _ _ => rfl)) (pa_cons (pv 1) pa_nil)))))
    (prs_cons (pr_go (ps_set (i := 7) scReady.nd rfl (Or.inr rfl) (pe_call G hr rfl mR F.kp bR .nil pass0 (pa_cons (pe_ix ix_tup (pv 0) pe_int (fun _ _ => rfl)) (pa_cons (pv 1) pa_nil)))))
    (prs_one (pr_ret (pe_lamb TBx rfl hm rfl hu rfl (ndef_free (sc := defScope sReady) (fr := []) (by decide +kernel)))))))))))), ?_⟩
  cases hv with
  | num h =>
    rename_i a m
    refine ⟨_, rfl, _, _, _, _, rfl, rfl, SqT.of h, atI_nat (j := 0) rfl, ?_⟩
    refine ⟨_, rfl, rfl, _, rfl, itT eq_str ?_⟩
    refine ⟨_, rfl, _, _, _, _, rfl, rfl, SqT.of h, atI_nat (j := 1) rfl, hT, fun g c' H1 eN nn T1 f0 f1 c1 H2 sm R _ inj => ?_⟩
    obtain ⟨C, _⟩ := caps_ret (F := mkReady lamN s.heap.objs.size c') (ws := [.int m]) R inj rfl scN (by decide +kernel) rfl fun i y e => match i, e with | 0, e => by cases e; exact ⟨3, _, rfl, rfl, rfl⟩ | _ + 1, e => by cases e
    exact q g H2 ⟨eN.trans (ExtN.of sm), fun b z => nn b (same_no sm b z), T1.ext sm⟩ ⟨_, ⟨sm _ _ f1, rfl, rfl, rfl, sm _ _ c1⟩, C⟩
  | box h =>
    rename_i a x
    obtain ⟨i, i1, i2⟩ := first_at hg
    refine ⟨_, rfl, _, _, _, _, rfl, rfl, SqT.of h, atI_nat (j := 0) rfl, ?_⟩
    refine ⟨_, rfl, rfl, _, rfl, itF (ne_str (by decide)) ?_⟩
    refine ⟨_, rfl, rfl, _, rfl, itT eq_str ?_⟩
    refine ⟨_, rfl, .inl ⟨rfl, _, SqL.of ho⟩, _, rfl, _, _, _, _, rfl, rfl, SqT.of h, atI_nat (j := 1) rfl, o, _, _, i, .str x, rfl, rfl, SqL.of ho, rfl, strs_flat xs, by rw [List.getElem?_map, i1]; rfl, by simp [eqV], fun j z hj hz => ?_, ?_⟩
    · rw [List.getElem?_map] at hz
      cases ez : xs[j]? with
      | none => rw [ez] at hz; cases hz
      | some y =>
        rw [ez] at hz
        cases hz
        have : y ≠ x := fun e => i2 j hj (by rw [ez, e])
        simp [eqV, this]
    · refine ⟨hT, fun g c' H1 eN nn T1 f0 f1 c1 H2 sm R _ inj => ?_⟩
      obtain ⟨C, _⟩ := caps_ret (F := mkReady lamX s.heap.objs.size c') (ws := [.int i]) R inj rfl scX (by decide +kernel) rfl fun i y e => match i, e with | 0, e => by cases e; exact ⟨4, _, rfl, rfl, rfl⟩ | _ + 1, e => by cases e
      exact q g H2 ⟨eN.trans (ExtN.of sm), fun b z => nn b (same_no sm b z), T1.ext sm⟩ ⟨_, i, ⟨sm _ _ f1, rfl, rfl, rfl, sm _ _ c1⟩, C, i1, i2⟩
  | asked h =>
    refine ⟨_, rfl, _, _, _, _, rfl, rfl, SqT.of h, atI_nat (j := 0) rfl, ?_⟩
    refine ⟨_, rfl, rfl, _, rfl, itF (ne_str (by decide)) ?_⟩
    refine ⟨_, rfl, rfl, _, rfl, itF (ne_str (by decide)) ?_⟩
    refine ⟨_, rfl, rfl, _, rfl, itT eq_str ?_⟩
    refine ⟨hT, fun g c' H1 eN nn T1 f0 f1 c1 H2 sm R _ inj => ?_⟩
    obtain ⟨C, _⟩ := caps_ret (F := mkReady lamA s.heap.objs.size c') (ws := []) R inj rfl scA (by decide +kernel) rfl fun i y e => by cases e
    exact q g H2 ⟨eN.trans (ExtN.of sm), fun b z => nn b (same_no sm b z), T1.ext sm⟩ ⟨_, ⟨sm _ _ f1, rfl, rfl, rfl, sm _ _ c1⟩, C⟩
  | told h =>
    refine ⟨_, rfl, _, _, _, _, rfl, rfl, SqT.of h, atI_nat (j := 0) rfl, ?_⟩
    refine ⟨_, rfl, rfl, _, rfl, itF (ne_str (by decide)) ?_⟩
    refine ⟨_, rfl, rfl, _, rfl, itF (ne_str (by decide)) ?_⟩
    refine ⟨_, rfl, rfl, _, rfl, itF (ne_str (by decide)) ?_⟩
    refine ⟨_, rfl, rfl, _, rfl, itT eq_str ?_⟩
    refine ⟨hT, fun g c' H1 eN nn T1 f0 f1 c1 H2 sm R _ inj => ?_⟩
    obtain ⟨C, _⟩ := caps_ret (F := mkReady lamT s.heap.objs.size c') (ws := []) R inj rfl scT (by decide +kernel) rfl fun i y e => by cases e
    exact q g H2 ⟨eN.trans (ExtN.of sm), fun b z => nn b (same_no sm b z), T1.ext sm⟩ ⟨_, ⟨sm _ _ f1, rfl, rfl, rfl, sm _ _ c1⟩, C⟩
  | op h h1 h2 =>
    rename_i p d x y l r
    have w1 : d.word ≠ "number" ∧ d.word ≠ "box" ∧ d.word ≠ "asked" ∧ d.word ≠ "told" := by cases d <;> decide
    obtain ⟨g, kd, gd⟩ := hD d
    have dl : l.deep ≤ n := Nat.le_trans (Nat.le_max_left ..) (Nat.le_of_succ_le_succ hd)
    have dr : r.deep ≤ n := Nat.le_trans (Nat.le_max_right ..) (Nat.le_of_succ_le_succ hd)
    refine ⟨_, rfl, _, _, _, _, rfl, rfl, SqT.of h, atI_nat (j := 0) rfl, ?_⟩
    refine ⟨_, rfl, rfl, _, rfl, itF (ne_str w1.1) ?_⟩
    refine ⟨_, rfl, rfl, _, rfl, itF (ne_str w1.2.1) ?_⟩
    refine ⟨_, rfl, rfl, _, rfl, itF (ne_str w1.2.2.1) ?_⟩
    refine ⟨_, rfl, rfl, _, rfl, itF (ne_str w1.2.2.2) ?_⟩
    refine ⟨_, rfl, DA, d.word, .ref g, rfl, rfl, kd, ?_⟩
    refine ⟨_, rfl, _, _, _, _, rfl, rfl, SqT.of h, atI_nat (j := 1) rfl, _, rfl, x, o, l, xs, rfl, h1, dl, hg.1, ho, hT, fun fl H1 g1 cl1 => ?_⟩
    refine ⟨_, rfl, _, _, _, _, rfl, rfl, SqT.of (g1.tup h), atI_nat (j := 2) rfl, _, rfl, y, o, r, xs, rfl, h2.keep g1.tups, dr, hg.2, g1.lst ho, g1.tabs, fun fr H2 g2 cl2 => ?_⟩
    refine ⟨g2.tabs, fun fo c' H3 eN nn T3 f0 f1 c1 H4 sm R _ inj => ?_⟩
    obtain ⟨C, cn⟩ := caps_ret (F := mkReady lamO s.heap.objs.size c') (ws := [.ref g, .ref fl, .ref fr]) R inj rfl scO (by decide +kernel) rfl fun i y e => match i, e with | 0, e => by cases e; exact ⟨5, _, rfl, rfl, rfl⟩ | 1, e => by cases e; exact ⟨6, _, rfl, rfl, rfl⟩ | 2, e => by cases e; exact ⟨7, _, rfl, rfl, rfl⟩ | _ + 3, e => by cases e
    have g12 := g1.trans g2
    have ex : ∀ cs : List Addr, (∀ b ∈ cs, H3 b = none) → ExtN H3 (hid H4 cs) := fun cs hc b o hb _ => by
      rw [hid_out (fun z => by rw [hc b z] at hb; cases hb)]
      exact sm _ _ hb
    refine q fo H4 ⟨(g12.ext.trans eN).trans (ExtN.of sm), fun b z => g12.no b (nn b (same_no sm b z)), T3.ext sm⟩ ⟨_, g, fl, fr, ⟨sm _ _ f1, rfl, rfl, rfl, sm _ _ c1⟩, C, gd, ?_, ?_⟩
    · exact ((cl1.ext g2.ext).ext eN).ext (ex _ cn)
    · exact (cl2.ext eN).ext (ex _ cn)
theorem all_ready (F : FunC K "ready_worth" "ready_worth" sReady f fd c) (TB : TabB base mg c Pt) (hm : (Pt, fun _ _ => qReady) ∈ T) (hu : ∀ p ∈ T, p.1 = Pt → p.2 = fun _ _ => qReady) (D : DeedsT P w K mg base) (mR : mg "ready_worth" = some (.ref f)) (bR : Binds K fd psReady []) :
    ∀ n : Nat, FnOk P w K mg base CX0 (n + 1) f fd psReady (spReady T (DeedIs P w K mg base) n)
  | 0 => no_ready.mono (by omega)
  | n + 1 => ok_ready F TB hm hu (all_ready F TB hm hu D mR bR n) D mR bR
end
theorem bx_names : ∀ kvs : List (Str × Int), (bx kvs).map (fun kv => kV kv.1) = (namesOf kvs).map V.str
  | [] => rfl
  | p :: r => by
    have ih := bx_names r
    unfold bx namesOf at ih ⊢
    rw [List.map_cons, List.map_cons, List.map_cons, List.map_cons, ih]
    rfl
theorem bx_nums : ∀ kvs : List (Str × Int), (bx kvs).map (·.2) = numsV kvs
  | [] => rfl
  | p :: r => by
    have ih := bx_nums r
    unfold bx numsV at ih ⊢
    rw [List.map_cons, List.map_cons, List.map_cons, ih]
theorem look_in : ∀ {kvs : List (Str × Int)} {x : Str} {n : Int}, look kvs x = some n → x ∈ namesOf kvs
  | [], x, n, h => by cases h
  | p :: r, x, n, h => by
    by_cases e : p.1 = x
    · rw [← e]
      exact List.mem_cons_self ..
    · refine List.mem_cons_of_mem _ (look_in (n := n) ?_)
      unfold look at h ⊢
      rw [List.find?_cons, decide_eq_false e] at h
      exact h
theorem Ex.good_of {kvs : List (Str × Int)} {xs : List Str} (B : Bx kvs xs) : ∀ {e : Ex}, e.good xs → e.good (namesOf kvs)
  | .num _, h => h
  | .box x, h => by
    obtain ⟨n, e, _⟩ := B.all x h
    exact look_in e
  | .asked, _ => trivial
  | .told, _ => trivial
  | .op _ l r, h => ⟨Ex.good_of B h.1, Ex.good_of B h.2⟩
end Any
set_option maxHeartbeats 1000000
namespace Any
open L2 PySem PySem.Spec PyProof.Rows LamX NdefX
/-! ### tests as trees -/
inductive Ts
  | is (l r : Ex) | bel (l r : Ex) | nt (t : Ts) | both (t u : Ts) | either (t u : Ts)
def Ts.deep : Ts → Nat
  | .is _ _ => 1
  | .bel _ _ => 1
  | .nt t => t.deep + 1
  | .both t u => max t.deep u.deep + 1
  | .either t u => max t.deep u.deep + 1
/-- of these boxes, its expressions not too deep -/
def Ts.good (xs : List Str) : Ts → Prop
  | .is l r => (l.good xs ∧ l.deep ≤ 6) ∧ (r.good xs ∧ r.deep ≤ 6)
  | .bel l r => (l.good xs ∧ l.deep ≤ 6) ∧ (r.good xs ∧ r.deep ≤ 6)
  | .nt t => t.good xs
  | .both t u => t.good xs ∧ u.good xs
  | .either t u => t.good xs ∧ u.good xs
def Ts.val (kvs : List (Str × Int)) (a t : Int) : Ts → Bool
  | .is l r => decide (l.val kvs a t = r.val kvs a t)
  | .bel l r => decide (l.val kvs a t < r.val kvs a t)
  | .nt x => !x.val kvs a t
  | .both x y => x.val kvs a t && y.val kvs a t
  | .either x y => x.val kvs a t || y.val kvs a t
inductive TsAt (H : Hp) : V → Ts → Prop
  | is {a : Addr} {v u : V} {l r : Ex} : H a = some (.tup [.str "is", v, u]) → ExAt H v l → ExAt H u r → TsAt H (.ref a) (.is l r)
  | bel {a : Addr} {v u : V} {l r : Ex} : H a = some (.tup [.str "below", v, u]) → ExAt H v l → ExAt H u r → TsAt H (.ref a) (.bel l r)
  | nt {a : Addr} {v : V} {t : Ts} : H a = some (.tup [.str "not", v]) → TsAt H v t → TsAt H (.ref a) (.nt t)
  | both {a : Addr} {v u : V} {l r : Ts} : H a = some (.tup [.str "both", v, u]) → TsAt H v l → TsAt H u r → TsAt H (.ref a) (.both l r)
  | either {a : Addr} {v u : V} {l r : Ts} : H a = some (.tup [.str "either", v, u]) → TsAt H v l → TsAt H u r → TsAt H (.ref a) (.either l r)
theorem TsAt.keep {H H' : Hp} (k : Tups H H') {v : V} {e : Ts} (h : TsAt H v e) : TsAt H' v e := by
  induction h with
  | is h h1 h2 => exact .is (k _ _ h) (h1.keep k) (h2.keep k)
  | bel h h1 h2 => exact .bel (k _ _ h) (h1.keep k) (h2.keep k)
  | nt h _ i1 => exact .nt (k _ _ h) i1
  | both h _ _ i1 i2 => exact .both (k _ _ h) i1 i2
  | either h _ _ i1 i2 => exact .either (k _ _ h) i1 i2


abbrev sRT : Stmt := top 10
abbrev sRC : Stmt := top 11
abbrev lamNt : Expr := retE (stN (ifB (stN (defBody sRT) 1)) 1)
abbrev lamBo : Expr := retE (stN (ifB (stN (defBody sRT) 5)) 0)
abbrev lamEi : Expr := retE (stN (defBody sRT) 6)
abbrev lamIs : Expr := retE (stN (ifB (stN (defBody sRC) 0)) 0)
abbrev lamBe : Expr := retE (stN (defBody sRC) 1)
theorem scNt : NScope ["boxes", "asked", "told", "inner"] psL ["inner"] (lamS lamNt) := nscope_by (by decide +kernel)
theorem scBo : NScope ["boxes", "asked", "told", "first", "second"] psL ["first", "second"] (lamS lamBo) := nscope_by (by decide +kernel)
theorem scEi : NScope ["boxes", "asked", "told", "first", "second"] psL ["first", "second"] (lamS lamEi) := nscope_by (by decide +kernel)
theorem scIs : NScope ["boxes", "asked", "told", "left", "right"] psL ["left", "right"] (lamS lamIs) := nscope_by (by decide +kernel)
theorem scBe : NScope ["boxes", "asked", "told", "left", "right"] psL ["left", "right"] (lamS lamBe) := nscope_by (by decide +kernel)
/-- the lambda at f tells whether e holds -/
def CloT (G : Dd → Addr → Prop) (xs : List Str) : Ts → Hp → Addr → Prop
  | .is l r, H, f => ∃ (F : LF) (fl fr : Addr), Made H f F lamIs ∧ CapsAt H F ["left", "right"] [.ref fl, .ref fr] ∧ CloE G xs l (hid H F.cells) fl ∧ CloE G xs r (hid H F.cells) fr
  | .bel l r, H, f => ∃ (F : LF) (fl fr : Addr), Made H f F lamBe ∧ CapsAt H F ["left", "right"] [.ref fl, .ref fr] ∧ CloE G xs l (hid H F.cells) fl ∧ CloE G xs r (hid H F.cells) fr
  | .nt t, H, f => ∃ (F : LF) (fi : Addr), Made H f F lamNt ∧ CapsAt H F ["inner"] [.ref fi] ∧ CloT G xs t (hid H F.cells) fi
  | .both t u, H, f => ∃ (F : LF) (fl fr : Addr), Made H f F lamBo ∧ CapsAt H F ["first", "second"] [.ref fl, .ref fr] ∧ CloT G xs t (hid H F.cells) fl ∧ CloT G xs u (hid H F.cells) fr
  | .either t u, H, f => ∃ (F : LF) (fl fr : Addr), Made H f F lamEi ∧ CapsAt H F ["first", "second"] [.ref fl, .ref fr] ∧ CloT G xs t (hid H F.cells) fl ∧ CloT G xs u (hid H F.cells) fr
theorem CloT.ext {G : Dd → Addr → Prop} {xs : List Str} : ∀ {e : Ts} {H H' : Hp} {f : Addr}, CloT G xs e H f → ExtN H H' → CloT G xs e H' f
  | .is _ _, _, _, _, ⟨F, a, b, m, c, h1, h2⟩, e => ⟨F, a, b, m.ext e, c.ext e, h1.ext (hid_ext e _), h2.ext (hid_ext e _)⟩
  | .bel _ _, _, _, _, ⟨F, a, b, m, c, h1, h2⟩, e => ⟨F, a, b, m.ext e, c.ext e, h1.ext (hid_ext e _), h2.ext (hid_ext e _)⟩
  | .nt _, _, _, _, ⟨F, a, m, c, h1⟩, e => ⟨F, a, m.ext e, c.ext e, CloT.ext h1 (hid_ext e _)⟩
  | .both _ _, _, _, _, ⟨F, a, b, m, c, h1, h2⟩, e => ⟨F, a, b, m.ext e, c.ext e, CloT.ext h1 (hid_ext e _), CloT.ext h2 (hid_ext e _)⟩
  | .either _ _, _, _, _, ⟨F, a, b, m, c, h1, h2⟩, e => ⟨F, a, b, m.ext e, c.ext e, CloT.ext h1 (hid_ext e _), CloT.ext h2 (hid_ext e _)⟩
theorem CloT.lm {G : Dd → Addr → Prop} {xs : List Str} : ∀ {e : Ts} {H : Hp} {f : Addr}, CloT G xs e H f → IsLm H f
  | .is _ _, _, _, ⟨F, _, _, m, _⟩ => ⟨F, m.at_⟩
  | .bel _ _, _, _, ⟨F, _, _, m, _⟩ => ⟨F, m.at_⟩
  | .nt _, _, _, ⟨F, _, m, _⟩ => ⟨F, m.at_⟩
  | .both _ _, _, _, ⟨F, _, _, m, _⟩ => ⟨F, m.at_⟩
  | .either _ _, _, _, ⟨F, _, _, m, _⟩ => ⟨F, m.at_⟩
def spCloT (G : Dd → Addr → Prop) (n : Nat) (f : Addr) : Sp := fun vs H Q _ => ∃ (e : Ts) (kvs : List (Str × Int)) (xs : List Str) (b : Addr) (a t : Int), vs = [.ref b, .int a, .int t] ∧ e.deep ≤ n ∧ H b = some (.lst (numsV kvs)) ∧ CloT G (namesOf kvs) e H f ∧ e.good xs ∧ Bx kvs xs ∧
  (0 ≤ a ∧ a < 1024) ∧ (0 ≤ t ∧ t < 1024) ∧ Q (.bl (e.val kvs a t)) H
section
variable {P : Program} {w : World} {K : PySem.W.Frag} {mg : Str → Option Value} {base : Heap}
theorem no_cloT {k : Nat} : FnL P w K mg base k (spCloT (DeedIs P w K mg base) 0) := fun f A outer s H us vs Q _ _ _ h => by
  obtain ⟨e, kvs, xs, b, a, t, _, hd, _⟩ := h
  cases e <;> exact absurd hd (by show ¬ _ ≤ 0; exact Nat.not_succ_le_zero _)
theorem ok_cloT {n : Nat} (G : FnL P w K mg base (n + 7) (spCloT (DeedIs P w K mg base) n)) : FnL P w K mg base (n + 8) (spCloT (DeedIs P w K mg base) (n + 1)) := by
  intro f A outer s H us vs Q hr e0 rv h
  obtain ⟨e, kvs, xs, b, a, t, rfl, hd, hb, hc, hg, B, ha, ht, q⟩ := h
  have G6 : FnL P w K mg base 7 (spClo (DeedIs P w K mg base) 6) := all_clo 6
  cases e with
  | is l r =>
    obtain ⟨⟨qu, pa, bo, sc, cl, co⟩, fl, fr, M, C, h1, h2⟩ := hc
    obtain ⟨m1, rfl, rfl, rfl, m5⟩ := M
    refine lam_run (k := n + 7) (N := ["boxes", "asked", "told", "left", "right"]) (ws := [.ref fl, .ref fr]) scIs (fun pm ctv us hl => match us, hl with | [_, _, _], _ => rfl) hr e0 m1 m5 C rv rfl fun hr =>
      ⟨_, pe_cmpR op_eq (pe_callL (i := 3) G6 (hr.mono (by omega)) rfl (.inr (.inr rfl)) (pa_cons (pv 0) (pa_cons (pv 1) (pa_cons (pv 2) pa_nil)))) (pe_callL (i := 4) G6 (hr.mono (by omega)) rfl (.inr (.inr rfl)) (pa_cons (pv 0) (pa_cons (pv 1) (pa_cons (pv 2) pa_nil)))) (nomark _), ?_⟩
    refine ⟨fl, rfl, h1.lm, _, rfl, _, rfl, _, rfl, h1.lm, l, kvs, xs, b, a, t, rfl, hg.1.2, hg.1.2, lst_hid C hb, h1, hg.1.1, B, ha, ht, ?_⟩
    refine ⟨fr, rfl, h2.lm, _, rfl, _, rfl, _, rfl, h2.lm, r, kvs, xs, b, a, t, rfl, hg.2.2, hg.2.2, lst_hid C hb, h2, hg.2.1, B, ha, ht, rfl, ?_⟩
    rw [show decide (V.int (l.val kvs a t) = V.int (r.val kvs a t)) = decide (l.val kvs a t = r.val kvs a t) from decide_eq_decide.mpr ⟨fun z => V.int.inj z, fun z => by rw [z]⟩]
    exact back q
  | bel l r =>
    obtain ⟨⟨qu, pa, bo, sc, cl, co⟩, fl, fr, M, C, h1, h2⟩ := hc
    obtain ⟨m1, rfl, rfl, rfl, m5⟩ := M
    refine lam_run (k := n + 7) (N := ["boxes", "asked", "told", "left", "right"]) (ws := [.ref fl, .ref fr]) scBe (fun pm ctv us hl => match us, hl with | [_, _, _], _ => rfl) hr e0 m1 m5 C rv rfl fun hr =>
      ⟨_, pe_cmpR op_lt (pe_callL (i := 3) G6 (hr.mono (by omega)) rfl (.inr (.inr rfl)) (pa_cons (pv 0) (pa_cons (pv 1) (pa_cons (pv 2) pa_nil)))) (pe_callL (i := 4) G6 (hr.mono (by omega)) rfl (.inr (.inr rfl)) (pa_cons (pv 0) (pa_cons (pv 1) (pa_cons (pv 2) pa_nil)))) (nomark _), ?_⟩
    refine ⟨fl, rfl, h1.lm, _, rfl, _, rfl, _, rfl, h1.lm, l, kvs, xs, b, a, t, rfl, hg.1.2, hg.1.2, lst_hid C hb, h1, hg.1.1, B, ha, ht, ?_⟩
    exact ⟨fr, rfl, h2.lm, _, rfl, _, rfl, _, rfl, h2.lm, r, kvs, xs, b, a, t, rfl, hg.2.2, hg.2.2, lst_hid C hb, h2, hg.2.1, B, ha, ht, _, _, rfl, rfl, back q⟩
  | nt x =>
    obtain ⟨⟨qu, pa, bo, sc, cl, co⟩, fi, M, C, h1⟩ := hc
    obtain ⟨m1, rfl, rfl, rfl, m5⟩ := M
    refine lam_run (k := n + 7) (N := ["boxes", "asked", "told", "inner"]) (ws := [.ref fi]) scNt (fun pm ctv us hl => match us, hl with | [_, _, _], _ => rfl) hr e0 m1 m5 C rv rfl fun hr =>
      ⟨_, pe_not (pe_callL (i := 3) G hr rfl (.inr (.inr rfl)) (pa_cons (pv 0) (pa_cons (pv 1) (pa_cons (pv 2) pa_nil)))), ?_⟩
    exact ⟨fi, rfl, h1.lm, _, rfl, _, rfl, _, rfl, h1.lm, x, kvs, xs, b, a, t, rfl, Nat.le_of_succ_le_succ hd, lst_hid C hb, h1, hg, B, ha, ht, _, rfl, back q⟩
  | both x y =>
    obtain ⟨⟨qu, pa, bo, sc, cl, co⟩, fl, fr, M, C, h1, h2⟩ := hc
    obtain ⟨m1, rfl, rfl, rfl, m5⟩ := M
    have dl : x.deep ≤ n := Nat.le_trans (Nat.le_max_left ..) (Nat.le_of_succ_le_succ hd)
    have dr : y.deep ≤ n := Nat.le_trans (Nat.le_max_right ..) (Nat.le_of_succ_le_succ hd)
    refine lam_run (k := n + 7) (N := ["boxes", "asked", "told", "first", "second"]) (ws := [.ref fl, .ref fr]) scBo (fun pm ctv us hl => match us, hl with | [_, _, _], _ => rfl) hr e0 m1 m5 C rv rfl fun hr =>
      ⟨_, pe_and (pe_callL (i := 3) G hr rfl (.inr (.inr rfl)) (pa_cons (pv 0) (pa_cons (pv 1) (pa_cons (pv 2) pa_nil)))) (pe_one (pe_callL (i := 4) G hr rfl (.inr (.inr rfl)) (pa_cons (pv 0) (pa_cons (pv 1) (pa_cons (pv 2) pa_nil))))), ?_⟩
    have z : Q (.bl (x.val kvs a t && y.val kvs a t)) H := q
    refine ⟨fl, rfl, h1.lm, _, rfl, _, rfl, _, rfl, h1.lm, x, kvs, xs, b, a, t, rfl, dl, lst_hid C hb, h1, hg.1, B, ha, ht, _, rfl, ?_⟩
    cases e1 : x.val kvs a t with
    | false => rw [e1] at z; exact itF rfl (back z)
    | true => rw [e1] at z; exact itT rfl ⟨fr, rfl, h2.lm, _, rfl, _, rfl, _, rfl, h2.lm, y, kvs, xs, b, a, t, rfl, dr, lst_hid C hb, h2, hg.2, B, ha, ht, back z⟩
  | either x y =>
    obtain ⟨⟨qu, pa, bo, sc, cl, co⟩, fl, fr, M, C, h1, h2⟩ := hc
    obtain ⟨m1, rfl, rfl, rfl, m5⟩ := M
    have dl : x.deep ≤ n := Nat.le_trans (Nat.le_max_left ..) (Nat.le_of_succ_le_succ hd)
    have dr : y.deep ≤ n := Nat.le_trans (Nat.le_max_right ..) (Nat.le_of_succ_le_succ hd)
    refine lam_run (k := n + 7) (N := ["boxes", "asked", "told", "first", "second"]) (ws := [.ref fl, .ref fr]) scEi (fun pm ctv us hl => match us, hl with | [_, _, _], _ => rfl) hr e0 m1 m5 C rv rfl fun hr =>
      ⟨_, pe_or (pe_callL (i := 3) G hr rfl (.inr (.inr rfl)) (pa_cons (pv 0) (pa_cons (pv 1) (pa_cons (pv 2) pa_nil)))) (pe_one (pe_callL (i := 4) G hr rfl (.inr (.inr rfl)) (pa_cons (pv 0) (pa_cons (pv 1) (pa_cons (pv 2) pa_nil))))), ?_⟩
    have z : Q (.bl (x.val kvs a t || y.val kvs a t)) H := q
    refine ⟨fl, rfl, h1.lm, _, rfl, _, rfl, _, rfl, h1.lm, x, kvs, xs, b, a, t, rfl, dl, lst_hid C hb, h1, hg.1, B, ha, ht, _, rfl, ?_⟩
    cases e1 : x.val kvs a t with
    | true => rw [e1] at z; exact itT rfl (back z)
    | false => rw [e1] at z; exact itF rfl ⟨fr, rfl, h2.lm, _, rfl, _, rfl, _, rfl, h2.lm, y, kvs, xs, b, a, t, rfl, dr, lst_hid C hb, h2, hg.2, B, ha, ht, back z⟩
theorem all_cloT : ∀ n : Nat, FnL P w K mg base (n + 7) (spCloT (DeedIs P w K mg base) n)
  | 0 => no_cloT
  | n + 1 => ok_cloT (all_cloT n)
end
end Any
set_option maxHeartbeats 1000000
namespace Any
open L2 PySem PySem.Spec PyProof.Rows LamX NdefX
/-! ### ready_comparison, ready_test -/
abbrev nmRC : List Str := ["kind", "left", "right"]
theorem scRC : FnScope nmRC nmRC (defScope sRC) := ⟨rfl, rfl, rfl, by decide +kernel, rfl, by decide +kernel, by decide +kernel⟩
abbrev nmRT : List Str := ["test", "owns", "kind", "inner", "first", "second"]
abbrev psRT : List Str := ["test", "owns"]
theorem scRT : FnScope nmRT psRT (defScope sRT) := ⟨rfl, rfl, rfl, by decide +kernel, rfl, by decide +kernel, by decide +kernel⟩
def qRC : Str := (envOfC "ready_comparison" (defScope sRC) 0 0 .none).qual ++ "<lambda>"
def qRT : Str := (envOfC "ready_test" (defScope sRT) 0 0 .none).qual ++ "<lambda>"
abbrev mkRC (L : Expr) (L0 c' : Addr) : LF := ⟨qRC, lamP L, lamB L, lamS L, cloFrom (cellsFrom (L0 + 1) (defScope sRC).names []) (lamS L).names [], c'⟩
abbrev mkRT (L : Expr) (L0 c' : Addr) : LF := ⟨qRT, lamP L, lamB L, lamS L, cloFrom (cellsFrom (L0 + 1) (defScope sRT).names []) (lamS L).names [], c'⟩
def spRC (T : List NTab) (G : Dd → Addr → Prop) : Sp := fun vs H Q _ => ∃ (k : Str) (fl fr : Addr) (l r : Ex) (xs : List Str), vs = [.str k, .ref fl, .ref fr] ∧ (k = "is" ∨ k = "below") ∧ CloE G xs l H fl ∧ CloE G xs r H fr ∧ TabsN T H ∧
  ∀ f H', Gr T H H' → (k = "is" → CloT G xs (.is l r) H' f) → (k = "below" → CloT G xs (.bel l r) H' f) → Q (.ref f) H'
def spRT (T : List NTab) (G : Dd → Addr → Prop) (n : Nat) : Sp := fun vs H Q _ => ∃ (v : V) (o : Addr) (e : Ts) (xs : List Str), vs = [v, .ref o] ∧ TsAt H v e ∧ e.deep ≤ n ∧ e.good xs ∧ H o = some (.lst (xs.map V.str)) ∧ TabsN T H ∧
  ∀ f H', Gr T H H' → CloT G xs e H' f → Q (.ref f) H'
theorem ext_hid {H3 H4 : Hp} (sm : Same H3 H4) {cs : List Addr} (hc : ∀ b ∈ cs, H3 b = none) : ExtN H3 (hid H4 cs) := fun b o hb _ => by
  rw [hid_out (fun z => by rw [hc b z] at hb; cases hb)]
  exact sm _ _ hb
section
variable {P : Program} {w : World} {K : PySem.W.Frag} {mg : Str → Option Value} {base : Heap} {f c Pt rw_ rc : Addr} {fd rwd rcd : FuncData} {T : List NTab}
theorem ok_rc (F : FunC K "ready_comparison" "ready_comparison" sRC f fd c) (TB : TabB base mg c Pt) (hm : (Pt, fun _ _ => qRC) ∈ T) (hu : ∀ p ∈ T, p.1 = Pt → p.2 = fun _ _ => qRC) : FnOk P w K mg base CX0 1 f fd nmRC (spRC T (DeedIs P w K mg base)) := by
  refine fun_c F scRC (fun vs H Q E h => ?_) (fun A outer s H vs Q E hr h => ?_)
  · obtain ⟨k, fl, fr, l, r, xs, rfl, _⟩ := h
    rfl
  obtain ⟨k, fl, fr, l, r, xs, rfl, hk, h1, h2, hT, q⟩ := h
  let X := cxOf CX0 P w K mg base nmRC "ready_comparison" (defScope sRC) f (.ref c) A outer s H E
  have TBx : TabB X.base X.mg c Pt := TB
  refine ⟨_, prs_cons (pr_if (pt_cmpR op_eq (pv 0) pe_str (nomark _)) (prs_one (pr_ret (pe_lamb TBx rfl hm rfl hu rfl (ndef_free (sc := defScope sRC) (fr := []) (by decide +kernel))))) prs_nil)
    (prs_one (pr_ret (pe_lamb TBx rfl hm rfl hu rfl (ndef_free (sc := defScope sRC) (fr := []) (by decide +kernel))))), ?_⟩
  rcases hk with rfl | rfl
  · refine ⟨_, rfl, rfl, _, rfl, itT eq_str ⟨hT, fun g c' H1 eN nn T1 f0 f1 c1 H2 sm R _ inj => ?_⟩⟩
    obtain ⟨C, cn⟩ := caps_ret (F := mkRC lamIs s.heap.objs.size c') (ws := [.ref fl, .ref fr]) R inj rfl scIs (by decide +kernel) rfl fun i y e => match i, e with | 0, e => by cases e; exact ⟨1, _, rfl, rfl, rfl⟩ | 1, e => by cases e; exact ⟨2, _, rfl, rfl, rfl⟩ | _ + 2, e => by cases e
    exact q g H2 ⟨eN.trans (ExtN.of sm), fun b z => nn b (same_no sm b z), T1.ext sm⟩ (fun _ => ⟨_, fl, fr, ⟨sm _ _ f1, rfl, rfl, rfl, sm _ _ c1⟩, C, (h1.ext eN).ext (ext_hid sm cn), (h2.ext eN).ext (ext_hid sm cn)⟩) fun z => absurd z (by decide)
  · refine ⟨_, rfl, rfl, _, rfl, itF (ne_str (by decide)) ⟨hT, fun g c' H1 eN nn T1 f0 f1 c1 H2 sm R _ inj => ?_⟩⟩
    obtain ⟨C, cn⟩ := caps_ret (F := mkRC lamBe s.heap.objs.size c') (ws := [.ref fl, .ref fr]) R inj rfl scBe (by decide +kernel) rfl fun i y e => match i, e with | 0, e => by cases e; exact ⟨1, _, rfl, rfl, rfl⟩ | 1, e => by cases e; exact ⟨2, _, rfl, rfl, rfl⟩ | _ + 2, e => by cases e
    exact q g H2 ⟨eN.trans (ExtN.of sm), fun b z => nn b (same_no sm b z), T1.ext sm⟩ (fun z => absurd z (by decide)) fun _ => ⟨_, fl, fr, ⟨sm _ _ f1, rfl, rfl, rfl, sm _ _ c1⟩, C, (h1.ext eN).ext (ext_hid sm cn), (h2.ext eN).ext (ext_hid sm cn)⟩
theorem no_rt {k : Nat} : FnOk P w K mg base CX0 k f fd psRT (spRT T (DeedIs P w K mg base) 0) := by
  have no : ∀ vs H Q E, ¬ spRT T (DeedIs P w K mg base) 0 vs H Q E := fun vs H Q E h => by
    obtain ⟨v, o, e, xs, _, _, hd, _⟩ := h
    cases e <;> exact absurd hd (by show ¬ _ ≤ 0; exact Nat.not_succ_le_zero _)
  exact ⟨fun vs H Q E h => absurd h (no vs H Q E), fun A outer s H args us vs Q E _ _ _ _ h => absurd h (no vs H Q E)⟩
theorem ok_rt {n : Nat} (F : FunC K "ready_test" "ready_test" sRT f fd c) (TB : TabB base mg c Pt) (hm : (Pt, fun _ _ => qRT) ∈ T) (hu : ∀ p ∈ T, p.1 = Pt → p.2 = fun _ _ => qRT) (G : FnOk P w K mg base CX0 (n + 7) f fd psRT (spRT T (DeedIs P w K mg base) n)) (mG : mg "ready_test" = some (.ref f)) (bG : Binds K fd psRT [])
    (GW : FnOk P w K mg base CX0 7 rw_ rwd psReady (spReady T (DeedIs P w K mg base) 6)) (mW : mg "ready_worth" = some (.ref rw_)) (kW : PySem.W.keepIn K (.ref rw_) = true) (bW : Binds K rwd psReady [])
    (GC : FnOk P w K mg base CX0 1 rc rcd nmRC (spRC T (DeedIs P w K mg base))) (mC : mg "ready_comparison" = some (.ref rc)) (kC : PySem.W.keepIn K (.ref rc) = true) (bC : Binds K rcd nmRC []) : FnOk P w K mg base CX0 (n + 8) f fd psRT (spRT T (DeedIs P w K mg base) (n + 1)) := by
  refine fun_c F scRT (fun vs H Q E h => ?_) (fun A outer s H vs Q E hr h => ?_)
  · obtain ⟨v, o, e, xs, rfl, _⟩ := h
    rfl
  obtain ⟨v, o, e, xs, rfl, hv, hd, hg, ho, hT, q⟩ := h
  let X := cxOf CX0 P w K mg base nmRT "ready_test" (defScope sRT) f (.ref c) A outer s H E
  have TBx : TabB X.base X.mg c Pt := TB
  have hr7 : Room 7 (A.deeper (envOfC "ready_test" (defScope sRT) s.heap.objs.size f (.ref c))) := hr.mono (by omega)
  have hr1 : Room 1 (A.deeper (envOfC "ready_test" (defScope sRT) s.heap.objs.size f (.ref c))) := hr.mono (by omega)
  have two : 2 ≤ sizeLine := by decide
  refine ⟨_, prs_cons (pr_go (ps_set (i := 2) scRT.nd rfl (Or.inl rfl) (pe_ix ix_tup (pv 0) pe_int (fun _ _ => rfl))))
    (prs_cons (pr_if (pt_cmpR op_eq (pv 2) pe_str (nomark _)) (prs_cons (pr_go (ps_set (i := 3) scRT.nd rfl (Or.inr rfl) (pe_call G hr rfl mG F.kp bG .nil pass0 (pa_cons (pe_ix ix_tup (pv 0) pe_int (fun _ _ => rfl)) (pa_cons (pv 1) pa_nil))))) (prs_one (pr_ret (pe_lamb TBx rfl hm rfl hu rfl (ndef_free (sc := defScope sRT) (fr := []) (by decide +kernel)))))) prs_nil)
    (prs_cons (pr_if (pt_cmpR op_in_seq (pv 2) (pe_tup (pa_cons pe_str (pa_cons pe_str pa_nil))) (by rfl)) (prs_one (pr_ret (pe_call GC hr1 rfl mC kC bC .nil pass0 (pa_cons (pv 2) (pa_cons (pe_call GW hr7 rfl mW kW bW .nil pass0 (pa_cons (pe_ix ix_tup (pv 0) pe_int (fun _ _ => rfl)) (pa_cons (pv 1) pa_nil))) (pa_cons (pe_call GW hr7 rfl mW kW bW .nil pass0 (pa_cons (pe_ix ix_tup (pv 0) pe_int (fun _ _ => rfl)) (pa_cons (pv 1) pa_nil))) pa_nil)))))) prs_nil)
    (prs_cons (pr_go (ps_set (i := 4) scRT.nd rfl (Or.inr rfl) (pe_call G hr rfl mG F.kp bG .nil pass0 (pa_cons (pe_ix ix_tup (pv 0) pe_int (fun _ _ => rfl)) (pa_cons (pv 1) pa_nil)))))
    (prs_cons (pr_go (ps_set (i := 5) scRT.nd rfl (Or.inr rfl) (pe_call G hr rfl mG F.kp bG .nil pass0 (pa_cons (pe_ix ix_tup (pv 0) pe_int (fun _ _ => rfl)) (pa_cons (pv 1) pa_nil)))))
    (prs_cons (pr_if (pt_cmpR op_eq (pv 2) pe_str (nomark _)) (prs_one (pr_ret (pe_lamb TBx rfl hm rfl hu rfl (ndef_free (sc := defScope sRT) (fr := []) (by decide +kernel))))) prs_nil)
    (prs_one (pr_ret (pe_lamb TBx rfl hm rfl hu rfl (ndef_free (sc := defScope sRT) (fr := []) (by decide +kernel)))))))))), ?_⟩
  cases hv with
  | nt h h1 =>
    rename_i p0 x l
    refine ⟨_, rfl, _, _, _, _, rfl, rfl, SqT.of h, atI_nat (j := 0) rfl, ?_⟩
    refine ⟨_, rfl, rfl, _, rfl, itT eq_str ?_⟩
    refine ⟨_, rfl, _, _, _, _, rfl, rfl, SqT.of h, atI_nat (j := 1) rfl, _, rfl, x, o, l, xs, rfl, h1, Nat.le_of_succ_le_succ hd, hg, ho, hT, fun fi H1 g1 cl1 => ?_⟩
    refine ⟨g1.tabs, fun g c' H2 eN nn T2 f0 f1 c1 H3 sm R _ inj => ?_⟩
    obtain ⟨C, cn⟩ := caps_ret (F := mkRT lamNt s.heap.objs.size c') (ws := [.ref fi]) R inj rfl scNt (by decide +kernel) rfl fun i y e => match i, e with | 0, e => by cases e; exact ⟨3, _, rfl, rfl, rfl⟩ | _ + 1, e => by cases e
    exact q g H3 ⟨(g1.ext.trans eN).trans (ExtN.of sm), fun b z => g1.no b (nn b (same_no sm b z)), T2.ext sm⟩ ⟨_, fi, ⟨sm _ _ f1, rfl, rfl, rfl, sm _ _ c1⟩, C, (cl1.ext eN).ext (ext_hid sm cn)⟩
  | both h h1 h2 =>
    rename_i p0 x y l r
    have dl : l.deep ≤ n := Nat.le_trans (Nat.le_max_left ..) (Nat.le_of_succ_le_succ hd)
    have dr : r.deep ≤ n := Nat.le_trans (Nat.le_max_right ..) (Nat.le_of_succ_le_succ hd)
    refine ⟨_, rfl, _, _, _, _, rfl, rfl, SqT.of h, atI_nat (j := 0) rfl, ?_⟩
    refine ⟨_, rfl, rfl, _, rfl, itF (ne_str (by decide)) ?_⟩
    refine ⟨_, rfl, two, fun p hp => ⟨p, _, rfl, .inr (SqT.of upd_same), rfl, rfl, _, rfl, itF rfl ?_⟩⟩
    have g0 := Gr.of hT (same_new hp (.tup [.str "is", .str "below"]))
    refine ⟨_, rfl, _, _, _, _, rfl, rfl, SqT.of (g0.tup h), atI_nat (j := 1) rfl, _, rfl, x, o, l, xs, rfl, h1.keep g0.tups, dl, hg.1, g0.lst ho, g0.tabs, fun fl H1 g1 cl1 => ?_⟩
    have g01 := g0.trans g1
    refine ⟨_, rfl, _, _, _, _, rfl, rfl, SqT.of (g01.tup h), atI_nat (j := 2) rfl, _, rfl, y, o, r, xs, rfl, h2.keep g01.tups, dr, hg.2, g01.lst ho, g01.tabs, fun fr H2 g2 cl2 => ?_⟩
    have g02 := g01.trans g2
    refine ⟨_, rfl, rfl, _, rfl, itT eq_str ⟨g02.tabs, fun g c' H3 eN nn T3 f0 f1 c1 H4 sm R _ inj => ?_⟩⟩
    obtain ⟨C, cn⟩ := caps_ret (F := mkRT lamBo s.heap.objs.size c') (ws := [.ref fl, .ref fr]) R inj rfl scBo (by decide +kernel) rfl fun i y e => match i, e with | 0, e => by cases e; exact ⟨4, _, rfl, rfl, rfl⟩ | 1, e => by cases e; exact ⟨5, _, rfl, rfl, rfl⟩ | _ + 2, e => by cases e
    exact q g H4 ⟨(g02.ext.trans eN).trans (ExtN.of sm), fun b z => g02.no b (nn b (same_no sm b z)), T3.ext sm⟩ ⟨_, fl, fr, ⟨sm _ _ f1, rfl, rfl, rfl, sm _ _ c1⟩, C, ((cl1.ext g2.ext).ext eN).ext (ext_hid sm cn), (cl2.ext eN).ext (ext_hid sm cn)⟩
  | either h h1 h2 =>
    rename_i p0 x y l r
    have dl : l.deep ≤ n := Nat.le_trans (Nat.le_max_left ..) (Nat.le_of_succ_le_succ hd)
    have dr : r.deep ≤ n := Nat.le_trans (Nat.le_max_right ..) (Nat.le_of_succ_le_succ hd)
    refine ⟨_, rfl, _, _, _, _, rfl, rfl, SqT.of h, atI_nat (j := 0) rfl, ?_⟩
    refine ⟨_, rfl, rfl, _, rfl, itF (ne_str (by decide)) ?_⟩
    refine ⟨_, rfl, two, fun p hp => ⟨p, _, rfl, .inr (SqT.of upd_same), rfl, rfl, _, rfl, itF rfl ?_⟩⟩
    have g0 := Gr.of hT (same_new hp (.tup [.str "is", .str "below"]))
    refine ⟨_, rfl, _, _, _, _, rfl, rfl, SqT.of (g0.tup h), atI_nat (j := 1) rfl, _, rfl, x, o, l, xs, rfl, h1.keep g0.tups, dl, hg.1, g0.lst ho, g0.tabs, fun fl H1 g1 cl1 => ?_⟩
    have g01 := g0.trans g1
    refine ⟨_, rfl, _, _, _, _, rfl, rfl, SqT.of (g01.tup h), atI_nat (j := 2) rfl, _, rfl, y, o, r, xs, rfl, h2.keep g01.tups, dr, hg.2, g01.lst ho, g01.tabs, fun fr H2 g2 cl2 => ?_⟩
    have g02 := g01.trans g2
    refine ⟨_, rfl, rfl, _, rfl, itF (ne_str (by decide)) ⟨g02.tabs, fun g c' H3 eN nn T3 f0 f1 c1 H4 sm R _ inj => ?_⟩⟩
    obtain ⟨C, cn⟩ := caps_ret (F := mkRT lamEi s.heap.objs.size c') (ws := [.ref fl, .ref fr]) R inj rfl scEi (by decide +kernel) rfl fun i y e => match i, e with | 0, e => by cases e; exact ⟨4, _, rfl, rfl, rfl⟩ | 1, e => by cases e; exact ⟨5, _, rfl, rfl, rfl⟩ | _ + 2, e => by cases e
    exact q g H4 ⟨(g02.ext.trans eN).trans (ExtN.of sm), fun b z => g02.no b (nn b (same_no sm b z)), T3.ext sm⟩ ⟨_, fl, fr, ⟨sm _ _ f1, rfl, rfl, rfl, sm _ _ c1⟩, C, ((cl1.ext g2.ext).ext eN).ext (ext_hid sm cn), (cl2.ext eN).ext (ext_hid sm cn)⟩
  | is h h1 h2 =>
    rename_i p0 x y l r
    refine ⟨_, rfl, _, _, _, _, rfl, rfl, SqT.of h, atI_nat (j := 0) rfl, ?_⟩
    refine ⟨_, rfl, rfl, _, rfl, itF (ne_str (by decide)) ?_⟩
    refine ⟨_, rfl, two, fun p hp => ⟨p, _, rfl, .inr (SqT.of upd_same), rfl, rfl, _, rfl, itT rfl ?_⟩⟩
    have g0 := Gr.of hT (same_new hp (.tup [.str "is", .str "below"]))
    refine ⟨_, rfl, _, rfl, _, _, _, _, rfl, rfl, SqT.of (g0.tup h), atI_nat (j := 1) rfl, _, rfl, x, o, l, xs, rfl, h1.keep g0.tups, hg.1.2, hg.1.1, g0.lst ho, g0.tabs, fun fl H1 g1 cl1 => ?_⟩
    have g01 := g0.trans g1
    refine ⟨_, rfl, _, _, _, _, rfl, rfl, SqT.of (g01.tup h), atI_nat (j := 2) rfl, _, rfl, y, o, r, xs, rfl, h2.keep g01.tups, hg.2.2, hg.2.1, g01.lst ho, g01.tabs, fun fr H2 g2 cl2 => ?_⟩
    have g02 := g01.trans g2
    refine ⟨"is", fl, fr, l, r, xs, rfl, .inl rfl, cl1.ext g2.ext, cl2, g02.tabs, fun g H3 g3 c3 _ H4 sm _ _ _ => ?_⟩
    exact q g H4 ((g02.trans g3).same sm) ((c3 rfl).ext (ExtN.of sm))
  | bel h h1 h2 =>
    rename_i p0 x y l r
    refine ⟨_, rfl, _, _, _, _, rfl, rfl, SqT.of h, atI_nat (j := 0) rfl, ?_⟩
    refine ⟨_, rfl, rfl, _, rfl, itF (ne_str (by decide)) ?_⟩
    refine ⟨_, rfl, two, fun p hp => ⟨p, _, rfl, .inr (SqT.of upd_same), rfl, rfl, _, rfl, itT rfl ?_⟩⟩
    have g0 := Gr.of hT (same_new hp (.tup [.str "is", .str "below"]))
    refine ⟨_, rfl, _, rfl, _, _, _, _, rfl, rfl, SqT.of (g0.tup h), atI_nat (j := 1) rfl, _, rfl, x, o, l, xs, rfl, h1.keep g0.tups, hg.1.2, hg.1.1, g0.lst ho, g0.tabs, fun fl H1 g1 cl1 => ?_⟩
    have g01 := g0.trans g1
    refine ⟨_, rfl, _, _, _, _, rfl, rfl, SqT.of (g01.tup h), atI_nat (j := 2) rfl, _, rfl, y, o, r, xs, rfl, h2.keep g01.tups, hg.2.2, hg.2.1, g01.lst ho, g01.tabs, fun fr H2 g2 cl2 => ?_⟩
    have g02 := g01.trans g2
    refine ⟨"below", fl, fr, l, r, xs, rfl, .inr rfl, cl1.ext g2.ext, cl2, g02.tabs, fun g H3 g3 _ c3 H4 sm _ _ _ => ?_⟩
    exact q g H4 ((g02.trans g3).same sm) ((c3 rfl).ext (ExtN.of sm))
theorem all_rt (F : FunC K "ready_test" "ready_test" sRT f fd c) (TB : TabB base mg c Pt) (hm : (Pt, fun _ _ => qRT) ∈ T) (hu : ∀ p ∈ T, p.1 = Pt → p.2 = fun _ _ => qRT) (mG : mg "ready_test" = some (.ref f)) (bG : Binds K fd psRT [])
    (GW : FnOk P w K mg base CX0 7 rw_ rwd psReady (spReady T (DeedIs P w K mg base) 6)) (mW : mg "ready_worth" = some (.ref rw_)) (kW : PySem.W.keepIn K (.ref rw_) = true) (bW : Binds K rwd psReady [])
    (GC : FnOk P w K mg base CX0 1 rc rcd nmRC (spRC T (DeedIs P w K mg base))) (mC : mg "ready_comparison" = some (.ref rc)) (kC : PySem.W.keepIn K (.ref rc) = true) (bC : Binds K rcd nmRC []) : ∀ n : Nat, FnOk P w K mg base CX0 (n + 7) f fd psRT (spRT T (DeedIs P w K mg base) n)
  | 0 => no_rt
  | n + 1 => ok_rt F TB hm hu (all_rt F TB hm hu mG bG GW mW kW bW GC mC kC bC n) mG bG GW mW kW bW GC mC kC bC
end
/-! ### holds -/
abbrev sHolds : Stmt := top 8
abbrev nmHolds : List Str := ["test", "boxes", "asked", "told", "holds_by"]
abbrev psH : List Str := ["test", "boxes", "asked", "told"]
theorem scHolds : FnScope nmHolds psH (defScope sHolds) := ⟨rfl, rfl, rfl, by decide +kernel, rfl, by decide +kernel, by decide +kernel⟩
def spHolds (T : List NTab) (n : Nat) : Sp := fun vs H Q _ => ∃ (v : V) (c : Addr) (e : Ts) (kvs : List (Str × Int)) (xs : List Str) (a t : Int), vs = [v, .ref c, .int a, .int t] ∧ TsAt H v e ∧ e.deep ≤ n ∧ e.good xs ∧ Bx kvs xs ∧
  H c = some (.dK (bx kvs)) ∧ (0 ≤ a ∧ a < 1024) ∧ (0 ≤ t ∧ t < 1024) ∧ TabsN T H ∧ ∀ H', Gr T H H' → Q (.bl (e.val kvs a t)) H'
theorem Ts.good_of {kvs : List (Str × Int)} {xs : List Str} (B : Bx kvs xs) : ∀ {e : Ts}, e.good xs → e.good (namesOf kvs)
  | .is _ _, h => ⟨⟨Ex.good_of B h.1.1, h.1.2⟩, Ex.good_of B h.2.1, h.2.2⟩
  | .bel _ _, h => ⟨⟨Ex.good_of B h.1.1, h.1.2⟩, Ex.good_of B h.2.1, h.2.2⟩
  | .nt t, h => Ts.good_of (e := t) B h
  | .both _ _, h => ⟨Ts.good_of B h.1, Ts.good_of B h.2⟩
  | .either _ _, h => ⟨Ts.good_of B h.1, Ts.good_of B h.2⟩
section
variable {P : Program} {w : World} {K : PySem.W.Frag} {mg : Str → Option Value} {base : Heap} {f rf : Addr} {fd rd : FuncData} {T : List NTab}
theorem ok_holds {n : Nat} {kws : List (Str × V)} (F : FunD K "holds" "holds" (defArgs sHolds) (defBody sHolds) (defScope sHolds) [] kws f fd) (G : FnOk P w K mg base CX0 (n + 7) rf rd psRT (spRT T (DeedIs P w K mg base) n)) (mR : mg "ready_test" = some (.ref rf)) (kR : PySem.W.keepIn K (.ref rf) = true) (bR : Binds K rd psRT [])
    (ml : mg "list" = none) : FnOk P w K mg base CX0 (n + 8) f fd psH (spHolds T n) := by
  refine F.ok scHolds (fun vs H Q E h => ?_) (fun cdv A outer s H vs Q E hr h => ?_)
  · obtain ⟨v, c, e, kvs, xs, a, t, rfl, _⟩ := h
    rfl
  obtain ⟨v, c, e, kvs, xs, a, t, rfl, hv, hd, hg, B, hc, ha, ht, hT, q⟩ := h
  refine ⟨_, PSs.nox (pss_cons (ps_set (i := 4) scHolds.nd rfl (Or.inl rfl) (pe_call G hr rfl mR kR bR .nil pass0 (pa_cons (pv 0) (pa_cons (pe_callTy (call_listD rfl) rfl ml (by decide +kernel) (pa_cons (pv 1) pa_nil)) pa_nil))))
    (pss_one (ps_ret (pe_callL (i := 4) (all_cloT n) hr rfl (.inl rfl) (pa_cons (pe_listVals rfl (pv 1) rfl ml (by decide +kernel)) (pa_cons (pv 2) (pa_cons (pv 3) pa_nil))))))), ?_⟩
  refine ⟨_, rfl, _, rfl, c, _, rfl, .inl hc, fun p1 hp1 => ?_⟩
  rw [bx_names]
  have s1 := same_new hp1 (.lst ((namesOf kvs).map V.str))
  refine ⟨v, p1, e, namesOf kvs, rfl, hv.keep (Same.tups s1), hd, Ts.good_of B hg, upd_same, hT.ext s1, fun g H2 g2 cl => ?_⟩
  have gr := (Gr.of hT s1).trans g2
  refine ⟨g, rfl, cl.lm, _, rfl, c, _, rfl, gr.dK hc, fun p3 hp3 => ?_⟩
  rw [bx_nums]
  have s3 := same_new hp3 (.lst (numsV kvs))
  have cl3 := cl.ext (ExtN.of s3)
  exact ⟨_, rfl, _, rfl, cl3.lm, e, kvs, xs, p3, a, t, rfl, hd, upd_same, cl3, hg, B, ha, ht, q _ (gr.same s3)⟩
theorem kb_holds {kws : List (Str × V)} (F : FunD K "holds" "holds" (defArgs sHolds) (defBody sHolds) (defScope sHolds) [] kws f fd) : KBn K fd psH 2 ["asked", "told"] (fun us ws => us ++ ws) (fun us ws => us ++ ws) := by
  obtain ⟨oc, od, dV, kV, doc, pm, an, cdv, ct, osl, rfl, lk, hcd, hD, hK⟩ := F.ex
  have hd : dV = .none := hD.elim (fun z => z.2) (fun z => absurd rfl z.1)
  subst hd
  refine ⟨fun s us ws _ l1 l2 => ?_, fun r1 r2 => r1.append r2⟩
  match us, ws, l1, l2 with
  | [u1, u2], [w1, w2], _, _ => exact .of_eq rfl
end
end Any
namespace Any
open L2 PySem PySem.Spec PyProof.Rows LamX NdefX
theorem small {n : Nat} (h : n ≤ 1000) : n ≤ sizeLine := Nat.le_of_lt (small1000 h)
/-! ### defs by their names -/
section
variable (P : Program) (w : World) (K : PySem.W.Frag) (mg : Str → Option Value) (base : Heap)
/-- the name x of the module holds this def -/
def Nd (x : Str) (st : Stmt) (ps : List Str) : Prop := ∃ f fd, mg x = some (.ref f) ∧ Fun K x x st f fd ∧ Binds K fd ps []
/-- .. one that keeps this promise -/
def Df (k : Nat) (x : Str) (ps : List Str) (sp : Sp) : Prop := ∃ f fd, mg x = some (.ref f) ∧ PySem.W.keepIn K (.ref f) = true ∧ FnOk P w K mg base CX0 k f fd ps sp ∧ Binds K fd ps []
/-- .. where no repr is under way -/
def DfG (k : Nat) (x : Str) (ps : List Str) (sp : Sp) : Prop := ∃ f fd, mg x = some (.ref f) ∧ PySem.W.keepIn K (.ref f) = true ∧ FnG P w K mg base CX0 k f fd ps sp ∧ Binds K fd ps []
/-- a method of the class at C -/
def Mf (C : Addr) (k : Nat) (m : Str) (ps : List Str) (sp : Sp) : Prop := ∃ f fd, Meth K C m f ∧ FnOk P w K mg base CX0 k f fd ps sp ∧ Binds K fd ps []
end
section
variable {X : Cx} {k : Nat} {x m : Str} {C : Addr} {ps : List Str} {sp : Sp} {p pos apos : Pos} {e o : Expr} {es : List Expr} {t : TA} {ta : TE}
theorem pe_D (D : Df X.prog X.w X.K X.mg X.base k x ps sp) (hr : Room k X.A) (hg : Gl X x) (ha : PA X (e :: es) t) (hdb : (x == ("__debug__" : Str)) = false := by decide)
    (he : starEach (e :: es) X.env = (false, eval e X.env) :: starEach es X.env := by rfl) (hpl : (backTo pos (starEach es X.env)).any (·.1) = false := by rfl) : PE X (.Call (.Name x p) (e :: es) [] pos) (tCall sp [] E0 t) := by
  obtain ⟨f, fd, hm, hk, F, hb⟩ := D
  exact pe_call F hr hg hm hk hb .nil pass0 ha hdb he hpl
theorem pe_DG (D : DfG X.prog X.w X.K X.mg X.base k x ps sp) (hG : X.A.guards = some []) (hr : Room k X.A) (hg : Gl X x) (ha : PA X (e :: es) t) (hdb : (x == ("__debug__" : Str)) = false := by decide)
    (he : starEach (e :: es) X.env = (false, eval e X.env) :: starEach es X.env := by rfl) (hpl : (backTo pos (starEach es X.env)).any (·.1) = false := by rfl) : PE X (.Call (.Name x p) (e :: es) [] pos) (tCall sp [] E0 t) := by
  obtain ⟨f, fd, hm, hk, F, hb⟩ := D
  exact pe_callG F hG hr hg hm hk hb .nil pass0 ha hdb he hpl
theorem pe_M {pl : Sem Bool} (D : Mf X.prog X.w X.K X.mg X.base C k m ps sp) (c : Cls X.K C) (he : PE X o ta) (hr : Room k X.A) (ha : PA X (e :: es) t)
    (hst : starEach (e :: es) X.env = (false, eval e X.env) :: starEach es X.env := by rfl) (hpl : (backTo pos (starEach es X.env)).any (·.1) = false := by rfl)
    (ht : eval (.Call (.Attribute o m apos) (e :: es) [] pos) X.env = (do
      let ov ← eval o X.env
      standAt apos.atName
      let (f, first) ← holding [ov] (getMethod ov m pl)
      callWith pos f first (backTo pos (starEach (e :: es) X.env)) (backToKw pos (keywordEach [] X.env))) := by rfl) :
    PE X (.Call (.Attribute o m apos) (e :: es) [] pos) (tMeth C m sp [] E0 ta t) := by
  obtain ⟨f, fd, hm, F, hb⟩ := D
  exact pe_meth he c hm F hr hb .nil pass0 ha hst hpl ht
end
section
variable {P : Program} {w : World} {K : PySem.W.Frag} {mg : Str → Option Value} {base : Heap}
theorem Df.mono {j k : Nat} {x : Str} {ps : List Str} {sp : Sp} (D : Df P w K mg base j x ps sp) (h : j ≤ k) : Df P w K mg base k x ps sp := by
  obtain ⟨f, fd, hm, hk, F, hb⟩ := D
  exact ⟨f, fd, hm, hk, F.mono h, hb⟩
end
theorem itD {c A B : Prop} [Decidable c] (h1 : c → A) (h2 : ¬ c → B) : if decide c = true then A else B := ite2 (fun z => h1 (of_decide_eq_true z)) fun z => h2 fun q => z (decide_eq_true q)
theorem itN {c A B : Prop} [Decidable c] (h1 : ¬ c → A) (h2 : c → B) : if (!decide c) = true then A else B := by
  by_cases h : c
  · rw [decide_eq_true h]
    exact itF rfl (h2 h)
  · rw [decide_eq_false h]
    exact itT rfl (h1 h)
theorem itEq {i j : Int} {A B : Prop} (h1 : i = j → A) (h2 : i ≠ j → B) : if decide (V.int i = V.int j) = true then A else B := itD (fun z => h1 (V.int.inj z)) fun z => h2 fun q => z (by rw [q])
theorem itNe {i j : Int} {A B : Prop} (h1 : i ≠ j → A) (h2 : i = j → B) : if (!decide (V.int i = V.int j)) = true then A else B := itN (fun z => h1 fun q => z (by rw [q])) fun z => h2 (V.int.inj z)
theorem kept_same {l : Addr} {H H1 H2 : Hp} (s : Same H H1) (n : H l = none) (k : Kept l H1 H2) : Same H H2 := fun a o h => k a o (ne_of_none h n) (s a o h)
abbrev sBag : Stmt := top 80
abbrev sTake : Stmt := top 81
theorem scBag : FnScope ["_law_script", "_law_at", "_law_cell", "_law_far"] ["_law_script", "_law_at"] (defScope sBag) := ⟨rfl, rfl, rfl, by decide +kernel, rfl, by decide +kernel, by decide +kernel⟩
theorem scTake : FnScope ["_law_bag_here", "_law_many", "_law_digit", "_law_primes", "_law_turn", "_law_base", "_law_mixed"] ["_law_bag_here", "_law_many"] (defScope sTake) := ⟨rfl, rfl, rfl, by decide +kernel, rfl, by decide +kernel, by decide +kernel⟩
/-- a bag from which so many may still be taken -/
def Bag (H : Hp) (b : Addr) (k : Nat) : Prop := ∃ g s c : Int, H b = some (.lst [.int g, .int s, .int c]) ∧ 0 ≤ g ∧ 0 ≤ s ∧ s < 2 ^ 62 ∧ 0 ≤ c ∧ c + k < 2 ^ 40
theorem Bag.less {H : Hp} {b : Addr} {m n : Nat} (h : Bag H b m) (k : n ≤ m) : Bag H b n := by
  obtain ⟨g, s, c, h1, h2, h3, h4, h5, h6⟩ := h
  exact ⟨g, s, c, h1, h2, h3, h4, h5, by omega⟩
theorem Bag.keep {H H' : Hp} {b : Addr} {n : Nat} (h : Bag H b n) (k : Same H H') : Bag H' b n := by
  obtain ⟨g, s, c, h1, h2⟩ := h
  exact ⟨g, s, c, k _ _ h1, h2⟩
theorem Bag.keepX {H H' : Hp} {b x : Addr} {n : Nat} (h : Bag H b n) (k : Kept x H H') (ne : b ≠ x) : Bag H' b n := by
  obtain ⟨g, s, c, h1, h2⟩ := h
  exact ⟨g, s, c, k _ _ ne h1, h2⟩
theorem Bag.lst {H : Hp} {b : Addr} {n : Nat} (h : Bag H b n) : ∃ xs, H b = some (.lst xs) := by
  obtain ⟨g, s, c, h1, h2⟩ := h
  exact ⟨_, h1⟩
theorem Bag.tups {H H' : Hp} {b : Addr} {n : Nat} (h : Bag H b n) (k : Kept b H H') : Tups H H' := by
  obtain ⟨xs, h⟩ := h.lst
  exact k.tups h
theorem Bag.ne {H : Hp} {b p : Addr} {n : Nat} (h : Bag H b n) (k : H p = none) : p ≠ b := by
  obtain ⟨xs, h⟩ := h.lst
  intro e
  rw [e, h] at k
  cases k
theorem Bag.put {H : Hp} {b p : Addr} {n : Nat} {o : HO} (h : Bag H b n) (ne : b ≠ p) : Bag (upd H p o) b n := by
  obtain ⟨g, s, c, h1, h2⟩ := h
  exact ⟨g, s, c, by rw [upd_ne ne]; exact h1, h2⟩
def spBag (K : PySem.W.Frag) : Sp := fun vs H Q _ => ∃ (a : Addr) (ns : List Int) (k : Int), vs = [.ref a, .int k] ∧ SqL K H a (ns.map V.int) ∧ 0 ≤ k ∧ k < 64 ∧ ∀ (b : Addr) (H' : Hp), H b = none → Same H H' → Bag H' b 1000000000 → Q (.ref b) H'
def spTake : Sp := fun vs H Q _ => ∃ (b : Addr) (m : Int) (n : Nat), vs = [.ref b, .int m] ∧ Bag H b (n + 1) ∧ 1 ≤ m ∧ m ≤ 1000000 ∧
  ∀ (d : Int) (H' : Hp), Kept b H H' → Bag H' b n → 0 ≤ d → d < m → Q (.int d) H'
def primes : List Int := [2147483647, 2147483629, 2147483587, 2147483579, 2147483563, 2147483549, 2147483543]
theorem prime_at {r : Int} (h0 : 0 ≤ r) (h1 : r < 7) : ∃ p : Int, atI (primes.map V.int) r = some (.int p) ∧ 0 < p ∧ p < 2 ^ 31 := by
  have : r = 0 ∨ r = 1 ∨ r = 2 ∨ r = 3 ∨ r = 4 ∨ r = 5 ∨ r = 6 := by omega
  rcases this with rfl | rfl | rfl | rfl | rfl | rfl | rfl <;> exact ⟨_, rfl, by decide, by decide⟩
theorem base_bits {s c : Int} (h1 : 0 ≤ s) (h2 : s < 2 ^ 62) (h3 : 0 ≤ c) (h4 : c < 2 ^ 40) : CPowW (s * (2 * c + 1) + 4597 * c * c + 61) 3 := by
  refine ⟨by decide, ?_⟩
  have a1 : 0 ≤ s * (2 * c + 1) := Int.mul_nonneg h1 (by omega)
  have a2 : s * (2 * c + 1) ≤ 2 ^ 62 * 2 ^ 42 := Int.mul_le_mul (by omega) (by omega) (by omega) (by decide)
  have a3 : 0 ≤ 4597 * c * c := Int.mul_nonneg (by omega) h3
  have a4 : 4597 * c * c ≤ 2 ^ 53 * 2 ^ 40 := Int.mul_le_mul (by omega) (by omega) h3 (by decide)
  have b : (s * (2 * c + 1) + 4597 * c * c + 61).natAbs < 2 ^ 110 := by
    generalize s * (2 * c + 1) = x at *
    generalize 4597 * c * c = y at *
    omega
  have c1 := intBits_le b
  omega
section
variable {P : Program} {w : World} {K : PySem.W.Frag} {mg : Str → Option Value} {base : Heap} {f : Addr} {fd : FuncData}
theorem ok_bag (ml : mg "len" = none) (ma : mg "abs" = none) (mi : mg "int" = none) (F : Fun K "_law_bag" "_law_bag" sBag f fd) : FnOk P w K mg base CX0 1 f fd ["_law_script", "_law_at"] (spBag K) := by
  refine F.ok scBag (fun vs H Q E h => ?_) (fun cdv A outer s H vs Q E hr h => ?_)
  · obtain ⟨a, ns, k, rfl, _⟩ := h
    rfl
  obtain ⟨a, ns, k, rfl, hS, h0, h1, q⟩ := h
  have fin : ∀ cell : Int, ∀ (b : Addr), H b = none → Q (.ref b) (upd H b (.lst [.int ((if cell < 0 then -cell else cell) * (if decide ((10 : Int) ^ (18 : Int).toNat ≤ (if cell < 0 then -cell else cell)) = true then 1 else 0)), .int (cell % 1000000000000000003 + 4091 * k * k + 53 * k + 43), .int 0])) := fun cell b hb => by
    refine q b _ hb (same_new hb _) ⟨_, _, _, upd_same, ?_, ?_, ?_, Int.le_refl 0, by decide⟩
    · refine Int.mul_nonneg (by split <;> omega) (by split <;> omega)
    · have z := Int.emod_nonneg cell (show (1000000000000000003 : Int) ≠ 0 by decide)
      have z2 : 0 ≤ 4091 * k * k := Int.mul_nonneg (Int.mul_nonneg (by decide) h0) h0
      omega
    · have z := Int.emod_lt_of_pos cell (show (0 : Int) < 1000000000000000003 by decide)
      have z2 : 4091 * k * k ≤ 4091 * 64 * 64 := by
        have a1 : 4091 * k ≤ 4091 * 64 := by omega
        have a2 : 4091 * k * k ≤ 4091 * 64 * k := Int.mul_le_mul_of_nonneg_right a1 h0
        have a3 : 4091 * 64 * k ≤ 4091 * 64 * 64 := by omega
        omega
      omega
  have one : ∀ c : Bool, -(2 ^ 64) < (if c = true then (1 : Int) else 0) ∧ (if c = true then (1 : Int) else 0) < 2 ^ 64 := fun c => by cases c <;> decide
  obtain ⟨tT, hT, leafT⟩ : ∃ t, PSs (cxOf CX0 P w K mg base ["_law_script", "_law_at", "_law_cell", "_law_far"] "_law_bag" (defScope sBag) f cdv A outer s H E).nox ((defBody sBag).drop 2) t ∧ ∀ cell : Int, t { nx := fun _ H' => Q .non H', rt := Q } [some (.ref a), some (.int k), some (.int cell), none] H := by
    refine ⟨_, pss_cons (ps_set (i := 3) scBag.nd rfl (Or.inl rfl) (pe_callB call_abs rfl ma (by decide +kernel) (pa_cons (pv 2) pa_nil)))
      (pss_one (ps_ret (pe_lst (pa_cons (pe_op op_mul (pv 3) (pe_callTy call_int1 rfl mi (by decide +kernel) (pa_cons (pe_cmpR op_ge (pv 3) (pe_op op_pow pe_int pe_int) (nomark _)) pa_nil)))
        (pa_cons (pe_op op_add (pe_op op_add (pe_op op_add (pe_op op_mod (pv 2) pe_int) (pe_op op_mul (pe_op op_mul pe_int (pv 1)) (pv 1))) (pe_op op_mul pe_int (pv 1))) pe_int) (pa_cons pe_int pa_nil)))))), ?_⟩
    intro cell
    refine ⟨_, rfl, _, rfl, ?_⟩
    refine ⟨_, rfl, _, rfl, _, _, rfl, rfl, ⟨by decide, by decide, by decide⟩, _, _, rfl, rfl, .inr ⟨_, rfl, _, _, rfl, rfl, .inr (one _), ?_⟩⟩
    refine ⟨_, rfl, _, _, rfl, rfl, (by show (0 : Int) < 1000000000000000003; decide), _, rfl, _, _, rfl, rfl, .inl ⟨by decide, by decide⟩, _, rfl, _, _, rfl, rfl, .inl ⟨by omega, by omega⟩, _, _, rfl, rfl, ?_⟩
    exact ⟨_, rfl, _, _, rfl, rfl, .inl ⟨by decide, by decide⟩, _, _, rfl, rfl, _, _, rfl, rfl, (by show 3 ≤ sizeLine; decide), fun p hp => fin cell p hp⟩
  refine ⟨_, pss_cons (ps_set (i := 2) scBag.nd rfl (Or.inl rfl) pe_int)
    (pss_cons (ps_if (pt_cmpR op_lt (pv 1) (pe_callB call_len_seq rfl ml PySem.boot_len (pa_cons (pv 0) pa_nil)) (nomark _)) (pss_one (ps_set (i := 2) scBag.nd rfl (Or.inl rfl) (pe_ix ix_list (pv 0) (pv 1) (fun _ _ => rfl)))) pss_nil) hT), ?_⟩
  refine ⟨_, rfl, _, rfl, a, _, rfl, .inl hS, _, _, rfl, rfl, _, rfl, itD (fun c => ?_) (fun c => leafT 0)⟩
  rw [List.length_map] at c
  have hk : k.toNat < ns.length := by omega
  have ek : k = ((k.toNat : Nat) : Int) := by omega
  have q2 : atI (ns.map V.int) ((k.toNat : Nat) : Int) = some (.int ns[k.toNat]) := atI_nat (by rw [List.getElem?_map, List.getElem?_eq_getElem hk]; rfl)
  rw [← ek] at q2
  exact ⟨_, rfl, _, rfl, a, _, _, _, rfl, rfl, hS, q2, leafT _⟩
theorem ok_take (F : Fun K "_law_take" "_law_take" sTake f fd) : FnOk P w K mg base CX0 1 f fd ["_law_bag_here", "_law_many"] spTake := by
  refine F.ok scTake (fun vs H Q E h => ?_) (fun cdv A outer s H vs Q E hr h => ?_)
  · obtain ⟨b, m, n, rfl, _⟩ := h
    rfl
  obtain ⟨b, m, n, rfl, ⟨g, sd, c, hb, hg, hs0, hs1, hc0, hc1⟩, hm0, hm1, q⟩ := h
  refine ⟨_, pss_cons (ps_if (pt_cmpR op_gt (pe_ix ix_list (pv 0) pe_int (fun _ _ => rfl)) pe_int (nomark _))
      (pss_cons (ps_set (i := 2) scTake.nd rfl (Or.inl rfl) (pe_op op_mod (pe_ix ix_list (pv 0) pe_int (fun _ _ => rfl)) (pv 1)))
      (pss_cons (ps_asg (pe_op op_fdiv (pe_ix ix_list (pv 0) pe_int (fun _ _ => rfl)) (pv 1)) (pg_sub (pv 0) pe_int set_list))
      (pss_one (ps_ret (pv 2))))) pss_nil)
    (pss_cons (ps_set (i := 3) scTake.nd rfl (Or.inl rfl) (pe_tup (pa_cons pe_int (pa_cons pe_int (pa_cons pe_int (pa_cons pe_int (pa_cons pe_int (pa_cons pe_int (pa_cons pe_int pa_nil)))))))))
    (pss_cons (ps_asg (pe_op op_add (pe_ix ix_list (pv 0) pe_int (fun _ _ => rfl)) pe_int) (pg_sub (pv 0) pe_int set_list))
    (pss_cons (ps_set (i := 4) scTake.nd rfl (Or.inl rfl) (pe_ix ix_list (pv 0) pe_int (fun _ _ => rfl)))
    (pss_cons (ps_set (i := 5) scTake.nd rfl (Or.inl rfl) (pe_op op_add (pe_op op_add (pe_op op_mul (pe_ix ix_list (pv 0) pe_int (fun _ _ => rfl)) (pe_op op_add (pe_op op_mul pe_int (pv 4)) pe_int)) (pe_op op_mul (pe_op op_mul pe_int (pv 4)) (pv 4))) pe_int))
    (pss_cons (ps_set (i := 6) scTake.nd rfl (Or.inl rfl) (pe_op op_mod (pe_op op_powW (pv 5) pe_int) (pe_ix ix_tup (pv 3) (pe_op op_mod (pv 4) pe_int) (fun _ _ => rfl))))
    (pss_one (ps_ret (pe_op op_mod (pe_op op_fdiv (pe_op op_mod (pe_op op_mul (pv 6) (pe_op op_add (pe_op op_add (pe_op op_fdiv (pv 6) pe_int) (pe_op op_mul pe_int (pv 4))) pe_int)) (pe_ix ix_tup (pv 3) (pe_op op_mod (pe_op op_add (pv 4) pe_int) pe_int) (fun _ _ => rfl))) pe_int) (pv 1))))))))), ?_⟩
  refine ⟨_, rfl, b, _, _, _, rfl, rfl, SqL.of hb, atI_nat (j := 0) rfl, _, _, rfl, rfl, _, rfl, ?_⟩
  refine ite2 (fun c' => ?_) (fun c' => ?_)
  · refine ⟨_, rfl, b, _, _, _, rfl, rfl, SqL.of hb, atI_nat (j := 0) rfl, _, rfl, _, _, rfl, rfl, (by omega), ?_⟩
    refine ⟨_, rfl, b, _, _, _, rfl, rfl, SqL.of hb, atI_nat (j := 0) rfl, _, rfl, _, _, rfl, rfl, ⟨by omega, by omega⟩, ?_⟩
    refine ⟨_, rfl, b, _, _, 0, rfl, rfl, hb, rfl, ?_⟩
    refine ⟨_, rfl, q _ _ (Kept.put _) ⟨_, _, _, upd_same, ?_, hs0, hs1, hc0, by omega⟩ (Int.emod_nonneg _ (by omega)) (Int.emod_lt_of_pos _ (by omega))⟩
    exact Int.ediv_nonneg hg (by omega)
  · refine ⟨(by show 7 ≤ sizeLine; decide), fun p hp => ?_⟩
    have bp : b ≠ p := ne_of_none hb hp
    have hb1 : upd H p (.tup (primes.map V.int)) b = some (.lst [.int g, .int sd, .int c]) := by rw [upd_ne bp]; exact hb
    refine ⟨_, rfl, b, _, _, _, rfl, rfl, SqL.of hb1, atI_nat (j := 2) rfl, _, _, rfl, rfl, ?_⟩
    refine ⟨_, rfl, b, _, _, 2, rfl, rfl, hb1, rfl, ?_⟩
    have hb2 : upd (upd H p (.tup (primes.map V.int))) b (.lst [.int g, .int sd, .int (c + 1)]) b = some (.lst [.int g, .int sd, .int (c + 1)]) := upd_same
    have hp2 : upd (upd H p (.tup (primes.map V.int))) b (.lst [.int g, .int sd, .int (c + 1)]) p = some (.tup (primes.map V.int)) := by rw [upd_ne bp.symm]; exact upd_same
    have kept : Kept b H (upd (upd H p (.tup (primes.map V.int))) b (.lst [.int g, .int sd, .int (c + 1)])) := (Kept.new hp _).trans (Kept.put _)
    have bag : Bag (upd (upd H p (.tup (primes.map V.int))) b (.lst [.int g, .int sd, .int (c + 1)])) b n := ⟨_, _, _, hb2, hg, hs0, hs1, by omega, by omega⟩
    have c0 : 0 ≤ c + 1 := by omega
    have c1 : c + 1 < 2 ^ 40 := by omega
    refine ⟨_, rfl, b, _, _, _, rfl, rfl, SqL.of hb2, atI_nat (j := 2) rfl, ?_⟩
    refine ⟨_, rfl, b, _, _, _, rfl, rfl, SqL.of hb2, atI_nat (j := 1) rfl, _, rfl, _, _, rfl, rfl, .inl ⟨by decide, by decide⟩, _, _, rfl, rfl, _, _, rfl, rfl, .inl ⟨by omega, by omega⟩, ?_⟩
    refine ⟨_, rfl, _, _, rfl, rfl, .inl ⟨by decide, by decide⟩, _, rfl, _, _, rfl, rfl, .inl ⟨by omega, by omega⟩, _, _, rfl, rfl, _, _, rfl, rfl, ?_⟩
    obtain ⟨p1, e1, p10, p11⟩ := prime_at (r := (c + 1) % 7) (by omega) (by omega)
    refine ⟨_, rfl, _, _, rfl, rfl, base_bits hs0 hs1 c0 c1, _, rfl, _, rfl, _, _, rfl, rfl, (by show (0 : Int) < 7; decide), p, _, _, _, rfl, rfl, SqT.of hp2, e1, _, _, rfl, rfl, p10, ?_⟩
    have m2 : -(2 ^ 64) < (sd * (2 * (c + 1) + 1) + 4597 * (c + 1) * (c + 1) + 61) ^ Int.toNat 3 % p1 ∧ (sd * (2 * (c + 1) + 1) + 4597 * (c + 1) * (c + 1) + 61) ^ Int.toNat 3 % p1 < 2 ^ 64 := by
      have m0 := Int.emod_nonneg ((sd * (2 * (c + 1) + 1) + 4597 * (c + 1) * (c + 1) + 61) ^ Int.toNat 3) (show p1 ≠ 0 by omega)
      have m1 := Int.emod_lt_of_pos ((sd * (2 * (c + 1) + 1) + 4597 * (c + 1) * (c + 1) + 61) ^ Int.toNat 3) p10
      generalize (sd * (2 * (c + 1) + 1) + 4597 * (c + 1) * (c + 1) + 61) ^ Int.toNat 3 % p1 = mx at *
      omega
    obtain ⟨p2, e2, p20, p21⟩ := prime_at (r := (c + 1 + 4) % 7) (by omega) (by omega)
    refine ⟨_, rfl, _, rfl, _, _, rfl, rfl, ⟨by decide, by decide⟩, _, rfl, _, _, rfl, rfl, .inl ⟨by decide, by decide⟩, _, _, rfl, rfl, _, _, rfl, rfl, _, _, rfl, rfl, .inl m2, ?_⟩
    refine ⟨_, rfl, _, rfl, _, _, rfl, rfl, _, _, rfl, rfl, (by show (0 : Int) < 7; decide), p, _, _, _, rfl, rfl, SqT.of hp2, e2, _, _, rfl, rfl, p20, _, _, rfl, rfl, ⟨by decide, by decide⟩, _, rfl, _, _, rfl, rfl, (by omega), ?_⟩
    exact q _ _ kept bag (Int.emod_nonneg _ (by omega)) (Int.emod_lt_of_pos _ (by omega))
end
end Any
namespace Any
open L2 PySem PySem.Spec PyProof.Rows LamX NdefX

/-! ### list(d), d a written dict of texts -/
def Keyed : List DictEntry → List Str → Prop
  | [], [] => True
  | e :: es, k :: ks => (∃ t, e.key = .str k t) ∧ Keyed es ks
  | _, _ => False
theorem keyed_pairs {P : Program} {w : World} : ∀ {es : List DictEntry} {ks : List Str}, Keyed es ks →
    ∃ kvs : List (Str × Value), Pairs (PySem.strKind P w) es kvs ∧ kvs.map (·.1) = ks
  | [], [], _ => ⟨[], .nil, rfl⟩
  | e :: es, k :: ks, h => by
    obtain ⟨⟨t, h1⟩, h2⟩ := h
    obtain ⟨kvs, p, q⟩ := keyed_pairs (P := P) (w := w) h2
    exact ⟨(k, e.val) :: kvs, .cons (by rw [h1]; exact strKind_is P w k t) rfl p, by rw [List.map_cons, q]⟩
  | [], _ :: _, h => h.elim
  | _ :: _, [], h => h.elim
/-- a written dict with these keys -/
def KKeys (K : PySem.W.Frag) (w : World) (a : Addr) (ks : List Str) : Prop :=
  ∃ es n, K.lookup a = some ⟨.type "dict", none, .dict es n, #[]⟩ ∧ PySem.W.KeysLit w.params es.toList ∧ Keyed es.toList ks ∧ ks.Nodup ∧ (a == sysModules) = false ∧ ks.length ≤ sizeLine
theorem strs_is {P : Program} {w : World} : ∀ {us : List Value} {ks : List Str}, us.length = ks.length → (∀ (j : Nat) (v : Value), us[j]? = some v → ∃ k, ks[j]? = some k ∧ (PySem.strKind P w).is k v = true) → Vals (ks.map V.str) us
  | [], [], _, _ => .nil
  | u :: us, k :: ks, hl, h => by
    obtain ⟨k', e, h0⟩ := h 0 u rfl
    cases e
    obtain ⟨t, rfl⟩ := Value.isStrOf_shape h0
    exact .cons ⟨t, rfl⟩ (strs_is (P := P) (w := w) (by simpa using hl) fun j v e => h (j + 1) v e)
section
variable {X : Cx}
theorem call_listK (hc : X.calm = true) : CallR X (.type "list") (fun xs H Q => ∃ a ks, xs = [.ref a] ∧ KKeys X.K X.w a ks ∧ ∀ p, H p = none → Q (.ref p) (upd H p (.lst (ks.map V.str)))) := by
  intro pins s σ H xs us Q I r q
  obtain ⟨a, ks, rfl, ⟨es, n, hl, hk, hy, nd, lo, hz⟩, q⟩ := q
  obtain ⟨u, rfl, rx⟩ := vals1 r
  cases rx
  obtain ⟨kvs, hp, ek⟩ := keyed_pairs (P := X.prog) (w := X.w) hy
  have hat : s.heap.DictAt (PySem.strKind X.prog X.w) a kvs n := ⟨_, es, I.kIn _ _ hl, ⟨rfl, rfl, rfl⟩, rfl, fun e he => by
    obtain ⟨x, t, e1, e2⟩ := hk.all e (Array.mem_toList_iff.mpr he)
    exact ⟨x, by rw [e1]; exact strKind_is X.prog X.w x t, e2⟩, hp, by rw [ek]; exact nd⟩
  have hlen : kvs.length = ks.length := by rw [← ek, List.length_map]
  refine PySem.W.kdl_call (PySem.W.kdl_dict (knd := PySem.strKind X.prog X.w) (kvs := kvs) (ep := n) lo) (I.ok.hd hc) hat (by rw [hlen]; exact hz) fun h' tk acc c' kp hD hacc => ?_
  have hv : Vals (ks.map V.str) acc.toList := strs_is (P := X.prog) (w := X.w) (by rw [Array.length_toList, ← hlen]; exact hacc.1) fun j v e => by
    obtain ⟨k, x, h1, h2⟩ := hacc.2 j v (by rw [← Array.getElem?_toList]; exact e)
    exact ⟨k, by rw [← ek, List.getElem?_map, h1]; rfl, h2⟩
  refine ⟨.ref s.heap.objs.size, upd H s.heap.objs.size (.lst (ks.map V.str)), I.laid (t' := tk) kp (Nat.le_refl _)
    (show ObjOk X.prog X.w _ _ _ (.lst (ks.map V.str)) from ⟨by rw [List.length_map]; exact hz, acc.toList, c', hv, by rw [Array.toArray_toList]; exact hD⟩), rfl, q _ (I.hok.fresh (Nat.le_refl _))⟩
end

/-! ### rows made of rows, all else staying -/
/-- what a row's making asks -/
def Turns (J : It) (g : TG) (tt : TT) (te : TE) (vs : List Nat) (σ : L2.St) (H1 : Hp) (D : Addr) (Qd : Hp → Prop) : Prop :=
  ∃ W : Nat → Nat → Hp → Prop, (∃ m, W 0 m (upd H1 D (.lst []))) ∧
    ∀ i m H, W i m H → (J.stop i H ∧ Qd H) ∨
      (J.go i H ∧ ∃ N : Hp → Prop, (∀ H', N H' → ∃ m', m' < m ∧ W (i + 1) m' H') ∧
        ∀ x H', J.yld i H x H' →
          g x (wipe σ vs) H' fun σ2 H2 => wipe σ2 vs = wipe σ vs ∧
            tt σ2 H2 fun b H3 => if b = true then te σ2 H3 fun y H4 => ∃ acc, H4 D = some (.lst acc) ∧ acc.length < sizeLine ∧ N (upd H4 D (.lst (acc ++ [y]))) else N H3)
section
variable {K : PySem.W.Frag} {a : Addr} {xs : List V} {g : TG} {tt : TT} {te : TE} {vs : List Nat} {σ : L2.St} {H1 : Hp} {D : Addr} {Qd : Hp → Prop}
/-- each turn puts one thing behind, or none -/
def TurnF (xs : List V) (gs : List (Option V)) (g : TG) (tt : TT) (te : TE) (vs : List Nat) (σ : L2.St) (H1 : Hp) : Prop :=
  ∀ (i : Nat) (x : V) (o : Option V) (H : Hp) (Y : VK) (N : Hp → Prop), xs[i]? = some x → gs[i]? = some o → Same H1 H → (∀ y, o = some y → ∀ H4, Same H H4 → Y y H4) → (o = none → ∀ H4, Same H H4 → N H4) →
    g x (wipe σ vs) H fun σ2 H2 => wipe σ2 vs = wipe σ vs ∧ tt σ2 H2 fun b H3 => if b = true then te σ2 H3 Y else N H3
theorem take_fm {gs : List (Option V)} {i : Nat} {o : Option V} (h : gs[i]? = some o) : (gs.take (i + 1)).filterMap id = (gs.take i).filterMap id ++ o.toList := by
  rw [List.take_add_one, h, List.filterMap_append]
  cases o <;> rfl
theorem fm_len (gs : List (Option V)) : (gs.filterMap id).length ≤ gs.length := List.length_filterMap_le ..
theorem turns_tup (gs : List (Option V)) (hD : H1 D = none) (ha : ∀ H, Same H1 H → SqT K H a xs) (hn : gs.length = xs.length) (hz : xs.length ≤ sizeLine) (hs : TurnF xs gs g tt te vs σ H1)
    (hd : ∀ H, H D = some (.lst (gs.filterMap id)) → Same H1 H → Qd H) : Turns (Itt K a) g tt te vs σ H1 D Qd := by
  refine lc_tup (K := K) (a := a) (xs := xs) (fun i Hc => Hc D = some (.lst ((gs.take i).filterMap id)) ∧ Same H1 Hc) ⟨upd_same, same_new hD _⟩ (fun i Hc _ z => ha Hc z.2) ?_ ?_
  · rintro i x Hc hx ⟨hC, sm⟩
    have hi : i < xs.length := (List.getElem?_eq_some_iff.mp hx).1
    obtain ⟨o, ho⟩ : ∃ o, gs[i]? = some o := ⟨gs[i]'(by omega), by simp [hn, hi]⟩
    refine hs i x o Hc _ _ hx ho sm (fun y ey H4 s4 => ⟨_, s4 _ _ hC, ?_, ?_, fun b u hb => ?_⟩) (fun en H4 s4 => ⟨?_, sm.trans s4⟩)
    · have := fm_len (gs.take i)
      rw [List.length_take] at this
      omega
    · rw [upd_same, take_fm ho, ey]
      rfl
    · rw [upd_ne (ne_of_none hb hD)]
      exact s4 _ _ (sm _ _ hb)
    · rw [take_fm ho, en]
      show H4 D = some (.lst (_ ++ []))
      rw [List.append_nil]
      exact s4 _ _ hC
  · rintro Hc ⟨hC, sm⟩
    rw [← hn, List.take_length] at hC
    exact hd Hc hC sm
theorem turns_list (gs : List (Option V)) (hD : H1 D = none) (ha : ∀ H, Same H1 H → SqL K H a xs) (hn : gs.length = xs.length) (hz : xs.length ≤ sizeLine) (hs : TurnF xs gs g tt te vs σ H1)
    (hd : ∀ H, H D = some (.lst (gs.filterMap id)) → Same H1 H → Qd H) : Turns (Itl K a) g tt te vs σ H1 D Qd := by
  refine lc_list (K := K) (a := a) (xs := xs) (fun i Hc => Hc D = some (.lst ((gs.take i).filterMap id)) ∧ Same H1 Hc) ⟨upd_same, same_new hD _⟩ (fun i Hc _ z => ha Hc z.2) ?_ ?_
  · rintro i x Hc hx ⟨hC, sm⟩
    have hi : i < xs.length := (List.getElem?_eq_some_iff.mp hx).1
    obtain ⟨o, ho⟩ : ∃ o, gs[i]? = some o := ⟨gs[i]'(by omega), by simp [hn, hi]⟩
    refine hs i x o Hc _ _ hx ho sm (fun y ey H4 s4 => ⟨_, s4 _ _ hC, ?_, ?_, fun b u hb => ?_⟩) (fun en H4 s4 => ⟨?_, sm.trans s4⟩)
    · have := fm_len (gs.take i)
      rw [List.length_take] at this
      omega
    · rw [upd_same, take_fm ho, ey]
      rfl
    · rw [upd_ne (ne_of_none hb hD)]
      exact s4 _ _ (sm _ _ hb)
    · rw [take_fm ho, en]
      show H4 D = some (.lst (_ ++ []))
      rw [List.append_nil]
      exact s4 _ _ hC
  · rintro Hc ⟨hC, sm⟩
    rw [← hn, List.take_length] at hC
    exact hd Hc hC sm
end
end Any
namespace Any
open L2 PySem PySem.Spec PyProof.Rows LamX NdefX
abbrev sWhole : Stmt := top 20
abbrev sWithin : Stmt := top 21
abbrev sName : Stmt := top 22
abbrev sIsExpr : Stmt := top 23
abbrev sIsTest : Stmt := top 24
abbrev sExFits : Stmt := top 25
abbrev sTsFits : Stmt := top 26
abbrev sRow : Stmt := top 27
abbrev sCount : Stmt := top 28
theorem scWhole : FnScope ["thing"] ["thing"] (defScope sWhole) := ⟨rfl, rfl, rfl, by decide +kernel, rfl, by decide +kernel, by decide +kernel⟩
theorem scWithin : FnScope ["thing", "least", "most"] ["thing", "least", "most"] (defScope sWithin) := ⟨rfl, rfl, rfl, by decide +kernel, rfl, by decide +kernel, by decide +kernel⟩
theorem scRow : FnScope ["thing"] ["thing"] (defScope sRow) := ⟨rfl, rfl, rfl, by decide +kernel, rfl, by decide +kernel, by decide +kernel⟩
theorem scCount : FnScope ["term", "part"] ["term"] (defScope sCount) := ⟨rfl, rfl, rfl, by decide +kernel, rfl, by decide +kernel, by decide +kernel⟩
theorem scExFits : FnScope ["thing", "boxes", "words", "deep", "kind", "part"] ["thing", "boxes", "words", "deep"] (defScope sExFits) := ⟨rfl, rfl, rfl, by decide +kernel, rfl, by decide +kernel, by decide +kernel⟩
theorem scTsFits : FnScope ["thing", "boxes", "words", "deep", "kind", "part"] ["thing", "boxes", "words", "deep"] (defScope sTsFits) := ⟨rfl, rfl, rfl, by decide +kernel, rfl, by decide +kernel, by decide +kernel⟩
theorem scIsExpr : FnScope ["thing", "boxes", "words"] ["thing", "boxes", "words"] (defScope sIsExpr) := ⟨rfl, rfl, rfl, by decide +kernel, rfl, by decide +kernel, by decide +kernel⟩
theorem scIsTest : FnScope ["thing", "boxes", "words"] ["thing", "boxes", "words"] (defScope sIsTest) := ⟨rfl, rfl, rfl, by decide +kernel, rfl, by decide +kernel, by decide +kernel⟩
/-- the names of Python's own that the program asks for -/
structure Own (mg : Str → Option Value) : Prop where
  isi : mg "isinstance" = none
  int : mg "int" = none
  bool : mg "bool" = none
  str : mg "str" = none
  tuple : mg "tuple" = none
  len : mg "len" = none
  all : mg "all" = none
  sum : mg "sum" = none
  list : mg "list" = none
def spWhole : Sp := fun vs H Q _ => ∃ i, vs = [.int i] ∧ Q (.bl true) H
def spWithin : Sp := fun vs H Q _ => ∃ i l m, vs = [.int i, .int l, .int m] ∧ Q (.bl (decide (l ≤ i) && decide (i ≤ m))) H
def spRow : Sp := fun vs H Q _ => ∃ a x xs, vs = [.ref a] ∧ H a = some (.tup (x :: xs)) ∧ Q (.bl true) H
section
variable {P : Program} {w : World} {K : PySem.W.Frag} {mg : Str → Option Value} {base : Heap} {f g : Addr} {fd gd : FuncData}
theorem kb (a b : String) (r : Bool) (h : kitB a b = some r := by decide +kernel) : PySem.W.kitOne K (.type a) (.type b) = some r := kit_ty h
theorem ok_whole (O : Own mg) (F : Fun K "is_whole" "is_whole" sWhole f fd) : FnOk P w K mg base CX0 1 f fd ["thing"] spWhole := by
  refine F.ok scWhole (fun vs H Q E h => ?_) (fun cdv A outer s H vs Q E hr h => ?_)
  · obtain ⟨i, rfl, _⟩ := h
    rfl
  obtain ⟨i, rfl, q⟩ := h
  refine ⟨_, pss_one (ps_ret (pe_and (pe_callB call_isi rfl O.isi (by decide +kernel) (pa_cons (pv 0) (pa_cons (pe_bltn (v := .ty "int") rfl O.int (by decide +kernel) rfl) pa_nil)))
    (pe_one (pe_not (pe_callB call_isi rfl O.isi (by decide +kernel) (pa_cons (pv 0) (pa_cons (pe_bltn (v := .ty "bool") rfl O.bool (by decide +kernel) rfl) pa_nil))))))), ?_⟩
  exact ⟨_, rfl, _, _, _, _, true, rfl, .ty "int", .base (.int i), kb "int" "int" true, _, rfl, _, rfl, _, _, _, _, false, rfl, .ty "bool", .base (.int i), kb "int" "bool" false, _, rfl, q⟩
theorem ok_within (F : Fun K "is_within" "is_within" sWithin f fd) (G : FnOk P w K mg base CX0 1 g gd ["thing"] spWhole) (bG : Binds K gd ["thing"] []) (kG : PySem.W.keepIn K (.ref g) = true) (mG : mg "is_whole" = some (.ref g)) :
    FnOk P w K mg base CX0 2 f fd ["thing", "least", "most"] spWithin := by
  refine F.ok scWithin (fun vs H Q E h => ?_) (fun cdv A outer s H vs Q E hr h => ?_)
  · obtain ⟨i, l, m, rfl, _⟩ := h
    rfl
  obtain ⟨i, l, m, rfl, q⟩ := h
  refine ⟨_, pss_one (ps_ret (pe_and (pe_call G hr rfl mG kG bG .nil pass0 (pa_cons (pv 0) pa_nil)) (pe_one (pe_chain op_le op_le (pv 1) (pv 0) (pv 2))))), ?_⟩
  refine ⟨_, rfl, i, rfl, _, rfl, _, rfl, _, rfl, _, _, rfl, rfl, _, rfl, ?_⟩
  refine ite2 (fun c => ?_) (fun c => ?_)
  · rw [c] at q
    exact ⟨_, rfl, _, _, rfl, rfl, q⟩
  · rw [Bool.eq_false_iff.mpr c] at q
    exact q
theorem ok_row (O : Own mg) (F : Fun K "is_row" "is_row" sRow f fd) : FnOk P w K mg base CX0 1 f fd ["thing"] spRow := by
  refine F.ok scRow (fun vs H Q E h => ?_) (fun cdv A outer s H vs Q E hr h => ?_)
  · obtain ⟨a, x, xs, rfl, _⟩ := h
    rfl
  obtain ⟨a, x, xs, rfl, ha, q⟩ := h
  refine ⟨_, pss_one (ps_ret (pe_and (pe_callB call_isi rfl O.isi (by decide +kernel) (pa_cons (pv 0) (pa_cons (pe_bltn (v := .ty "tuple") rfl O.tuple (by decide +kernel) rfl) pa_nil)))
    (pe_one (pe_cmpR op_gt (pe_callB call_len_seq rfl O.len PySem.boot_len (pa_cons (pv 0) pa_nil)) pe_int (nomark _))))), ?_⟩
  refine ⟨_, rfl, _, _, _, _, true, rfl, .ty "tuple", .base (.tup ha), kb "tuple" "tuple" true, _, rfl, _, rfl, a, _, rfl, .inr (SqT.of ha), _, _, rfl, rfl, ?_⟩
  show Q (.bl (decide ((0 : Int) < ((x :: xs).length : Nat)))) H
  rw [show decide ((0 : Int) < ((x :: xs).length : Nat)) = true from decide_eq_true (by rw [List.length_cons]; omega)]
  exact q
end
end Any
namespace Any
open L2 PySem PySem.Spec PyProof.Rows LamX NdefX
/-! ### right ones -/
def Ex.cnt : Ex → Nat
  | .op _ l r => 1 + (l.cnt + r.cnt)
  | _ => 1
def Ts.cnt : Ts → Nat
  | .is l r => 1 + (l.cnt + r.cnt)
  | .bel l r => 1 + (l.cnt + r.cnt)
  | .nt t => 1 + t.cnt
  | .both t u => 1 + (t.cnt + u.cnt)
  | .either t u => 1 + (t.cnt + u.cnt)
/-- how many stand within one another, expressions too -/
def Ts.dp : Ts → Nat
  | .is l r => max l.deep r.deep + 1
  | .bel l r => max l.deep r.deep + 1
  | .nt t => t.dp + 1
  | .both t u => max t.dp u.dp + 1
  | .either t u => max t.dp u.dp + 1
def Ex.fit (xs ws : List Str) : Ex → Prop
  | .num n => 0 ≤ n ∧ n ≤ 999
  | .box x => x ∈ xs
  | .asked => ("asked" : Str) ∈ ws
  | .told => ("told" : Str) ∈ ws
  | .op _ l r => l.fit xs ws ∧ r.fit xs ws
def Ts.fit (xs ws : List Str) : Ts → Prop
  | .is l r => l.fit xs ws ∧ r.fit xs ws
  | .bel l r => l.fit xs ws ∧ r.fit xs ws
  | .nt t => t.fit xs ws
  | .both t u => t.fit xs ws ∧ u.fit xs ws
  | .either t u => t.fit xs ws ∧ u.fit xs ws
theorem Ex.deep_pos : ∀ e : Ex, 0 < e.deep
  | .num _ => Nat.one_pos
  | .box _ => Nat.one_pos
  | .asked => Nat.one_pos
  | .told => Nat.one_pos
  | .op _ _ _ => Nat.succ_pos _
theorem Ts.dp_pos : ∀ e : Ts, 0 < e.dp
  | .is _ _ => Nat.succ_pos _
  | .bel _ _ => Nat.succ_pos _
  | .nt _ => Nat.succ_pos _
  | .both _ _ => Nat.succ_pos _
  | .either _ _ => Nat.succ_pos _
/-- a part of an expression or a test: none that is a tuple, or one that counts so many, at most d deep -/
inductive Part (H : Hp) (d : Nat) : V → Option Nat → Prop
  | int (i : Int) : Part H d (.int i) none
  | str (x : Str) : Part H d (.str x) none
  | ex {v : V} {e : Ex} : ExAt H v e → e.deep ≤ d → Part H d v (some e.cnt)
  | ts {v : V} {e : Ts} : TsAt H v e → e.dp ≤ d → Part H d v (some e.cnt)
theorem Part.keep {H H' : Hp} (k : Tups H H') {d : Nat} {v : V} {o : Option Nat} (h : Part H d v o) : Part H' d v o := by
  cases h with
  | int i => exact .int i
  | str x => exact .str x
  | ex h hd => exact .ex (h.keep k) hd
  | ts h hd => exact .ts (h.keep k) hd
/-- as a tuple of a word and parts -/
theorem Part.open {H : Hp} {d : Nat} {v : V} {n : Nat} (h : Part H (d + 1) v (some n)) : ∃ a z xs os, v = .ref a ∧ H a = some (.tup (z :: xs)) ∧ Paired (Part H d) xs os ∧ n = 1 + (os.map fun o => o.getD 0).sum ∧ xs.length ≤ 2 := by
  cases h with
  | ex h hd =>
    cases h with
    | num h => exact ⟨_, _, _, [none], rfl, h, .cons (.int _) .nil, rfl, by first | decide | (show 1 ≤ 2; decide) | (show 0 ≤ 2; decide)⟩
    | box h => exact ⟨_, _, _, [none], rfl, h, .cons (.str _) .nil, rfl, by first | decide | (show 1 ≤ 2; decide) | (show 0 ≤ 2; decide)⟩
    | asked h => exact ⟨_, _, _, [], rfl, h, .nil, rfl, by first | decide | (show 1 ≤ 2; decide) | (show 0 ≤ 2; decide)⟩
    | told h => exact ⟨_, _, _, [], rfl, h, .nil, rfl, by first | decide | (show 1 ≤ 2; decide) | (show 0 ≤ 2; decide)⟩
    | op h h1 h2 =>
      rename_i l r
      have hd : max l.deep r.deep + 1 ≤ d + 1 := hd
      exact ⟨_, _, _, [some l.cnt, some r.cnt], rfl, h, .cons (.ex h1 (by omega)) (.cons (.ex h2 (by omega)) .nil), (by show 1 + (l.cnt + r.cnt) = 1 + (l.cnt + (r.cnt + 0)); omega), by show 2 ≤ 2; decide⟩
  | ts h hd =>
    cases h with
    | is h h1 h2 =>
      rename_i l r
      have hd : max l.deep r.deep + 1 ≤ d + 1 := hd
      exact ⟨_, _, _, [some l.cnt, some r.cnt], rfl, h, .cons (.ex h1 (by omega)) (.cons (.ex h2 (by omega)) .nil), (by show 1 + (l.cnt + r.cnt) = 1 + (l.cnt + (r.cnt + 0)); omega), by show 2 ≤ 2; decide⟩
    | bel h h1 h2 =>
      rename_i l r
      have hd : max l.deep r.deep + 1 ≤ d + 1 := hd
      exact ⟨_, _, _, [some l.cnt, some r.cnt], rfl, h, .cons (.ex h1 (by omega)) (.cons (.ex h2 (by omega)) .nil), (by show 1 + (l.cnt + r.cnt) = 1 + (l.cnt + (r.cnt + 0)); omega), by show 2 ≤ 2; decide⟩
    | nt h h1 =>
      rename_i t
      have hd : t.dp + 1 ≤ d + 1 := hd
      exact ⟨_, _, _, [some t.cnt], rfl, h, .cons (.ts h1 (by omega)) .nil, rfl, by show 1 ≤ 2; decide⟩
    | both h h1 h2 =>
      rename_i l r
      have hd : max l.dp r.dp + 1 ≤ d + 1 := hd
      exact ⟨_, _, _, [some l.cnt, some r.cnt], rfl, h, .cons (.ts h1 (by omega)) (.cons (.ts h2 (by omega)) .nil), (by show 1 + (l.cnt + r.cnt) = 1 + (l.cnt + (r.cnt + 0)); omega), by show 2 ≤ 2; decide⟩
    | either h h1 h2 =>
      rename_i l r
      have hd : max l.dp r.dp + 1 ≤ d + 1 := hd
      exact ⟨_, _, _, [some l.cnt, some r.cnt], rfl, h, .cons (.ts h1 (by omega)) (.cons (.ts h2 (by omega)) .nil), (by show 1 + (l.cnt + r.cnt) = 1 + (l.cnt + (r.cnt + 0)); omega), by show 2 ≤ 2; decide⟩
theorem Part.ref {H : Hp} {d n : Nat} {v : V} (h : Part H d v (some n)) : ∃ a xs, v = .ref a ∧ H a = some (.tup xs) := by
  cases d with
  | zero =>
    cases h with
    | ex _ hd => exact absurd hd (Nat.not_le.mpr (Ex.deep_pos _))
    | ts _ hd => exact absurd hd (Nat.not_le.mpr (Ts.dp_pos _))
  | succ d =>
    obtain ⟨a, z, xs, os, e, h1, _⟩ := h.open
    exact ⟨a, _, e, h1⟩
def spCount (n : Nat) : Sp := fun vs H Q _ => ∃ v k, vs = [v] ∧ Part H n v (some k) ∧ ∀ H', Same H H' → Q (.int k) H'
theorem paired_at {α β : Type} {R : α → β → Prop} : ∀ {xs : List α} {ys : List β}, Paired R xs ys → ∀ {i : Nat} {x : α} {y : β}, xs[i]? = some x → ys[i]? = some y → R x y
  | _, _, .nil, i, x, y, h, _ => by simp at h
  | _, _, .cons r t, 0, x, y, h, g => by cases h; cases g; exact r
  | _, _, .cons r t, i + 1, x, y, h, g => paired_at t (i := i) h g
theorem paired_len {α β : Type} {R : α → β → Prop} : ∀ {xs : List α} {ys : List β}, Paired R xs ys → xs.length = ys.length
  | _, _, .nil => rfl
  | _, _, .cons r t => by rw [List.length_cons, List.length_cons, paired_len t]
theorem sum_fm : ∀ os : List (Option Nat), ((os.filterMap id).map fun n : Nat => (n : Int)).sum = ((os.map fun o => o.getD 0).sum : Nat)
  | [] => rfl
  | none :: r => by
    have := sum_fm r
    simpa using this
  | some n :: r => by
    have := sum_fm r
    simp only [List.filterMap_cons, id, List.map_cons, List.sum_cons, Option.getD_some] at this ⊢
    rw [this]
    omega
theorem fm_ints : ∀ os : List (Option Nat), (os.map fun o => o.map fun n : Nat => V.int n).filterMap id = (((os.filterMap id).map fun n : Nat => (n : Int)).map V.int)
  | [] => rfl
  | none :: r => by simpa using fm_ints r
  | some n :: r => by simpa using fm_ints r
theorem cut1 (z : V) (xs : List V) : cutV (z :: xs) (some 1) none = xs := by
  have e1 : HT.sIx (z :: xs).length 0 (some 1) = 1 := by
    unfold HT.sIx
    simp only [List.length_cons]
    first | omega | (split <;> omega) | simp
  have e2 : HT.sIx (z :: xs).length (z :: xs).length none = (z :: xs).length := rfl
  unfold cutV
  rw [e1, e2, List.drop_one, List.tail_cons, List.length_cons, Nat.add_sub_cancel, List.take_length]
section
variable {P : Program} {w : World} {K : PySem.W.Frag} {mg : Str → Option Value} {base : Heap} {f : Addr} {fd : FuncData}
theorem no_count {k : Nat} : FnOk P w K mg base CX0 k f fd ["term"] (spCount 0) := by
  have no : ∀ vs H Q E, ¬ spCount 0 vs H Q E := fun vs H Q E h => by
    obtain ⟨v, k, _, h, _⟩ := h
    cases h with
    | ex _ hd => exact absurd hd (Nat.not_le.mpr (Ex.deep_pos _))
    | ts _ hd => exact absurd hd (Nat.not_le.mpr (Ts.dp_pos _))
  exact ⟨fun vs H Q E h => absurd h (no vs H Q E), fun A outer s H args us vs Q E _ _ _ _ h => absurd h (no vs H Q E)⟩
theorem ok_count {n : Nat} (O : Own mg) (F : Fun K "count_terms" "count_terms" sCount f fd) (G : FnOk P w K mg base CX0 (n + 1) f fd ["term"] (spCount n)) (bG : Binds K fd ["term"] []) (mG : mg "count_terms" = some (.ref f)) :
    FnOk P w K mg base CX0 (n + 2) f fd ["term"] (spCount (n + 1)) := by
  refine F.ok scCount (fun vs H Q E h => ?_) (fun cdv A outer s H vs Q E hr h => ?_)
  · obtain ⟨v, k, rfl, _⟩ := h
    rfl
  obtain ⟨v, k, rfl, h, q⟩ := h
  obtain ⟨a, z, xs, os, rfl, ha, hp, hk, h2⟩ := h.open
  refine ⟨_, pss_one (ps_ret (pe_op op_add pe_int (pe_callB (cr_sum rfl) rfl O.sum (by decide +kernel) (pa_cons (pe_lc (own := [("part", 1)]) (g := gName 1) rfl scCount.nd
    (pi_tup (pe_slice sl_tup (pv 0) (po_some pe_int) po_none)) (blkOk_by (N := ["term", "part"]) (sc := defScope sCount) (by decide +kernel))
    (fun _ _ _ _ _ => pg_name (i := 1) scCount.nd rfl (Or.inl rfl)) (fun _ _ _ _ _ => pts_one (pt_val (pe_callB (show CallR _ (.builtin "isinstance") (rIsi K) from call_isi) rfl O.isi (by decide +kernel) (pa_cons (pv 1) (pa_cons (pe_bltn (v := .ty "tuple") rfl O.tuple (by decide +kernel) rfl) pa_nil)))))
    (fun _ _ _ _ _ => pe_call G hr rfl mG F.kp bG .nil pass0 (pa_cons (pv 1) pa_nil))) pa_nil)))), ?_⟩
  have hz : (z :: xs).length ≤ sizeLine := by
    have e : sizeLine = 16777216 := sizeLine_eq
    rw [List.length_cons]
    omega
  refine ⟨_, rfl, 1, rfl, a, _, rfl, SqT.of ha, (by show ¬ (1 = 0 ∧ _); omega), fun p hp2 => ⟨p, rfl, ⟨_, SqT.of upd_same⟩, fun C hC => ?_⟩⟩
  rw [cut1] at hC ⊢
  have s1 := same_new hp2 (.tup xs)
  have hl := paired_len hp
  refine turns_tup (K := K) (a := p) (xs := xs) (os.map fun o => o.map fun n : Nat => V.int n) hC (fun Hc sm => SqT.of (sm _ _ upd_same)) (by rw [List.length_map]; exact hl.symm) (by rw [List.length_cons] at hz; omega) ?_ ?_
  · intro i x o Hc Y N hx ho sm hY hN
    refine ⟨rfl, ?_⟩
    obtain ⟨o', e1, e2⟩ : ∃ o', os[i]? = some o' ∧ o = o'.map fun n : Nat => V.int n := by
      rw [List.getElem?_map] at ho
      cases e : os[i]? with
      | none => rw [e] at ho; cases ho
      | some o' => rw [e] at ho; exact ⟨o', rfl, (Option.some.inj ho).symm⟩
    have pt : Part Hc n x o' := (paired_at hp hx e1).keep (Same.tups (s1.trans sm))
    cases o' with
    | none =>
      have e3 : ∃ t, TyX K Hc x t ∧ PySem.W.kitOne K t (.type "tuple") = some false := by
        cases pt with
        | int i => exact ⟨_, .base (.int i), kb "int" "tuple" false⟩
        | str y => exact ⟨_, .base (.str y), kb "str" "tuple" false⟩
      obtain ⟨t, h3, h4⟩ := e3
      exact ⟨_, rfl, x, _, t, _, false, rfl, .ty "tuple", h3, h4, _, rfl, hN e2 Hc same_refl⟩
    | some m =>
      obtain ⟨b, ys, rfl, hb⟩ := pt.ref
      exact ⟨_, rfl, .ref b, _, _, _, true, rfl, .ty "tuple", .base (.tup hb), kb "tuple" "tuple" true, _, rfl, _, rfl, _, m, rfl, pt, fun H4 s4 => hY _ e2 H4 s4⟩
  · intro Hc hc sm
    rw [fm_ints] at hc
    refine ⟨C, _, rfl, SqL.of hc, _, _, rfl, rfl, ?_⟩
    rw [sum_fm]
    have e : (1 : Int) + ((os.map fun o => o.getD 0).sum : Nat) = (k : Int) := by rw [hk]; omega
    show Q (.int (1 + ((os.map fun o => o.getD 0).sum : Nat))) Hc
    rw [e]
    exact q Hc (s1.trans sm)
theorem all_count (O : Own mg) (F : Fun K "count_terms" "count_terms" sCount f fd) (bG : Binds K fd ["term"] []) (mG : mg "count_terms" = some (.ref f)) : ∀ n : Nat, FnOk P w K mg base CX0 (n + 1) f fd ["term"] (spCount n)
  | 0 => no_count
  | n + 1 => ok_count O F (all_count O F bG mG n) bG mG
end
end Any
namespace Any
open L2 PySem PySem.Spec PyProof.Rows LamX NdefX
/-- a list or a tuple of names -/
def Nms (H : Hp) (b : Addr) (xs : List Str) : Prop := (H b = some (.lst (xs.map V.str)) ∨ H b = some (.tup (xs.map V.str)))
theorem Nms.keep {H H' : Hp} {b : Addr} {xs : List Str} (s : Same H H') (h : Nms H b xs) : Nms H' b xs := h.elim (fun h => .inl (s _ _ h)) (fun h => .inr (s _ _ h))
theorem Nms.seq {K : PySem.W.Frag} {H : Hp} {b : Addr} {xs : List Str} (h : Nms H b xs) : SqL K H b (xs.map V.str) ∨ SqT K H b (xs.map V.str) := h.elim (fun h => .inl (SqL.of h)) (fun h => .inr (SqT.of h))
theorem in_strs {x : Str} {xs : List Str} : inV (.str x) (xs.map V.str) = decide (x ∈ xs) := by
  unfold inV
  induction xs with
  | nil => rfl
  | cons y r ih =>
    rw [List.map_cons, List.any_cons, ih]
    by_cases e : y = x
    · subst e
      rw [decide_eq_true (List.mem_cons_self ..)]
      have e0 : eqV (.str y) (.str y) = true := by
        show decide (y = y) = true
        exact decide_eq_true rfl
      rw [e0]
      rfl
    · have e1 : eqV (.str y) (.str x) = false := by
        show decide (y = x) = false
        exact decide_eq_false e
      rw [e1, Bool.false_or]
      refine decide_eq_decide.mpr ⟨fun h => List.mem_cons_of_mem _ h, fun h => ?_⟩
      rcases List.mem_cons.mp h with h | h
      · exact absurd h.symm e
      · exact h
abbrev psF : List Str := ["thing", "boxes", "words", "deep"]
abbrev nmF : List Str := ["thing", "boxes", "words", "deep", "kind", "part"]
def spEF (n : Nat) : Sp := fun vs H Q _ => ∃ (v : V) (b wd : Addr) (e : Ex) (xs ws : List Str) (k : Nat), vs = [v, .ref b, .ref wd, .int k] ∧ ExAt H v e ∧ e.fit xs ws ∧ e.deep ≤ k ∧ k ≤ n ∧ Nms H b xs ∧ H wd = some (.tup (ws.map V.str)) ∧ ∀ H', Same H H' → Q (.bl true) H'
abbrev deedWords : List Str := ["plus", "less", "times", "over", "rest"]
theorem deed_in (d : Dd) : d.word ∈ deedWords := by cases d <;> decide
section
variable {P : Program} {w : World} {K : PySem.W.Frag} {mg : Str → Option Value} {base : Heap} {f rw' wi : Addr} {fd rd wid : FuncData}
theorem no_ef {k : Nat} : FnOk P w K mg base CX0 k f fd psF (spEF 0) := by
  have no : ∀ vs H Q E, ¬ spEF 0 vs H Q E := fun vs H Q E h => by
    obtain ⟨v, b, wd, e, xs, ws, k, _, _, _, h1, h2, _⟩ := h
    exact absurd (Nat.le_trans h1 h2) (Nat.not_le.mpr (Ex.deep_pos _))
  exact ⟨fun vs H Q E h => absurd h (no vs H Q E), fun A outer s H args us vs Q E _ _ _ _ h => absurd h (no vs H Q E)⟩
theorem ok_ef {n : Nat} (O : Own mg) (F : Fun K "expression_fits" "expression_fits" sExFits f fd) (G : FnOk P w K mg base CX0 (n + 3) f fd psF (spEF n)) (bG : Binds K fd psF []) (mG : mg "expression_fits" = some (.ref f))
    (R : FnOk P w K mg base CX0 1 rw' rd ["thing"] spRow) (bR : Binds K rd ["thing"] []) (kR : PySem.W.keepIn K (.ref rw') = true) (mR : mg "is_row" = some (.ref rw'))
    (WI : FnOk P w K mg base CX0 2 wi wid ["thing", "least", "most"] spWithin) (bW : Binds K wid ["thing", "least", "most"] []) (kW : PySem.W.keepIn K (.ref wi) = true) (mW : mg "is_within" = some (.ref wi))
    {DA : Addr} (mD : mg "DEEDS" = some (.ref DA)) (kD : KKeys K w DA deedWords) :
    FnOk P w K mg base CX0 (n + 4) f fd psF (spEF (n + 1)) := by
  refine F.ok scExFits (fun vs H Q E h => ?_) (fun cdv A outer s H vs Q E hr h => ?_)
  · obtain ⟨v, b, wd, e, xs, ws, k, rfl, _⟩ := h
    rfl
  obtain ⟨v, b, wd, e, xs, ws, k, rfl, hv, hf, hd, hk, hb, hw, q⟩ := h
  have hr1 := hr.mono (show 1 ≤ n + 3 by omega)
  have hr2 := hr.mono (show 2 ≤ n + 3 by omega)
  have k0 : ¬ (k : Int) = 0 := by have := e.deep_pos; omega
  refine ⟨_, pss_cons (ps_if (PW.pt (pw_or (pt_not (pt_val (pe_call R hr1 rfl mR kR bR .nil pass0 (pa_cons (pv 0) pa_nil)))) (pw_or1 (pt_cmpR op_eq (pv 3) pe_int (nomark _))))) (pss_one (ps_ret pe_bl)) pss_nil)
    (pss_cons (ps_set (i := 4) scExFits.nd rfl (Or.inl rfl) (pe_ix ix_tup (pv 0) pe_int (fun _ _ => rfl)))
    (pss_cons (ps_if (pt_cmpR op_eq (pv 4) pe_str (nomark _)) (pss_one (ps_ret (pe_and (pe_cmpR op_eq (pe_callB call_len_seq rfl O.len PySem.boot_len (pa_cons (pv 0) pa_nil)) pe_int (nomark _))
        (pe_one (pe_call WI hr2 rfl mW kW bW .nil pass0 (pa_cons (pe_ix ix_tup (pv 0) pe_int (fun _ _ => rfl)) (pa_cons pe_int (pa_cons pe_int pa_nil)))))))) pss_nil)
    (pss_cons (ps_if (pt_cmpR op_eq (pv 4) pe_str (nomark _)) (pss_one (ps_ret (pe_and (pe_cmpR op_eq (pe_callB call_len_seq rfl O.len PySem.boot_len (pa_cons (pv 0) pa_nil)) pe_int (nomark _))
        (pe_one (pe_cmpR op_in_seq (pe_ix ix_tup (pv 0) pe_int (fun _ _ => rfl)) (pv 1) (by rfl)))))) pss_nil)
    (pss_cons (ps_if (pt_cmpR op_in_seq (pv 4) (pe_callTy (call_listK rfl) rfl O.list (by decide +kernel) (pa_cons (pe_glob (v := .ref DA) rfl mD rfl) pa_nil)) (by rfl))
        (pss_one (ps_ret (pe_and (pe_cmpR op_eq (pe_callB call_len_seq rfl O.len PySem.boot_len (pa_cons (pv 0) pa_nil)) pe_int (nomark _))
          (pe_one (pe_callB (cr_all rfl) rfl O.all (by decide +kernel) (pa_cons (pe_lc (own := [("part", 5)]) (g := gName 5) (tt := tYes) rfl scExFits.nd
            (pi_tup (pe_slice sl_tup (pv 0) (po_some pe_int) po_none)) (blkOk_by (N := nmF) (sc := defScope sExFits) (by decide +kernel))
            (fun _ _ _ _ _ => pg_name (i := 5) scExFits.nd rfl (Or.inl rfl)) (fun _ _ _ _ _ => pts_nil)
            (fun _ _ _ _ _ => pe_call G hr rfl mG F.kp bG .nil pass0 (pa_cons (pv 5) (pa_cons (pv 1) (pa_cons (pv 2) (pa_cons (pe_op op_sub (pv 3) pe_int) pa_nil)))))) pa_nil)))))) pss_nil)
    (pss_one (ps_ret (pe_and (pe_cmpR op_eq (pe_callB call_len_seq rfl O.len PySem.boot_len (pa_cons (pv 0) pa_nil)) pe_int (nomark _)) (pe_one (pe_cmpR op_in_seq (pv 4) (pv 2) (by rfl)))))))))), ?_⟩
  have kk : decide (V.int (k : Int) = V.int 0) = false := decide_eq_false fun z => k0 (V.int.inj z)
  cases hv with
  | num h =>
    refine ⟨_, rfl, _, _, _, rfl, h, _, rfl, itF rfl ⟨_, rfl, rfl, _, rfl, itF kk ?_⟩⟩
    refine ⟨_, rfl, _, _, _, _, rfl, rfl, SqT.of h, atI_nat (j := 0) rfl, ?_⟩
    refine ⟨_, rfl, rfl, _, rfl, itT eq_str ?_⟩
    refine ⟨_, rfl, _, _, rfl, .inr (SqT.of h), rfl, _, rfl, itT rfl ?_⟩
    refine ⟨_, rfl, _, _, _, _, rfl, rfl, SqT.of h, atI_nat (j := 1) rfl, _, _, _, rfl, ?_⟩
    rename_i m
    have hf : 0 ≤ m ∧ m ≤ (999 : Int) := hf
    rw [decide_eq_true hf.1, decide_eq_true hf.2]
    exact q _ same_refl
  | box h =>
    refine ⟨_, rfl, _, _, _, rfl, h, _, rfl, itF rfl ⟨_, rfl, rfl, _, rfl, itF kk ?_⟩⟩
    refine ⟨_, rfl, _, _, _, _, rfl, rfl, SqT.of h, atI_nat (j := 0) rfl, ?_⟩
    refine ⟨_, rfl, rfl, _, rfl, itF (ne_str (by decide)) ?_⟩
    refine ⟨_, rfl, rfl, _, rfl, itT eq_str ?_⟩
    refine ⟨_, rfl, _, _, rfl, .inr (SqT.of h), rfl, _, rfl, itT rfl ?_⟩
    refine ⟨_, rfl, _, _, _, _, rfl, rfl, SqT.of h, atI_nat (j := 1) rfl, _, rfl, b, _, rfl, hb.seq, rfl, strs_flat _, ?_⟩
    have hf : _ ∈ xs := hf
    show Q (.bl (inV _ _)) H
    rw [in_strs, decide_eq_true hf]
    exact q _ same_refl
  | asked h =>
    refine ⟨_, rfl, _, _, _, rfl, h, _, rfl, itF rfl ⟨_, rfl, rfl, _, rfl, itF kk ?_⟩⟩
    refine ⟨_, rfl, _, _, _, _, rfl, rfl, SqT.of h, atI_nat (j := 0) rfl, ?_⟩
    refine ⟨_, rfl, rfl, _, rfl, itF (ne_str (by decide)) ?_⟩
    refine ⟨_, rfl, rfl, _, rfl, itF (ne_str (by decide)) ?_⟩
    refine ⟨_, rfl, DA, _, rfl, kD, fun p hp => ⟨p, _, rfl, .inl (SqL.of upd_same), rfl, rfl, _, rfl, itF rfl ?_⟩⟩
    have s1 := same_new hp (.lst (deedWords.map V.str))
    refine ⟨_, rfl, _, _, rfl, .inr (SqT.of (s1 _ _ h)), rfl, _, rfl, itT rfl ?_⟩
    refine ⟨_, rfl, _, rfl, wd, _, rfl, .inr (SqT.of (s1 _ _ hw)), rfl, strs_flat _, ?_⟩
    have hf : _ ∈ ws := hf
    show Q (.bl (inV _ _)) _
    rw [in_strs, decide_eq_true hf]
    exact q _ s1
  | told h =>
    refine ⟨_, rfl, _, _, _, rfl, h, _, rfl, itF rfl ⟨_, rfl, rfl, _, rfl, itF kk ?_⟩⟩
    refine ⟨_, rfl, _, _, _, _, rfl, rfl, SqT.of h, atI_nat (j := 0) rfl, ?_⟩
    refine ⟨_, rfl, rfl, _, rfl, itF (ne_str (by decide)) ?_⟩
    refine ⟨_, rfl, rfl, _, rfl, itF (ne_str (by decide)) ?_⟩
    refine ⟨_, rfl, DA, _, rfl, kD, fun p hp => ⟨p, _, rfl, .inl (SqL.of upd_same), rfl, rfl, _, rfl, itF rfl ?_⟩⟩
    have s1 := same_new hp (.lst (deedWords.map V.str))
    refine ⟨_, rfl, _, _, rfl, .inr (SqT.of (s1 _ _ h)), rfl, _, rfl, itT rfl ?_⟩
    refine ⟨_, rfl, _, rfl, wd, _, rfl, .inr (SqT.of (s1 _ _ hw)), rfl, strs_flat _, ?_⟩
    have hf : _ ∈ ws := hf
    show Q (.bl (inV _ _)) _
    rw [in_strs, decide_eq_true hf]
    exact q _ s1
  | op h h1 h2 =>
    rename_i a d x y l r
    have w1 : d.word ≠ "number" ∧ d.word ≠ "box" := by cases d <;> decide
    have hd : max l.deep r.deep + 1 ≤ k := hd
    refine ⟨_, rfl, _, _, _, rfl, h, _, rfl, itF rfl ⟨_, rfl, rfl, _, rfl, itF kk ?_⟩⟩
    refine ⟨_, rfl, _, _, _, _, rfl, rfl, SqT.of h, atI_nat (j := 0) rfl, ?_⟩
    refine ⟨_, rfl, rfl, _, rfl, itF (ne_str w1.1) ?_⟩
    refine ⟨_, rfl, rfl, _, rfl, itF (ne_str w1.2) ?_⟩
    refine ⟨_, rfl, DA, _, rfl, kD, fun p hp => ⟨p, _, rfl, .inl (SqL.of upd_same), rfl, rfl, _, rfl, itT ?_ ?_⟩⟩
    · show inV _ _ = true
      rw [in_strs]
      exact decide_eq_true (deed_in d)
    have s1 := same_new hp (.lst (deedWords.map V.str))
    refine ⟨_, rfl, _, _, rfl, .inr (SqT.of (s1 _ _ h)), rfl, _, rfl, itT rfl ?_⟩
    refine ⟨_, rfl, 1, rfl, a, _, rfl, SqT.of (s1 _ _ h), (by show ¬ (1 = 0 ∧ _); omega), fun p2 hp2 => ⟨p2, rfl, ⟨_, SqT.of upd_same⟩, fun C hC => ?_⟩⟩
    have s2 := s1.trans (same_new hp2 (.tup [x, y]))
    refine turns_tup (K := K) (a := p2) (xs := [x, y]) [some (.bl true), some (.bl true)] hC (fun Hc sm => SqT.of (sm _ _ upd_same)) rfl (by show 2 ≤ sizeLine; decide) ?_ ?_
    · intro i z o Hc Y N hx ho sm hY hN
      have s3 := s2.trans sm
      have ek : (k : Int) - 1 = ((k - 1 : Nat) : Int) := by omega
      match i, hx, ho with
      | 0, hx, ho =>
        cases hx
        cases ho
        exact ⟨rfl, _, rfl, _, rfl, _, rfl, _, rfl, _, _, rfl, rfl, x, b, wd, l, xs, ws, k - 1, (by rw [← ek]; rfl), h1.keep (Same.tups s3), hf.1, by omega, by omega, hb.keep s3, s3 _ _ hw, fun H4 s4 => hY _ rfl H4 s4⟩
      | 1, hx, ho =>
        cases hx
        cases ho
        exact ⟨rfl, _, rfl, _, rfl, _, rfl, _, rfl, _, _, rfl, rfl, y, b, wd, r, xs, ws, k - 1, (by rw [← ek]; rfl), h2.keep (Same.tups s3), hf.2, by omega, by omega, hb.keep s3, s3 _ _ hw, fun H4 s4 => hY _ rfl H4 s4⟩
    · intro Hc hc sm
      exact ⟨C, [true, true], rfl, SqL.of hc, q Hc (s2.trans sm)⟩
theorem all_ef (O : Own mg) (F : Fun K "expression_fits" "expression_fits" sExFits f fd) (bG : Binds K fd psF []) (mG : mg "expression_fits" = some (.ref f))
    (R : FnOk P w K mg base CX0 1 rw' rd ["thing"] spRow) (bR : Binds K rd ["thing"] []) (kR : PySem.W.keepIn K (.ref rw') = true) (mR : mg "is_row" = some (.ref rw'))
    (WI : FnOk P w K mg base CX0 2 wi wid ["thing", "least", "most"] spWithin) (bW : Binds K wid ["thing", "least", "most"] []) (kW : PySem.W.keepIn K (.ref wi) = true) (mW : mg "is_within" = some (.ref wi))
    {DA : Addr} (mD : mg "DEEDS" = some (.ref DA)) (kD : KKeys K w DA deedWords) : ∀ n : Nat, FnOk P w K mg base CX0 (n + 3) f fd psF (spEF n)
  | 0 => no_ef
  | n + 1 => ok_ef O F (all_ef O F bG mG R bR kR mR WI bW kW mW mD kD n) bG mG R bR kR mR WI bW kW mW mD kD
end
end Any
namespace Any
open L2 PySem PySem.Spec PyProof.Rows LamX NdefX
def spTF (n : Nat) : Sp := fun vs H Q _ => ∃ (v : V) (b wd : Addr) (e : Ts) (xs ws : List Str) (k : Nat), vs = [v, .ref b, .ref wd, .int k] ∧ TsAt H v e ∧ e.fit xs ws ∧ e.dp ≤ k ∧ k ≤ n ∧ k ≤ 6 ∧ Nms H b xs ∧ H wd = some (.tup (ws.map V.str)) ∧ ∀ H', Same H H' → Q (.bl true) H'
section
variable {P : Program} {w : World} {K : PySem.W.Frag} {mg : Str → Option Value} {base : Heap} {f ef rw' : Addr} {fd ed rd : FuncData}
theorem no_tf {k : Nat} : FnOk P w K mg base CX0 k f fd psF (spTF 0) := by
  have no : ∀ vs H Q E, ¬ spTF 0 vs H Q E := fun vs H Q E h => by
    obtain ⟨v, b, wd, e, xs, ws, k, _, _, _, h1, h2, _⟩ := h
    exact absurd (Nat.le_trans h1 h2) (Nat.not_le.mpr (Ts.dp_pos _))
  exact ⟨fun vs H Q E h => absurd h (no vs H Q E), fun A outer s H args us vs Q E _ _ _ _ h => absurd h (no vs H Q E)⟩
theorem ok_tf {n : Nat} (O : Own mg) (F : Fun K "test_fits" "test_fits" sTsFits f fd) (G : FnOk P w K mg base CX0 (n + 9) f fd psF (spTF n)) (bG : Binds K fd psF []) (mG : mg "test_fits" = some (.ref f))
    (R : FnOk P w K mg base CX0 1 rw' rd ["thing"] spRow) (bR : Binds K rd ["thing"] []) (kR : PySem.W.keepIn K (.ref rw') = true) (mR : mg "is_row" = some (.ref rw'))
    (GE : FnOk P w K mg base CX0 9 ef ed psF (spEF 6)) (bE : Binds K ed psF []) (kE : PySem.W.keepIn K (.ref ef) = true) (mE : mg "expression_fits" = some (.ref ef)) :
    FnOk P w K mg base CX0 (n + 10) f fd psF (spTF (n + 1)) := by
  refine F.ok scTsFits (fun vs H Q E h => ?_) (fun cdv A outer s H vs Q E hr h => ?_)
  · obtain ⟨v, b, wd, e, xs, ws, k, rfl, _⟩ := h
    rfl
  obtain ⟨v, b, wd, e, xs, ws, k, rfl, hv, hf, hd, hk, hk6, hb, hw, q⟩ := h
  have hr1 := hr.mono (show 1 ≤ n + 9 by omega)
  have hr9 := hr.mono (show 9 ≤ n + 9 by omega)
  have k0 : ¬ (k : Int) = 0 := by have := e.dp_pos; omega
  have two : 2 ≤ sizeLine := by decide
  have ek : (k : Int) - 1 = ((k - 1 : Nat) : Int) := by have := e.dp_pos; omega
  refine ⟨_, pss_cons (ps_if (PW.pt (pw_or (pt_not (pt_val (pe_call R hr1 rfl mR kR bR .nil pass0 (pa_cons (pv 0) pa_nil)))) (pw_or1 (pt_cmpR op_eq (pv 3) pe_int (nomark _))))) (pss_one (ps_ret pe_bl)) pss_nil)
    (pss_cons (ps_set (i := 4) scTsFits.nd rfl (Or.inl rfl) (pe_ix ix_tup (pv 0) pe_int (fun _ _ => rfl)))
    (pss_cons (ps_if (pt_cmpR op_in_seq (pv 4) (pe_tup (pa_cons pe_str (pa_cons pe_str pa_nil))) (by rfl))
        (pss_one (ps_ret (pe_and (pe_cmpR op_eq (pe_callB call_len_seq rfl O.len PySem.boot_len (pa_cons (pv 0) pa_nil)) pe_int (nomark _))
          (pe_one (pe_callB (cr_all rfl) rfl O.all (by decide +kernel) (pa_cons (pe_lc (own := [("part", 5)]) (g := gName 5) (tt := tYes) rfl scTsFits.nd
            (pi_tup (pe_slice sl_tup (pv 0) (po_some pe_int) po_none)) (blkOk_by (N := nmF) (sc := defScope sTsFits) (by decide +kernel))
            (fun _ _ _ _ _ => pg_name (i := 5) scTsFits.nd rfl (Or.inl rfl)) (fun _ _ _ _ _ => pts_nil)
            (fun _ _ _ _ _ => pe_call GE hr9 rfl mE kE bE .nil pass0 (pa_cons (pv 5) (pa_cons (pv 1) (pa_cons (pv 2) (pa_cons (pe_op op_sub (pv 3) pe_int) pa_nil)))))) pa_nil)))))) pss_nil)
    (pss_cons (ps_if (pt_cmpR op_eq (pv 4) pe_str (nomark _)) (pss_one (ps_ret (pe_and (pe_cmpR op_eq (pe_callB call_len_seq rfl O.len PySem.boot_len (pa_cons (pv 0) pa_nil)) pe_int (nomark _))
        (pe_one (pe_call G hr rfl mG F.kp bG .nil pass0 (pa_cons (pe_ix ix_tup (pv 0) pe_int (fun _ _ => rfl)) (pa_cons (pv 1) (pa_cons (pv 2) (pa_cons (pe_op op_sub (pv 3) pe_int) pa_nil))))))))) pss_nil)
    (pss_cons (ps_if (pt_cmpR op_in_seq (pv 4) (pe_tup (pa_cons pe_str (pa_cons pe_str pa_nil))) (by rfl))
        (pss_one (ps_ret (pe_and (pe_cmpR op_eq (pe_callB call_len_seq rfl O.len PySem.boot_len (pa_cons (pv 0) pa_nil)) pe_int (nomark _))
          (pe_one (pe_callB (cr_all rfl) rfl O.all (by decide +kernel) (pa_cons (pe_lc (own := [("part", 5)]) (g := gName 5) (tt := tYes) rfl scTsFits.nd
            (pi_tup (pe_slice sl_tup (pv 0) (po_some pe_int) po_none)) (blkOk_by (N := nmF) (sc := defScope sTsFits) (by decide +kernel))
            (fun _ _ _ _ _ => pg_name (i := 5) scTsFits.nd rfl (Or.inl rfl)) (fun _ _ _ _ _ => pts_nil)
            (fun _ _ _ _ _ => pe_call G hr rfl mG F.kp bG .nil pass0 (pa_cons (pv 5) (pa_cons (pv 1) (pa_cons (pv 2) (pa_cons (pe_op op_sub (pv 3) pe_int) pa_nil)))))) pa_nil)))))) pss_nil)
    (pss_one (ps_ret pe_bl)))))), ?_⟩
  have kk : decide (V.int (k : Int) = V.int 0) = false := decide_eq_false fun z => k0 (V.int.inj z)
  cases hv with
  | is h h1 h2 =>
    rename_i a x y l r
    have hd : max l.deep r.deep + 1 ≤ k := hd
    refine ⟨_, rfl, _, _, _, rfl, h, _, rfl, itF rfl ⟨_, rfl, rfl, _, rfl, itF kk ?_⟩⟩
    refine ⟨_, rfl, _, _, _, _, rfl, rfl, SqT.of h, atI_nat (j := 0) rfl, ?_⟩
    refine ⟨_, rfl, two, fun p hp => ⟨p, _, rfl, .inr (SqT.of upd_same), rfl, rfl, _, rfl, itT rfl ?_⟩⟩
    have s1 := same_new hp (.tup [.str "is", .str "below"])
    refine ⟨_, rfl, _, _, rfl, .inr (SqT.of (s1 _ _ h)), rfl, _, rfl, itT rfl ?_⟩
    refine ⟨_, rfl, 1, rfl, a, _, rfl, SqT.of (s1 _ _ h), (by show ¬ (1 = 0 ∧ _); omega), fun p2 hp2 => ⟨p2, rfl, ⟨_, SqT.of upd_same⟩, fun C hC => ?_⟩⟩
    have s2 := s1.trans (same_new hp2 (.tup [x, y]))
    refine turns_tup (K := K) (a := p2) (xs := [x, y]) [some (.bl true), some (.bl true)] hC (fun Hc sm => SqT.of (sm _ _ upd_same)) rfl two ?_ ?_
    · intro i z o Hc Y N hx ho sm hY hN
      have s3 := s2.trans sm
      match i, hx, ho with
      | 0, hx, ho =>
        cases hx
        cases ho
        exact ⟨rfl, _, rfl, _, rfl, _, rfl, _, rfl, _, _, rfl, rfl, x, b, wd, l, xs, ws, k - 1, (by rw [← ek]; rfl), h1.keep (Same.tups s3), hf.1, by omega, by omega, hb.keep s3, s3 _ _ hw, fun H4 s4 => hY _ rfl H4 s4⟩
      | 1, hx, ho =>
        cases hx
        cases ho
        exact ⟨rfl, _, rfl, _, rfl, _, rfl, _, rfl, _, _, rfl, rfl, y, b, wd, r, xs, ws, k - 1, (by rw [← ek]; rfl), h2.keep (Same.tups s3), hf.2, by omega, by omega, hb.keep s3, s3 _ _ hw, fun H4 s4 => hY _ rfl H4 s4⟩
    · intro Hc hc sm
      exact ⟨C, [true, true], rfl, SqL.of hc, q Hc (s2.trans sm)⟩
  | bel h h1 h2 =>
    rename_i a x y l r
    have hd : max l.deep r.deep + 1 ≤ k := hd
    refine ⟨_, rfl, _, _, _, rfl, h, _, rfl, itF rfl ⟨_, rfl, rfl, _, rfl, itF kk ?_⟩⟩
    refine ⟨_, rfl, _, _, _, _, rfl, rfl, SqT.of h, atI_nat (j := 0) rfl, ?_⟩
    refine ⟨_, rfl, two, fun p hp => ⟨p, _, rfl, .inr (SqT.of upd_same), rfl, rfl, _, rfl, itT rfl ?_⟩⟩
    have s1 := same_new hp (.tup [.str "is", .str "below"])
    refine ⟨_, rfl, _, _, rfl, .inr (SqT.of (s1 _ _ h)), rfl, _, rfl, itT rfl ?_⟩
    refine ⟨_, rfl, 1, rfl, a, _, rfl, SqT.of (s1 _ _ h), (by show ¬ (1 = 0 ∧ _); omega), fun p2 hp2 => ⟨p2, rfl, ⟨_, SqT.of upd_same⟩, fun C hC => ?_⟩⟩
    have s2 := s1.trans (same_new hp2 (.tup [x, y]))
    refine turns_tup (K := K) (a := p2) (xs := [x, y]) [some (.bl true), some (.bl true)] hC (fun Hc sm => SqT.of (sm _ _ upd_same)) rfl two ?_ ?_
    · intro i z o Hc Y N hx ho sm hY hN
      have s3 := s2.trans sm
      match i, hx, ho with
      | 0, hx, ho =>
        cases hx
        cases ho
        exact ⟨rfl, _, rfl, _, rfl, _, rfl, _, rfl, _, _, rfl, rfl, x, b, wd, l, xs, ws, k - 1, (by rw [← ek]; rfl), h1.keep (Same.tups s3), hf.1, by omega, by omega, hb.keep s3, s3 _ _ hw, fun H4 s4 => hY _ rfl H4 s4⟩
      | 1, hx, ho =>
        cases hx
        cases ho
        exact ⟨rfl, _, rfl, _, rfl, _, rfl, _, rfl, _, _, rfl, rfl, y, b, wd, r, xs, ws, k - 1, (by rw [← ek]; rfl), h2.keep (Same.tups s3), hf.2, by omega, by omega, hb.keep s3, s3 _ _ hw, fun H4 s4 => hY _ rfl H4 s4⟩
    · intro Hc hc sm
      exact ⟨C, [true, true], rfl, SqL.of hc, q Hc (s2.trans sm)⟩
  | nt h h1 =>
    rename_i a x t
    have hd : t.dp + 1 ≤ k := hd
    refine ⟨_, rfl, _, _, _, rfl, h, _, rfl, itF rfl ⟨_, rfl, rfl, _, rfl, itF kk ?_⟩⟩
    refine ⟨_, rfl, _, _, _, _, rfl, rfl, SqT.of h, atI_nat (j := 0) rfl, ?_⟩
    refine ⟨_, rfl, two, fun p hp => ⟨p, _, rfl, .inr (SqT.of upd_same), rfl, rfl, _, rfl, itF rfl ?_⟩⟩
    have s1 := same_new hp (.tup [.str "is", .str "below"])
    refine ⟨_, rfl, rfl, _, rfl, itT eq_str ?_⟩
    refine ⟨_, rfl, _, _, rfl, .inr (SqT.of (s1 _ _ h)), rfl, _, rfl, itT rfl ?_⟩
    exact ⟨_, rfl, _, _, _, _, rfl, rfl, SqT.of (s1 _ _ h), atI_nat (j := 1) rfl, _, rfl, _, rfl, _, rfl, _, _, rfl, rfl, x, b, wd, t, xs, ws, k - 1, (by rw [← ek]; rfl), h1.keep (Same.tups s1), hf, by omega, by omega, by omega, hb.keep s1, s1 _ _ hw, fun H4 s4 => q H4 (s1.trans s4)⟩
  | both h h1 h2 =>
    rename_i a x y l r
    have hd : max l.dp r.dp + 1 ≤ k := hd
    refine ⟨_, rfl, _, _, _, rfl, h, _, rfl, itF rfl ⟨_, rfl, rfl, _, rfl, itF kk ?_⟩⟩
    refine ⟨_, rfl, _, _, _, _, rfl, rfl, SqT.of h, atI_nat (j := 0) rfl, ?_⟩
    refine ⟨_, rfl, two, fun p hp => ⟨p, _, rfl, .inr (SqT.of upd_same), rfl, rfl, _, rfl, itF rfl ?_⟩⟩
    have s1 := same_new hp (.tup [.str "is", .str "below"])
    refine ⟨_, rfl, rfl, _, rfl, itF (ne_str (by decide)) ?_⟩
    refine ⟨_, rfl, two, fun p1 hp1 => ⟨p1, _, rfl, .inr (SqT.of upd_same), rfl, rfl, _, rfl, itT rfl ?_⟩⟩
    have s1 := s1.trans (same_new hp1 (.tup [.str "both", .str "either"]))
    refine ⟨_, rfl, _, _, rfl, .inr (SqT.of (s1 _ _ h)), rfl, _, rfl, itT rfl ?_⟩
    refine ⟨_, rfl, 1, rfl, a, _, rfl, SqT.of (s1 _ _ h), (by show ¬ (1 = 0 ∧ _); omega), fun p2 hp2 => ⟨p2, rfl, ⟨_, SqT.of upd_same⟩, fun C hC => ?_⟩⟩
    have s2 := s1.trans (same_new hp2 (.tup [x, y]))
    refine turns_tup (K := K) (a := p2) (xs := [x, y]) [some (.bl true), some (.bl true)] hC (fun Hc sm => SqT.of (sm _ _ upd_same)) rfl two ?_ ?_
    · intro i z o Hc Y N hx ho sm hY hN
      have s3 := s2.trans sm
      match i, hx, ho with
      | 0, hx, ho =>
        cases hx
        cases ho
        exact ⟨rfl, _, rfl, _, rfl, _, rfl, _, rfl, _, _, rfl, rfl, x, b, wd, l, xs, ws, k - 1, (by rw [← ek]; rfl), h1.keep (Same.tups s3), hf.1, by omega, by omega, by omega, hb.keep s3, s3 _ _ hw, fun H4 s4 => hY _ rfl H4 s4⟩
      | 1, hx, ho =>
        cases hx
        cases ho
        exact ⟨rfl, _, rfl, _, rfl, _, rfl, _, rfl, _, _, rfl, rfl, y, b, wd, r, xs, ws, k - 1, (by rw [← ek]; rfl), h2.keep (Same.tups s3), hf.2, by omega, by omega, by omega, hb.keep s3, s3 _ _ hw, fun H4 s4 => hY _ rfl H4 s4⟩
    · intro Hc hc sm
      exact ⟨C, [true, true], rfl, SqL.of hc, q Hc (s2.trans sm)⟩
  | either h h1 h2 =>
    rename_i a x y l r
    have hd : max l.dp r.dp + 1 ≤ k := hd
    refine ⟨_, rfl, _, _, _, rfl, h, _, rfl, itF rfl ⟨_, rfl, rfl, _, rfl, itF kk ?_⟩⟩
    refine ⟨_, rfl, _, _, _, _, rfl, rfl, SqT.of h, atI_nat (j := 0) rfl, ?_⟩
    refine ⟨_, rfl, two, fun p hp => ⟨p, _, rfl, .inr (SqT.of upd_same), rfl, rfl, _, rfl, itF rfl ?_⟩⟩
    have s1 := same_new hp (.tup [.str "is", .str "below"])
    refine ⟨_, rfl, rfl, _, rfl, itF (ne_str (by decide)) ?_⟩
    refine ⟨_, rfl, two, fun p1 hp1 => ⟨p1, _, rfl, .inr (SqT.of upd_same), rfl, rfl, _, rfl, itT rfl ?_⟩⟩
    have s1 := s1.trans (same_new hp1 (.tup [.str "both", .str "either"]))
    refine ⟨_, rfl, _, _, rfl, .inr (SqT.of (s1 _ _ h)), rfl, _, rfl, itT rfl ?_⟩
    refine ⟨_, rfl, 1, rfl, a, _, rfl, SqT.of (s1 _ _ h), (by show ¬ (1 = 0 ∧ _); omega), fun p2 hp2 => ⟨p2, rfl, ⟨_, SqT.of upd_same⟩, fun C hC => ?_⟩⟩
    have s2 := s1.trans (same_new hp2 (.tup [x, y]))
    refine turns_tup (K := K) (a := p2) (xs := [x, y]) [some (.bl true), some (.bl true)] hC (fun Hc sm => SqT.of (sm _ _ upd_same)) rfl two ?_ ?_
    · intro i z o Hc Y N hx ho sm hY hN
      have s3 := s2.trans sm
      match i, hx, ho with
      | 0, hx, ho =>
        cases hx
        cases ho
        exact ⟨rfl, _, rfl, _, rfl, _, rfl, _, rfl, _, _, rfl, rfl, x, b, wd, l, xs, ws, k - 1, (by rw [← ek]; rfl), h1.keep (Same.tups s3), hf.1, by omega, by omega, by omega, hb.keep s3, s3 _ _ hw, fun H4 s4 => hY _ rfl H4 s4⟩
      | 1, hx, ho =>
        cases hx
        cases ho
        exact ⟨rfl, _, rfl, _, rfl, _, rfl, _, rfl, _, _, rfl, rfl, y, b, wd, r, xs, ws, k - 1, (by rw [← ek]; rfl), h2.keep (Same.tups s3), hf.2, by omega, by omega, by omega, hb.keep s3, s3 _ _ hw, fun H4 s4 => hY _ rfl H4 s4⟩
    · intro Hc hc sm
      exact ⟨C, [true, true], rfl, SqL.of hc, q Hc (s2.trans sm)⟩
theorem all_tf (O : Own mg) (F : Fun K "test_fits" "test_fits" sTsFits f fd) (bG : Binds K fd psF []) (mG : mg "test_fits" = some (.ref f))
    (R : FnOk P w K mg base CX0 1 rw' rd ["thing"] spRow) (bR : Binds K rd ["thing"] []) (kR : PySem.W.keepIn K (.ref rw') = true) (mR : mg "is_row" = some (.ref rw'))
    (GE : FnOk P w K mg base CX0 9 ef ed psF (spEF 6)) (bE : Binds K ed psF []) (kE : PySem.W.keepIn K (.ref ef) = true) (mE : mg "expression_fits" = some (.ref ef)) : ∀ n : Nat, FnOk P w K mg base CX0 (n + 9) f fd psF (spTF n)
  | 0 => no_tf
  | n + 1 => ok_tf O F (all_tf O F bG mG R bR kR mR GE bE kE mE n) bG mG R bR kR mR GE bE kE mE
/-! ### is_expression, is_test -/
abbrev ps3 : List Str := ["thing", "boxes", "words"]
/-- an expression as point 4 has it, of these boxes and words -/
def Ex.right (xs ws : List Str) (e : Ex) : Prop := e.fit xs ws ∧ e.deep ≤ 5 ∧ e.cnt ≤ 16
def Ts.right (xs ws : List Str) (e : Ts) : Prop := e.fit xs ws ∧ e.dp ≤ 5 ∧ e.cnt ≤ 16
def spIsE : Sp := fun vs H Q _ => ∃ (v : V) (b wd : Addr) (e : Ex) (xs ws : List Str), vs = [v, .ref b, .ref wd] ∧ ExAt H v e ∧ e.right xs ws ∧ Nms H b xs ∧ H wd = some (.tup (ws.map V.str)) ∧ ∀ H', Same H H' → Q (.bl true) H'
def spIsT : Sp := fun vs H Q _ => ∃ (v : V) (b wd : Addr) (e : Ts) (xs ws : List Str), vs = [v, .ref b, .ref wd] ∧ TsAt H v e ∧ e.right xs ws ∧ Nms H b xs ∧ H wd = some (.tup (ws.map V.str)) ∧ ∀ H', Same H H' → Q (.bl true) H'
theorem ok_isE {ct : Addr} {cd : FuncData} (F : Fun K "is_expression" "is_expression" sIsExpr f fd) (GE : FnOk P w K mg base CX0 9 ef ed psF (spEF 6)) (bE : Binds K ed psF []) (kE : PySem.W.keepIn K (.ref ef) = true) (mE : mg "expression_fits" = some (.ref ef))
    (GC : FnOk P w K mg base CX0 7 ct cd ["term"] (spCount 6)) (bC : Binds K cd ["term"] []) (kC : PySem.W.keepIn K (.ref ct) = true) (mC : mg "count_terms" = some (.ref ct)) {t5 t16 : Tok} (m5 : mg "MOST_DEEP_TERM" = some (.int 5 t5)) (m16 : mg "MOST_TERMS" = some (.int 16 t16)) :
    FnOk P w K mg base CX0 10 f fd ps3 spIsE := by
  refine F.ok scIsExpr (fun vs H Q E h => ?_) (fun cdv A outer s H vs Q E hr h => ?_)
  · obtain ⟨v, b, wd, e, xs, ws, rfl, _⟩ := h
    rfl
  obtain ⟨v, b, wd, e, xs, ws, rfl, hv, ⟨hf, hd, hc⟩, hb, hw, q⟩ := h
  refine ⟨_, pss_one (ps_ret (pe_and (pe_call GE hr rfl mE kE bE .nil pass0 (pa_cons (pv 0) (pa_cons (pv 1) (pa_cons (pv 2) (pa_cons (pe_glob (v := .int 5) rfl m5 ⟨_, rfl⟩) pa_nil)))))
    (pe_one (pe_cmpR op_le (pe_call GC (hr.mono (by decide)) rfl mC kC bC .nil pass0 (pa_cons (pv 0) pa_nil)) (pe_glob (v := .int 16) rfl m16 ⟨_, rfl⟩) (nomark _))))), ?_⟩
  refine ⟨_, rfl, _, rfl, _, rfl, v, b, wd, e, xs, ws, 5, rfl, hv, hf, hd, by decide, hb, hw, fun H1 s1 => ⟨_, rfl, ?_⟩⟩
  refine ⟨_, rfl, v, _, rfl, .ex (hv.keep (Same.tups s1)) (by omega), fun H2 s2 => ⟨_, _, rfl, rfl, ?_⟩⟩
  show Q (.bl (decide ((e.cnt : Int) ≤ 16))) H2
  rw [decide_eq_true (by omega)]
  exact q H2 (s1.trans s2)
theorem ok_isT {tf ct : Addr} {td cd : FuncData} (F : Fun K "is_test" "is_test" sIsTest f fd) (GE : FnOk P w K mg base CX0 15 tf td psF (spTF 6)) (bE : Binds K td psF []) (kE : PySem.W.keepIn K (.ref tf) = true) (mE : mg "test_fits" = some (.ref tf))
    (GC : FnOk P w K mg base CX0 7 ct cd ["term"] (spCount 6)) (bC : Binds K cd ["term"] []) (kC : PySem.W.keepIn K (.ref ct) = true) (mC : mg "count_terms" = some (.ref ct)) {t5 t16 : Tok} (m5 : mg "MOST_DEEP_TERM" = some (.int 5 t5)) (m16 : mg "MOST_TERMS" = some (.int 16 t16)) :
    FnOk P w K mg base CX0 16 f fd ps3 spIsT := by
  refine F.ok scIsTest (fun vs H Q E h => ?_) (fun cdv A outer s H vs Q E hr h => ?_)
  · obtain ⟨v, b, wd, e, xs, ws, rfl, _⟩ := h
    rfl
  obtain ⟨v, b, wd, e, xs, ws, rfl, hv, ⟨hf, hd, hc⟩, hb, hw, q⟩ := h
  refine ⟨_, pss_one (ps_ret (pe_and (pe_call GE hr rfl mE kE bE .nil pass0 (pa_cons (pv 0) (pa_cons (pv 1) (pa_cons (pv 2) (pa_cons (pe_glob (v := .int 5) rfl m5 ⟨_, rfl⟩) pa_nil)))))
    (pe_one (pe_cmpR op_le (pe_call GC (hr.mono (by decide)) rfl mC kC bC .nil pass0 (pa_cons (pv 0) pa_nil)) (pe_glob (v := .int 16) rfl m16 ⟨_, rfl⟩) (nomark _))))), ?_⟩
  refine ⟨_, rfl, _, rfl, _, rfl, v, b, wd, e, xs, ws, 5, rfl, hv, hf, hd, by decide, by decide, hb, hw, fun H1 s1 => ⟨_, rfl, ?_⟩⟩
  refine ⟨_, rfl, v, _, rfl, .ts (hv.keep (Same.tups s1)) (by omega), fun H2 s2 => ⟨_, _, rfl, rfl, ?_⟩⟩
  show Q (.bl (decide ((e.cnt : Int) ≤ 16))) H2
  rw [decide_eq_true (by omega)]
  exact q H2 (s1.trans s2)
end
end Any
namespace Any
open L2 PySem PySem.Spec PyProof.Rows LamX NdefX
/-! ### steps and bodies -/
mutual
inductive Sg
  | set (x : Str) (e : Ex) | say (x : Str) (e : Ex) | hear (x : Str) | call (x r : Str) (e : Ex)
  | ifs (t : Ts) (a b : Bd) | fors (e : Ex) (m : Int) (a : Bd)
inductive Bd
  | nil | cons (s : Sg) (b : Bd)
end
def Bd.len : Bd → Nat
  | .nil => 0
  | .cons _ b => b.len + 1
mutual
/-- how many stand within one another -/
def Sg.dp : Sg → Nat
  | .ifs _ a b => max a.dp b.dp + 1
  | .fors _ _ a => a.dp + 1
  | .set _ _ => 1
  | .say _ _ => 1
  | .hear _ => 1
  | .call _ _ _ => 1
def Bd.dp : Bd → Nat
  | .nil => 0
  | .cons s b => max s.dp b.dp
end
mutual
/-- how many in all -/
def Sg.tot : Sg → Nat
  | .ifs _ a b => 1 + (a.tot + b.tot)
  | .fors _ _ a => 1 + a.tot
  | .set _ _ => 1
  | .say _ _ => 1
  | .hear _ => 1
  | .call _ _ _ => 1
def Bd.tot : Bd → Nat
  | .nil => 0
  | .cons s b => s.tot + b.tot
end
mutual
/-- as point 6 has them, of these boxes, words and rooms beneath -/
def Sg.ok (xs ws rs : List Str) : Sg → Prop
  | .set x e => x ∈ xs ∧ e.right xs ws
  | .say x e => x ∈ xs ∧ e.right xs ws
  | .hear x => x ∈ xs
  | .call x r e => x ∈ xs ∧ r ∈ rs ∧ e.right xs ws
  | .ifs t a b => t.right xs ws ∧ (a.ok xs ws rs ∧ a.len ≤ 12) ∧ (b.ok xs ws rs ∧ b.len ≤ 12)
  | .fors e m a => e.right xs ws ∧ (1 ≤ m ∧ m ≤ 9) ∧ (a.ok xs ws rs ∧ a.len ≤ 12)
def Bd.ok (xs ws rs : List Str) : Bd → Prop
  | .nil => True
  | .cons s b => s.ok xs ws rs ∧ b.ok xs ws rs
end
mutual
/-- a step in the heap -/
def SgAt (H : Hp) (v : V) : Sg → Prop
  | .set x e => ∃ a u, v = .ref a ∧ H a = some (.tup [.str "set", .str x, u]) ∧ ExAt H u e
  | .say x e => ∃ a u, v = .ref a ∧ H a = some (.tup [.str "say", .str x, u]) ∧ ExAt H u e
  | .hear x => ∃ a, v = .ref a ∧ H a = some (.tup [.str "hear", .str x])
  | .call x r e => ∃ a u, v = .ref a ∧ H a = some (.tup [.str "call", .str x, .str r, u]) ∧ ExAt H u e
  | .ifs t p q => ∃ a u b c vs us, v = .ref a ∧ H a = some (.tup [.str "if", u, .ref b, .ref c]) ∧ TsAt H u t ∧ H b = some (.tup vs) ∧ BdL H vs p ∧ H c = some (.tup us) ∧ BdL H us q
  | .fors e m p => ∃ a u b vs, v = .ref a ∧ H a = some (.tup [.str "for", u, .int m, .ref b]) ∧ ExAt H u e ∧ H b = some (.tup vs) ∧ BdL H vs p
/-- steps in the heap -/
def BdL (H : Hp) (vs : List V) : Bd → Prop
  | .nil => vs = []
  | .cons s b => ∃ v us, vs = v :: us ∧ SgAt H v s ∧ BdL H us b
end
/-- a body: a tuple of steps -/
def BdAt (H : Hp) (a : Addr) (b : Bd) : Prop := ∃ vs, H a = some (.tup vs) ∧ BdL H vs b
mutual
theorem SgAt.keep {H H' : Hp} (k : Tups H H') : ∀ (s : Sg) {v : V}, SgAt H v s → SgAt H' v s
  | .set x e, v, h => by
    unfold SgAt at h ⊢
    obtain ⟨a, u, h1, h2, h3⟩ := h
    exact ⟨a, u, h1, k _ _ h2, h3.keep k⟩
  | .say x e, v, h => by
    unfold SgAt at h ⊢
    obtain ⟨a, u, h1, h2, h3⟩ := h
    exact ⟨a, u, h1, k _ _ h2, h3.keep k⟩
  | .hear x, v, h => by
    unfold SgAt at h ⊢
    obtain ⟨a, h1, h2⟩ := h
    exact ⟨a, h1, k _ _ h2⟩
  | .call x r e, v, h => by
    unfold SgAt at h ⊢
    obtain ⟨a, u, h1, h2, h3⟩ := h
    exact ⟨a, u, h1, k _ _ h2, h3.keep k⟩
  | .ifs t p q, v, h => by
    unfold SgAt at h ⊢
    obtain ⟨a, u, b, c, vs, us, h1, h2, h3, h4, h5, h6, h7⟩ := h
    exact ⟨a, u, b, c, vs, us, h1, k _ _ h2, h3.keep k, k _ _ h4, BdL.keep k p h5, k _ _ h6, BdL.keep k q h7⟩
  | .fors e m p, v, h => by
    unfold SgAt at h ⊢
    obtain ⟨a, u, b, vs, h1, h2, h3, h4, h5⟩ := h
    exact ⟨a, u, b, vs, h1, k _ _ h2, h3.keep k, k _ _ h4, BdL.keep k p h5⟩
theorem BdL.keep {H H' : Hp} (k : Tups H H') : ∀ (b : Bd) {vs : List V}, BdL H vs b → BdL H' vs b
  | .nil, vs, h => by
    unfold BdL at h ⊢
    exact h
  | .cons s b, vs, h => by
    unfold BdL at h ⊢
    obtain ⟨v, us, h1, h2, h3⟩ := h
    exact ⟨v, us, h1, SgAt.keep k s h2, BdL.keep k b h3⟩
end
theorem BdL.len {H : Hp} : ∀ {b : Bd} {vs : List V}, BdL H vs b → vs.length = b.len
  | .nil, vs, h => by
    unfold BdL at h
    subst h
    rfl
  | .cons s b, vs, h => by
    unfold BdL at h
    obtain ⟨v, us, rfl, _, h3⟩ := h
    rw [List.length_cons, BdL.len h3]
    rfl
theorem Sg.dp_pos : ∀ s : Sg, 0 < s.dp
  | .set _ _ => by unfold Sg.dp; omega
  | .say _ _ => by unfold Sg.dp; omega
  | .hear _ => by unfold Sg.dp; omega
  | .call _ _ _ => by unfold Sg.dp; omega
  | .ifs _ _ _ => by unfold Sg.dp; omega
  | .fors _ _ _ => by unfold Sg.dp; omega
/-- the steps of a body, one by one -/
theorem BdL.at {H : Hp} {xs ws rs : List Str} {k : Nat} : ∀ {b : Bd} {vs : List V}, BdL H vs b → b.ok xs ws rs → b.dp ≤ k → ∀ {i : Nat} {v : V}, vs[i]? = some v → ∃ s, SgAt H v s ∧ s.ok xs ws rs ∧ s.dp ≤ k
  | .nil, vs, h, _, _, i, v, e => by
    unfold BdL at h
    subst h
    simp at e
  | .cons s b, vs, h, ho, hd, i, v, e => by
    unfold BdL at h
    unfold Bd.ok at ho
    unfold Bd.dp at hd
    obtain ⟨u, us, rfl, h2, h3⟩ := h
    cases i with
    | zero =>
      cases e
      exact ⟨s, h2, ho.1, by omega⟩
    | succ i => exact BdL.at h3 ho.2 (by omega) (i := i) e
theorem fm_true : ∀ us : List V, (us.map fun _ => some (V.bl true)).filterMap id = (us.map fun _ => true).map V.bl
  | [] => rfl
  | x :: r => by
    rw [List.map_cons, List.map_cons, List.map_cons, ← fm_true r]
    rfl
abbrev sBody : Stmt := top 29
abbrev sBFits : Stmt := top 30
abbrev sSFits : Stmt := top 31
abbrev sAll : Stmt := top 32
abbrev sWithinB : Stmt := top 33
abbrev ps4 : List Str := ["thing", "boxes", "words", "beneath"]
abbrev psB : List Str := ["thing", "boxes", "words", "beneath", "deep"]
abbrev psS : List Str := ["step", "boxes", "words", "beneath", "deep"]
abbrev nmB : List Str := ["thing", "boxes", "words", "beneath", "deep", "step"]
abbrev nmS : List Str := ["step", "boxes", "words", "beneath", "deep", "kind", "body"]
theorem scBody : FnScope ps4 ps4 (defScope sBody) := ⟨rfl, rfl, rfl, by decide +kernel, rfl, by decide +kernel, by decide +kernel⟩
theorem scBFits : FnScope nmB psB (defScope sBFits) := ⟨rfl, rfl, rfl, by decide +kernel, rfl, by decide +kernel, by decide +kernel⟩
theorem scSFits : FnScope nmS psS (defScope sSFits) := ⟨rfl, rfl, rfl, by decide +kernel, rfl, by decide +kernel, by decide +kernel⟩
def spBF (n : Nat) : Sp := fun vs H Q _ => ∃ (a b wd bn : Addr) (bd : Bd) (xs ws rs : List Str) (k : Nat), vs = [.ref a, .ref b, .ref wd, .ref bn, .int k] ∧ BdAt H a bd ∧ bd.ok xs ws rs ∧ bd.len ≤ 12 ∧ bd.dp ≤ k ∧ k ≤ n ∧
  Nms H b xs ∧ H wd = some (.tup (ws.map V.str)) ∧ Nms H bn rs ∧ ∀ H', Same H H' → Q (.bl true) H'
def spSF (n : Nat) : Sp := fun vs H Q _ => ∃ (v : V) (b wd bn : Addr) (sg : Sg) (xs ws rs : List Str) (k : Nat), vs = [v, .ref b, .ref wd, .ref bn, .int k] ∧ SgAt H v sg ∧ sg.ok xs ws rs ∧ sg.dp ≤ k ∧ k ≤ n ∧
  Nms H b xs ∧ H wd = some (.tup (ws.map V.str)) ∧ Nms H bn rs ∧ ∀ H', Same H H' → Q (.bl true) H'
section
variable {P : Program} {w : World} {K : PySem.W.Frag} {mg : Str → Option Value} {base : Heap} {f sf : Addr} {fd sd : FuncData}
theorem no_sf {k : Nat} : FnOk P w K mg base CX0 k f fd psS (spSF 0) := by
  have no : ∀ vs H Q E, ¬ spSF 0 vs H Q E := fun vs H Q E h => by
    obtain ⟨v, b, wd, bn, sg, xs, ws, rs, k, _, _, _, h1, h2, _⟩ := h
    exact absurd (Nat.le_trans h1 h2) (Nat.not_le.mpr (Sg.dp_pos _))
  exact ⟨fun vs H Q E h => absurd h (no vs H Q E), fun A outer s H args us vs Q E _ _ _ _ h => absurd h (no vs H Q E)⟩
theorem ok_bf {n j : Nat} (O : Own mg) (F : Fun K "body_fits" "body_fits" sBFits f fd) (G : FnOk P w K mg base CX0 j sf sd psS (spSF n)) (bG : Binds K sd psS []) (kG : PySem.W.keepIn K (.ref sf) = true) (mG : mg "step_fits" = some (.ref sf))
    {t12 : Tok} (m12 : mg "MOST_IN_BODY" = some (.int 12 t12)) : FnOk P w K mg base CX0 (j + 1) f fd psB (spBF n) := by
  refine F.ok scBFits (fun vs H Q E h => ?_) (fun cdv A outer s H vs Q E hr h => ?_)
  · obtain ⟨a, b, wd, bn, bd, xs, ws, rs, k, rfl, _⟩ := h
    rfl
  obtain ⟨a, b, wd, bn, bd, xs, ws, rs, k, rfl, ⟨us, ha, hB⟩, hok, hlen, hdp, hk, hb, hw, hbn, q⟩ := h
  have hl := hB.len
  refine ⟨_, pss_cons (ps_if (PW.pt (pw_or (pt_not (pt_val (pe_callB call_isi rfl O.isi (by decide +kernel) (pa_cons (pv 0) (pa_cons (pe_bltn (v := .ty "tuple") rfl O.tuple (by decide +kernel) rfl) pa_nil)))))
      (pw_or1 (pt_cmpR op_gt (pe_callB call_len_seq rfl O.len PySem.boot_len (pa_cons (pv 0) pa_nil)) (pe_glob (v := .int 12) rfl m12 ⟨_, rfl⟩) (nomark _))))) (pss_one (ps_ret pe_bl)) pss_nil)
    (pss_cons (ps_if (pt_cmpR op_eq (pv 4) pe_int (nomark _)) (pss_one (ps_ret (pe_cmpR op_eq (pe_callB call_len_seq rfl O.len PySem.boot_len (pa_cons (pv 0) pa_nil)) pe_int (nomark _)))) pss_nil)
    (pss_one (ps_ret (pe_callB (cr_all rfl) rfl O.all (by decide +kernel) (pa_cons (pe_lc (own := [("step", 5)]) (g := gName 5) (tt := tYes) rfl scBFits.nd
            (pi_tup (pv 0)) (blkOk_by (N := nmB) (sc := defScope sBFits) (by decide +kernel))
            (fun _ _ _ _ _ => pg_name (i := 5) scBFits.nd rfl (Or.inl rfl)) (fun _ _ _ _ _ => pts_nil)
            (fun _ _ _ _ _ => pe_call G hr rfl mG kG bG .nil pass0 (pa_cons (pv 5) (pa_cons (pv 1) (pa_cons (pv 2) (pa_cons (pv 3) (pa_cons (pv 4) pa_nil))))))) pa_nil))))), ?_⟩
  refine ⟨_, rfl, _, _, _, _, true, rfl, .ty "tuple", .base (.tup ha), kb "tuple" "tuple" true, _, rfl, itF rfl ?_⟩
  refine ⟨_, rfl, _, _, rfl, .inr (SqT.of ha), _, _, rfl, rfl, _, rfl, itF ?_ ?_⟩
  · show decide ((12 : Int) < (us.length : Nat)) = false
    exact decide_eq_false (by omega)
  refine ⟨_, rfl, rfl, _, rfl, ite2 (fun c => ?_) (fun c => ?_)⟩
  · have k0 : (k : Int) = 0 := V.int.inj (of_decide_eq_true c)
    have : bd.len = 0 := by
      cases bd with
      | nil => rfl
      | cons s b =>
        unfold Bd.dp at hdp
        have := s.dp_pos
        omega
    refine ⟨_, rfl, _, _, rfl, .inr (SqT.of ha), rfl, ?_⟩
    show Q (.bl (decide (V.int (us.length : Nat) = V.int 0))) H
    rw [show us.length = 0 by omega]
    exact q _ same_refl
  · refine ⟨_, rfl, a, rfl, ⟨_, SqT.of ha⟩, fun C hC => ?_⟩
    refine turns_tup (K := K) (a := a) (xs := us) (us.map fun _ => some (.bl true)) hC (fun Hc sm => SqT.of (sm _ _ ha)) (by rw [List.length_map]) (by have e : sizeLine = 16777216 := sizeLine_eq; omega) ?_ ?_
    · intro i z o Hc Y N hx ho sm hY hN
      have eo : o = some (.bl true) := by
        rw [List.getElem?_map, hx] at ho
        exact (Option.some.inj ho).symm
      obtain ⟨sg, h1, h2, h3⟩ := hB.at hok hdp hx
      exact ⟨rfl, _, rfl, _, rfl, _, rfl, _, rfl, _, rfl, z, b, wd, bn, sg, xs, ws, rs, k, rfl, h1.keep (Same.tups sm), h2, h3, hk, hb.keep sm, sm _ _ hw, hbn.keep sm, fun H4 s4 => hY _ eo H4 s4⟩
    · intro Hc hc sm
      rw [fm_true us] at hc
      refine ⟨C, _, rfl, SqL.of hc, ?_⟩
      rw [show (us.map fun _ => true).all id = true by rw [List.all_map]; exact List.all_eq_true.mpr fun _ _ => rfl]
      exact q Hc sm
end
end Any
namespace Any
open L2 PySem PySem.Spec PyProof.Rows LamX NdefX
section
variable {P : Program} {w : World} {K : PySem.W.Frag} {mg : Str → Option Value} {base : Heap} {f bf rw' wi ie it : Addr} {fd bfd rd wid ied itd : FuncData}
theorem in_true {Q : VK} {H : Hp} {x : Str} {xs : List Str} (h : x ∈ xs) (q : Q (.bl true) H) : Q (.bl (if false = true then !inV (.str x) (xs.map V.str) else inV (.str x) (xs.map V.str))) H := by
  show Q (.bl (inV _ _)) H
  rw [in_strs, decide_eq_true h]
  exact q
theorem in_eq {x : Str} {xs : List Str} (h : x ∈ xs) : (if false = true then !inV (.str x) (xs.map V.str) else inV (.str x) (xs.map V.str)) = true := by
  show inV _ _ = true
  rw [in_strs, decide_eq_true h]
theorem ok_sf {n : Nat} (O : Own mg) (F : Fun K "step_fits" "step_fits" sSFits f fd) (G : FnOk P w K mg base CX0 (2 * n + 18) bf bfd psB (spBF n)) (bG : Binds K bfd psB []) (kG : PySem.W.keepIn K (.ref bf) = true) (mG : mg "body_fits" = some (.ref bf))
    (R : FnOk P w K mg base CX0 1 rw' rd ["thing"] spRow) (bR : Binds K rd ["thing"] []) (kR : PySem.W.keepIn K (.ref rw') = true) (mR : mg "is_row" = some (.ref rw'))
    (WI : FnOk P w K mg base CX0 2 wi wid ["thing", "least", "most"] spWithin) (bW : Binds K wid ["thing", "least", "most"] []) (kW : PySem.W.keepIn K (.ref wi) = true) (mW : mg "is_within" = some (.ref wi))
    (IE : FnOk P w K mg base CX0 10 ie ied ps3 spIsE) (bIE : Binds K ied ps3 []) (kIE : PySem.W.keepIn K (.ref ie) = true) (mIE : mg "is_expression" = some (.ref ie))
    (IT : FnOk P w K mg base CX0 16 it itd ps3 spIsT) (bIT : Binds K itd ps3 []) (kIT : PySem.W.keepIn K (.ref it) = true) (mIT : mg "is_test" = some (.ref it)) :
    FnOk P w K mg base CX0 (2 * n + 19) f fd psS (spSF (n + 1)) := by
  refine F.ok scSFits (fun vs H Q E h => ?_) (fun cdv A outer s H vs Q E hr h => ?_)
  · obtain ⟨v, b, wd, bn, sg, xs, ws, rs, k, rfl, _⟩ := h
    rfl
  obtain ⟨v, b, wd, bn, sg, xs, ws, rs, k, rfl, hv, hok, hdp, hk, hb, hw, hbn, q⟩ := h
  have hrR := hr.mono (show 1 ≤ 2 * n + 18 by omega)
  have hrW := hr.mono (show 2 ≤ 2 * n + 18 by omega)
  have hrE := hr.mono (show 10 ≤ 2 * n + 18 by omega)
  have hrT := hr.mono (show 16 ≤ 2 * n + 18 by omega)
  have two : 2 ≤ sizeLine := by decide
  have ek : (k : Int) - 1 = ((k - 1 : Nat) : Int) := by have := sg.dp_pos; omega
  refine ⟨_, pss_cons (ps_if (pt_not (pt_val (pe_call R hrR rfl mR kR bR .nil pass0 (pa_cons (pv 0) pa_nil)))) (pss_one (ps_ret pe_bl)) pss_nil)
    (pss_cons (ps_set (i := 5) scSFits.nd rfl (Or.inl rfl) (pe_ix ix_tup (pv 0) pe_int (fun _ _ => rfl)))
    (pss_cons (ps_if (pt_cmpR op_eq (pv 5) pe_str (nomark _)) (pss_one (ps_ret (pe_and (pe_cmpR op_eq (pe_callB call_len_seq rfl O.len PySem.boot_len (pa_cons (pv 0) pa_nil)) pe_int (nomark _)) (pe_and (pe_call IT hrT rfl mIT kIT bIT .nil pass0 (pa_cons (pe_ix ix_tup (pv 0) pe_int (fun _ _ => rfl)) (pa_cons (pv 1) (pa_cons (pv 2) pa_nil)))) (pe_one (pe_callB (cr_all rfl) rfl O.all (by decide +kernel) (pa_cons (pe_lc (own := [("body", 6)]) (g := gName 6) (tt := tYes) rfl scSFits.nd
          (pi_tup (pe_slice sl_tup (pv 0) (po_some pe_int) po_none)) (blkOk_by (N := nmS) (sc := defScope sSFits) (by decide +kernel))
          (fun _ _ _ _ _ => pg_name (i := 6) scSFits.nd rfl (Or.inl rfl)) (fun _ _ _ _ _ => pts_nil) (fun _ _ _ _ _ => (pe_call G hr rfl mG kG bG .nil pass0 (pa_cons (pv 6) (pa_cons (pv 1) (pa_cons (pv 2) (pa_cons (pv 3) (pa_cons (pe_op op_sub (pv 4) pe_int) pa_nil)))))))) pa_nil))))))) pss_nil)
    (pss_cons (ps_if (pt_cmpR op_eq (pv 5) pe_str (nomark _)) (pss_one (ps_ret (pe_and (pe_cmpR op_eq (pe_callB call_len_seq rfl O.len PySem.boot_len (pa_cons (pv 0) pa_nil)) pe_int (nomark _)) (pe_and (pe_call IE hrE rfl mIE kIE bIE .nil pass0 (pa_cons (pe_ix ix_tup (pv 0) pe_int (fun _ _ => rfl)) (pa_cons (pv 1) (pa_cons (pv 2) pa_nil)))) (pe_and (pe_call WI hrW rfl mW kW bW .nil pass0 (pa_cons (pe_ix ix_tup (pv 0) pe_int (fun _ _ => rfl)) (pa_cons pe_int (pa_cons pe_int pa_nil)))) (pe_one (pe_call G hr rfl mG kG bG .nil pass0 (pa_cons (pe_ix ix_tup (pv 0) pe_int (fun _ _ => rfl)) (pa_cons (pv 1) (pa_cons (pv 2) (pa_cons (pv 3) (pa_cons (pe_op op_sub (pv 4) pe_int) pa_nil)))))))))))) pss_nil)
    (pss_cons (ps_if (pt_cmpR op_eq (pv 5) pe_str (nomark _)) (pss_one (ps_ret (pe_and (pe_cmpR op_eq (pe_callB call_len_seq rfl O.len PySem.boot_len (pa_cons (pv 0) pa_nil)) pe_int (nomark _)) (pe_and (pe_cmpR op_in_seq (pe_ix ix_tup (pv 0) pe_int (fun _ _ => rfl)) (pv 1) (by rfl)) (pe_and (pe_cmpR op_in_seq (pe_ix ix_tup (pv 0) pe_int (fun _ _ => rfl)) (pv 3) (by rfl)) (pe_one (pe_call IE hrE rfl mIE kIE bIE .nil pass0 (pa_cons (pe_ix ix_tup (pv 0) pe_int (fun _ _ => rfl)) (pa_cons (pv 1) (pa_cons (pv 2) pa_nil)))))))))) pss_nil)
    (pss_cons (ps_if (pt_cmpR op_eq (pv 5) pe_str (nomark _)) (pss_one (ps_ret (pe_and (pe_cmpR op_eq (pe_callB call_len_seq rfl O.len PySem.boot_len (pa_cons (pv 0) pa_nil)) pe_int (nomark _)) (pe_one (pe_cmpR op_in_seq (pe_ix ix_tup (pv 0) pe_int (fun _ _ => rfl)) (pv 1) (by rfl)))))) pss_nil)
    (pss_cons (ps_if (pt_cmpR op_in_seq (pv 5) (pe_tup (pa_cons pe_str (pa_cons pe_str pa_nil))) (by rfl)) (pss_one (ps_ret (pe_and (pe_cmpR op_eq (pe_callB call_len_seq rfl O.len PySem.boot_len (pa_cons (pv 0) pa_nil)) pe_int (nomark _)) (pe_and (pe_cmpR op_in_seq (pe_ix ix_tup (pv 0) pe_int (fun _ _ => rfl)) (pv 1) (by rfl)) (pe_one (pe_call IE hrE rfl mIE kIE bIE .nil pass0 (pa_cons (pe_ix ix_tup (pv 0) pe_int (fun _ _ => rfl)) (pa_cons (pv 1) (pa_cons (pv 2) pa_nil))))))))) pss_nil)
    (pss_one (ps_ret pe_bl)))))))), ?_⟩
  cases sg with
  | set x e =>
    unfold SgAt at hv
    unfold Sg.ok at hok
    obtain ⟨a, u, rfl, h, h1⟩ := hv
    refine ⟨_, rfl, _, _, _, rfl, h, _, rfl, itF rfl ?_⟩
    refine ⟨_, rfl, _, _, _, _, rfl, rfl, SqT.of h, atI_nat (j := 0) rfl, ?_⟩
    refine ⟨_, rfl, rfl, _, rfl, itF (ne_str (by decide)) ?_⟩
    refine ⟨_, rfl, rfl, _, rfl, itF (ne_str (by decide)) ?_⟩
    refine ⟨_, rfl, rfl, _, rfl, itF (ne_str (by decide)) ?_⟩
    refine ⟨_, rfl, rfl, _, rfl, itF (ne_str (by decide)) ?_⟩
    refine ⟨_, rfl, two, fun p hp => ⟨p, _, rfl, .inr (SqT.of upd_same), rfl, rfl, _, rfl, itT rfl ?_⟩⟩
    have s1 := same_new hp (.tup [.str "set", .str "say"])
    refine ⟨_, rfl, _, _, rfl, .inr (SqT.of (s1 _ _ h)), rfl, _, rfl, itT rfl ?_⟩
    refine ⟨_, rfl, _, _, _, _, rfl, rfl, SqT.of (s1 _ _ h), atI_nat (j := 1) rfl, _, rfl, b, _, rfl, (hb.keep s1).seq, rfl, strs_flat _, true, congrArg V.bl (in_eq hok.1), itT rfl ?_⟩
    exact ⟨_, rfl, _, _, _, _, rfl, rfl, SqT.of (s1 _ _ h), atI_nat (j := 2) rfl, _, rfl, _, rfl, u, b, wd, e, xs, ws, rfl, h1.keep (Same.tups s1), hok.2, hb.keep s1, s1 _ _ hw, fun H2 s2 => q H2 (s1.trans s2)⟩
  | say x e =>
    unfold SgAt at hv
    unfold Sg.ok at hok
    obtain ⟨a, u, rfl, h, h1⟩ := hv
    refine ⟨_, rfl, _, _, _, rfl, h, _, rfl, itF rfl ?_⟩
    refine ⟨_, rfl, _, _, _, _, rfl, rfl, SqT.of h, atI_nat (j := 0) rfl, ?_⟩
    refine ⟨_, rfl, rfl, _, rfl, itF (ne_str (by decide)) ?_⟩
    refine ⟨_, rfl, rfl, _, rfl, itF (ne_str (by decide)) ?_⟩
    refine ⟨_, rfl, rfl, _, rfl, itF (ne_str (by decide)) ?_⟩
    refine ⟨_, rfl, rfl, _, rfl, itF (ne_str (by decide)) ?_⟩
    refine ⟨_, rfl, two, fun p hp => ⟨p, _, rfl, .inr (SqT.of upd_same), rfl, rfl, _, rfl, itT rfl ?_⟩⟩
    have s1 := same_new hp (.tup [.str "set", .str "say"])
    refine ⟨_, rfl, _, _, rfl, .inr (SqT.of (s1 _ _ h)), rfl, _, rfl, itT rfl ?_⟩
    refine ⟨_, rfl, _, _, _, _, rfl, rfl, SqT.of (s1 _ _ h), atI_nat (j := 1) rfl, _, rfl, b, _, rfl, (hb.keep s1).seq, rfl, strs_flat _, true, congrArg V.bl (in_eq hok.1), itT rfl ?_⟩
    exact ⟨_, rfl, _, _, _, _, rfl, rfl, SqT.of (s1 _ _ h), atI_nat (j := 2) rfl, _, rfl, _, rfl, u, b, wd, e, xs, ws, rfl, h1.keep (Same.tups s1), hok.2, hb.keep s1, s1 _ _ hw, fun H2 s2 => q H2 (s1.trans s2)⟩
  | hear x =>
    unfold SgAt at hv
    unfold Sg.ok at hok
    obtain ⟨a, rfl, h⟩ := hv
    refine ⟨_, rfl, _, _, _, rfl, h, _, rfl, itF rfl ?_⟩
    refine ⟨_, rfl, _, _, _, _, rfl, rfl, SqT.of h, atI_nat (j := 0) rfl, ?_⟩
    refine ⟨_, rfl, rfl, _, rfl, itF (ne_str (by decide)) ?_⟩
    refine ⟨_, rfl, rfl, _, rfl, itF (ne_str (by decide)) ?_⟩
    refine ⟨_, rfl, rfl, _, rfl, itF (ne_str (by decide)) ?_⟩
    refine ⟨_, rfl, rfl, _, rfl, itT eq_str ?_⟩
    refine ⟨_, rfl, _, _, rfl, .inr (SqT.of (h)), rfl, _, rfl, itT rfl ?_⟩
    exact ⟨_, rfl, _, _, _, _, rfl, rfl, SqT.of h, atI_nat (j := 1) rfl, _, rfl, b, _, rfl, hb.seq, rfl, strs_flat _, in_true hok (q _ same_refl)⟩
  | call x r e =>
    unfold SgAt at hv
    unfold Sg.ok at hok
    obtain ⟨a, u, rfl, h, h1⟩ := hv
    refine ⟨_, rfl, _, _, _, rfl, h, _, rfl, itF rfl ?_⟩
    refine ⟨_, rfl, _, _, _, _, rfl, rfl, SqT.of h, atI_nat (j := 0) rfl, ?_⟩
    refine ⟨_, rfl, rfl, _, rfl, itF (ne_str (by decide)) ?_⟩
    refine ⟨_, rfl, rfl, _, rfl, itF (ne_str (by decide)) ?_⟩
    refine ⟨_, rfl, rfl, _, rfl, itT eq_str ?_⟩
    refine ⟨_, rfl, _, _, rfl, .inr (SqT.of (h)), rfl, _, rfl, itT rfl ?_⟩
    refine ⟨_, rfl, _, _, _, _, rfl, rfl, SqT.of h, atI_nat (j := 1) rfl, _, rfl, b, _, rfl, hb.seq, rfl, strs_flat _, true, congrArg V.bl (in_eq hok.1), itT rfl ?_⟩
    refine ⟨_, rfl, _, _, _, _, rfl, rfl, SqT.of h, atI_nat (j := 2) rfl, _, rfl, bn, _, rfl, hbn.seq, rfl, strs_flat _, true, congrArg V.bl (in_eq hok.2.1), itT rfl ?_⟩
    exact ⟨_, rfl, _, _, _, _, rfl, rfl, SqT.of h, atI_nat (j := 3) rfl, _, rfl, _, rfl, u, b, wd, e, xs, ws, rfl, h1, hok.2.2, hb, hw, fun H2 s2 => q H2 s2⟩
  | fors e m p =>
    unfold SgAt at hv
    unfold Sg.ok at hok
    obtain ⟨a, u, c, vs, rfl, h, h1, hc, h2⟩ := hv
    unfold Sg.dp at hdp
    refine ⟨_, rfl, _, _, _, rfl, h, _, rfl, itF rfl ?_⟩
    refine ⟨_, rfl, _, _, _, _, rfl, rfl, SqT.of h, atI_nat (j := 0) rfl, ?_⟩
    refine ⟨_, rfl, rfl, _, rfl, itF (ne_str (by decide)) ?_⟩
    refine ⟨_, rfl, rfl, _, rfl, itT eq_str ?_⟩
    refine ⟨_, rfl, _, _, rfl, .inr (SqT.of (h)), rfl, _, rfl, itT rfl ?_⟩
    refine ⟨_, rfl, _, _, _, _, rfl, rfl, SqT.of h, atI_nat (j := 1) rfl, _, rfl, _, rfl, u, b, wd, e, xs, ws, rfl, h1, hok.1, hb, hw, fun H2 s2 => ⟨_, rfl, itT rfl ?_⟩⟩
    refine ⟨_, rfl, _, _, _, _, rfl, rfl, SqT.of (s2 _ _ h), atI_nat (j := 2) rfl, m, 1, 9, rfl, ?_⟩
    rw [decide_eq_true hok.2.1.1, decide_eq_true hok.2.1.2]
    refine ⟨_, rfl, itT rfl ?_⟩
    exact ⟨_, rfl, _, _, _, _, rfl, rfl, SqT.of (s2 _ _ h), atI_nat (j := 3) rfl, _, rfl, _, rfl, _, rfl, _, rfl, _, _, rfl, rfl, c, b, wd, bn, p, xs, ws, rs, k - 1, (by rw [← ek]; rfl), ⟨vs, s2 _ _ hc, h2.keep (Same.tups s2)⟩, hok.2.2.1, hok.2.2.2, by omega, by omega, hb.keep s2, s2 _ _ hw, hbn.keep s2, fun H3 s3 => q H3 (s2.trans s3)⟩
  | ifs t p1 p2 =>
    unfold SgAt at hv
    unfold Sg.ok at hok
    obtain ⟨a, u, c, d, vs, us, rfl, h, h1, hc, h2, hd, h3⟩ := hv
    unfold Sg.dp at hdp
    refine ⟨_, rfl, _, _, _, rfl, h, _, rfl, itF rfl ?_⟩
    refine ⟨_, rfl, _, _, _, _, rfl, rfl, SqT.of h, atI_nat (j := 0) rfl, ?_⟩
    refine ⟨_, rfl, rfl, _, rfl, itT eq_str ?_⟩
    refine ⟨_, rfl, _, _, rfl, .inr (SqT.of (h)), rfl, _, rfl, itT rfl ?_⟩
    refine ⟨_, rfl, _, _, _, _, rfl, rfl, SqT.of h, atI_nat (j := 1) rfl, _, rfl, _, rfl, u, b, wd, t, xs, ws, rfl, h1, hok.1, hb, hw, fun H2 s2 => ⟨_, rfl, itT rfl ?_⟩⟩
    refine ⟨_, rfl, 2, rfl, a, _, rfl, SqT.of (s2 _ _ h), (by show ¬ (2 = 0 ∧ _); omega), fun z2 hz2 => ⟨z2, rfl, ⟨_, SqT.of upd_same⟩, fun C hC => ?_⟩⟩
    have s3 := s2.trans (same_new hz2 (.tup [.ref c, .ref d]))
    refine turns_tup (K := K) (a := z2) (xs := [.ref c, .ref d]) [some (.bl true), some (.bl true)] hC (fun Hc sm => SqT.of (sm _ _ upd_same)) rfl two ?_ ?_
    · intro i z o Hc Y N hx ho sm hY hN
      have s4 := s3.trans sm
      match i, hx, ho with
      | 0, hx, ho =>
        cases hx
        cases ho
        exact ⟨rfl, _, rfl, _, rfl, _, rfl, _, rfl, _, rfl, _, _, rfl, rfl, c, b, wd, bn, p1, xs, ws, rs, k - 1, (by rw [← ek]; rfl), ⟨vs, s4 _ _ hc, h2.keep (Same.tups s4)⟩, hok.2.1.1, hok.2.1.2, by omega, by omega, hb.keep s4, s4 _ _ hw, hbn.keep s4, fun H4 s5 => hY _ rfl H4 s5⟩
      | 1, hx, ho =>
        cases hx
        cases ho
        exact ⟨rfl, _, rfl, _, rfl, _, rfl, _, rfl, _, rfl, _, _, rfl, rfl, d, b, wd, bn, p2, xs, ws, rs, k - 1, (by rw [← ek]; rfl), ⟨us, s4 _ _ hd, h3.keep (Same.tups s4)⟩, hok.2.2.1, hok.2.2.2, by omega, by omega, hb.keep s4, s4 _ _ hw, hbn.keep s4, fun H4 s5 => hY _ rfl H4 s5⟩
    · intro Hc hc2 sm
      exact ⟨C, [true, true], rfl, SqL.of hc2, q Hc (s3.trans sm)⟩
theorem all_bf (O : Own mg) (F : Fun K "step_fits" "step_fits" sSFits f fd) (FB : Fun K "body_fits" "body_fits" sBFits bf bfd) (bS : Binds K fd psS []) (kS : PySem.W.keepIn K (.ref f) = true) (mS : mg "step_fits" = some (.ref f)) {t12 : Tok} (m12 : mg "MOST_IN_BODY" = some (.int 12 t12)) (bG : Binds K bfd psB []) (kG : PySem.W.keepIn K (.ref bf) = true) (mG : mg "body_fits" = some (.ref bf))
    (R : FnOk P w K mg base CX0 1 rw' rd ["thing"] spRow) (bR : Binds K rd ["thing"] []) (kR : PySem.W.keepIn K (.ref rw') = true) (mR : mg "is_row" = some (.ref rw'))
    (WI : FnOk P w K mg base CX0 2 wi wid ["thing", "least", "most"] spWithin) (bW : Binds K wid ["thing", "least", "most"] []) (kW : PySem.W.keepIn K (.ref wi) = true) (mW : mg "is_within" = some (.ref wi))
    (IE : FnOk P w K mg base CX0 10 ie ied ps3 spIsE) (bIE : Binds K ied ps3 []) (kIE : PySem.W.keepIn K (.ref ie) = true) (mIE : mg "is_expression" = some (.ref ie))
    (IT : FnOk P w K mg base CX0 16 it itd ps3 spIsT) (bIT : Binds K itd ps3 []) (kIT : PySem.W.keepIn K (.ref it) = true) (mIT : mg "is_test" = some (.ref it)) : ∀ n : Nat, FnOk P w K mg base CX0 (2 * n + 18) bf bfd psB (spBF n)
  | 0 => ok_bf O FB (no_sf (k := 17)) bS kS mS m12
  | n + 1 => ok_bf O FB (ok_sf O F (all_bf O F FB bS kS mS m12 bG kG mG R bR kR mR WI bW kW mW IE bIE kIE mIE IT bIT kIT mIT n) bG kG mG R bR kR mR WI bW kW mW IE bIE kIE mIE IT bIT kIT mIT) bS kS mS m12
end
end Any
namespace Any
open L2 PySem PySem.Spec PyProof.Rows LamX NdefX
def Bd.toL : Bd → List Sg
  | .nil => []
  | .cons s b => s :: b.toL
def Sg.subs : Sg → List Bd
  | .ifs _ a b => [a, b]
  | .fors _ _ a => [a]
  | _ => []
theorem BdL.paired {H : Hp} : ∀ {b : Bd} {vs : List V}, BdL H vs b → Paired (SgAt H) vs b.toL
  | .nil, vs, h => by
    unfold BdL at h
    subst h
    exact .nil
  | .cons s b, vs, h => by
    unfold BdL at h
    obtain ⟨v, us, rfl, h2, h3⟩ := h
    exact .cons h2 h3.paired
theorem Bd.tot_eq : ∀ b : Bd, b.tot = (b.toL.map Sg.tot).sum
  | .nil => by unfold Bd.tot; rfl
  | .cons s b => by
    unfold Bd.tot
    rw [b.tot_eq]
    show _ = ((s :: b.toL).map Sg.tot).sum
    rw [List.map_cons, List.sum_cons]
theorem Sg.tot_eq : ∀ s : Sg, s.tot = 1 + (s.subs.map Bd.tot).sum
  | .set _ _ => by unfold Sg.tot; rfl
  | .say _ _ => by unfold Sg.tot; rfl
  | .hear _ => by unfold Sg.tot; rfl
  | .call _ _ _ => by unfold Sg.tot; rfl
  | .ifs _ a b => by
    unfold Sg.tot
    show _ = 1 + (a.tot + (b.tot + 0))
    omega
  | .fors _ _ a => by
    unfold Sg.tot
    show _ = 1 + (a.tot + 0)
    omega
theorem Bd.dp_mem : ∀ {b : Bd} {s : Sg}, s ∈ b.toL → s.dp ≤ b.dp
  | .nil, s, h => by cases h
  | .cons t b, s, h => by
    unfold Bd.dp
    rcases List.mem_cons.mp h with h | h
    · subst h; omega
    · have := Bd.dp_mem h; omega
theorem Sg.dp_mem : ∀ {s : Sg} {b : Bd}, b ∈ s.subs → b.dp + 1 ≤ s.dp
  | .set _ _, b, h => by cases h
  | .say _ _, b, h => by cases h
  | .hear _, b, h => by cases h
  | .call _ _ _, b, h => by cases h
  | .ifs _ p q, b, h => by
    unfold Sg.dp
    rcases List.mem_cons.mp h with h | h
    · subst h; omega
    · rcases List.mem_cons.mp h with h | h
      · subst h; omega
      · cases h
  | .fors _ _ p, b, h => by
    unfold Sg.dp
    rcases List.mem_cons.mp h with h | h
    · subst h; omega
    · cases h
theorem sum_take {α : Type} (f : α → Nat) {l : List α} {i : Nat} {x : α} (h : l[i]? = some x) : ((l.take (i + 1)).map f).sum = ((l.take i).map f).sum + f x := by
  rw [List.take_add_one, h, List.map_append, List.sum_append]
  show _ = _
  simp
theorem sum_take_le {α : Type} (f : α → Nat) : ∀ (l : List α) (i : Nat), ((l.take i).map f).sum ≤ (l.map f).sum
  | [], i => by simp
  | x :: l, 0 => by simp
  | x :: l, i + 1 => by
    have := sum_take_le f l i
    simp only [List.take_succ_cons, List.map_cons, List.sum_cons]
    omega
theorem paired_get {α β : Type} {R : α → β → Prop} : ∀ {xs : List α} {ys : List β}, Paired R xs ys → ∀ {i : Nat} {x : α}, xs[i]? = some x → ∃ y, ys[i]? = some y ∧ R x y
  | _, _, .nil, i, x, h => by simp at h
  | _, _, .cons r t, 0, x, h => by cases h; exact ⟨_, rfl, r⟩
  | _, _, .cons r t, i + 1, x, h => paired_get t (i := i) h
theorem scAll : FnScope ["body", "steps", "step", "inner"] ["body"] (defScope sAll) := ⟨rfl, rfl, rfl, by decide +kernel, rfl, by decide +kernel, by decide +kernel⟩
theorem scWB : FnScope ["step"] ["step"] (defScope sWithinB) := ⟨rfl, rfl, rfl, by decide +kernel, rfl, by decide +kernel, by decide +kernel⟩
def spWB : Sp := fun vs H Q _ => ∃ v sg, vs = [v] ∧ SgAt H v sg ∧ ∀ p as, H p = none → Paired (BdAt H) as sg.subs → Q (.ref p) (upd H p (.lst (as.map V.ref)))
def spAll (n : Nat) : Sp := fun vs H Q _ => ∃ a bd, vs = [.ref a] ∧ BdAt H a bd ∧ bd.dp < n ∧ bd.tot ≤ 100000 ∧ ∀ p us H', H p = none → Same H H' → H' p = some (.lst us) → us.length = bd.tot → Q (.ref p) H'
section
variable {P : Program} {w : World} {K : PySem.W.Frag} {mg : Str → Option Value} {base : Heap} {f wb : Addr} {fd wbd : FuncData}
theorem ok_wb (F : Fun K "bodies_within" "bodies_within" sWithinB f fd) : FnOk P w K mg base CX0 1 f fd ["step"] spWB := by
  refine F.ok scWB (fun vs H Q E h => ?_) (fun cdv A outer s H vs Q E hr h => ?_)
  · obtain ⟨v, sg, rfl, _⟩ := h
    rfl
  obtain ⟨v, sg, rfl, hv, q⟩ := h
  refine ⟨_, pss_cons (ps_if (pt_cmpR op_eq (pe_ix ix_tup (pv 0) pe_int (fun _ _ => rfl)) pe_str (nomark _)) (pss_one (ps_ret (pe_lst (pa_cons (pe_ix ix_tup (pv 0) pe_int (fun _ _ => rfl)) (pa_cons (pe_ix ix_tup (pv 0) pe_int (fun _ _ => rfl)) pa_nil))))) pss_nil)
    (pss_cons (ps_if (pt_cmpR op_eq (pe_ix ix_tup (pv 0) pe_int (fun _ _ => rfl)) pe_str (nomark _)) (pss_one (ps_ret (pe_lst (pa_cons (pe_ix ix_tup (pv 0) pe_int (fun _ _ => rfl)) pa_nil)))) pss_nil)
    (pss_one (ps_ret (pe_lst pa_nil)))), ?_⟩
  cases sg with
  | set x e =>
    unfold SgAt at hv
    obtain ⟨a, u, rfl, h, h1⟩ := hv
    refine ⟨_, rfl, _, _, _, _, rfl, rfl, SqT.of h, atI_nat (j := 0) rfl, rfl, _, rfl, itF (ne_str (by decide)) ?_⟩
    refine ⟨_, rfl, _, _, _, _, rfl, rfl, SqT.of h, atI_nat (j := 0) rfl, rfl, _, rfl, itF (ne_str (by decide)) ?_⟩
    exact ⟨by decide, fun p hp => q p [] hp .nil⟩
  | say x e =>
    unfold SgAt at hv
    obtain ⟨a, u, rfl, h, h1⟩ := hv
    refine ⟨_, rfl, _, _, _, _, rfl, rfl, SqT.of h, atI_nat (j := 0) rfl, rfl, _, rfl, itF (ne_str (by decide)) ?_⟩
    refine ⟨_, rfl, _, _, _, _, rfl, rfl, SqT.of h, atI_nat (j := 0) rfl, rfl, _, rfl, itF (ne_str (by decide)) ?_⟩
    exact ⟨by decide, fun p hp => q p [] hp .nil⟩
  | hear x =>
    unfold SgAt at hv
    obtain ⟨a, rfl, h⟩ := hv
    refine ⟨_, rfl, _, _, _, _, rfl, rfl, SqT.of h, atI_nat (j := 0) rfl, rfl, _, rfl, itF (ne_str (by decide)) ?_⟩
    refine ⟨_, rfl, _, _, _, _, rfl, rfl, SqT.of h, atI_nat (j := 0) rfl, rfl, _, rfl, itF (ne_str (by decide)) ?_⟩
    exact ⟨by decide, fun p hp => q p [] hp .nil⟩
  | call x r e =>
    unfold SgAt at hv
    obtain ⟨a, u, rfl, h, h1⟩ := hv
    refine ⟨_, rfl, _, _, _, _, rfl, rfl, SqT.of h, atI_nat (j := 0) rfl, rfl, _, rfl, itF (ne_str (by decide)) ?_⟩
    refine ⟨_, rfl, _, _, _, _, rfl, rfl, SqT.of h, atI_nat (j := 0) rfl, rfl, _, rfl, itF (ne_str (by decide)) ?_⟩
    exact ⟨by decide, fun p hp => q p [] hp .nil⟩
  | fors e m b =>
    unfold SgAt at hv
    obtain ⟨a, u, c, vs, rfl, h, h1, hc, h2⟩ := hv
    refine ⟨_, rfl, _, _, _, _, rfl, rfl, SqT.of h, atI_nat (j := 0) rfl, rfl, _, rfl, itF (ne_str (by decide)) ?_⟩
    refine ⟨_, rfl, _, _, _, _, rfl, rfl, SqT.of h, atI_nat (j := 0) rfl, rfl, _, rfl, itT eq_str ?_⟩
    exact ⟨_, rfl, _, _, _, _, rfl, rfl, SqT.of h, atI_nat (j := 3) rfl, (by show 1 ≤ sizeLine; decide), fun p hp => q p [c] hp (.cons ⟨vs, hc, h2⟩ .nil)⟩
  | ifs t b1 b2 =>
    unfold SgAt at hv
    obtain ⟨a, u, c, d, vs, us, rfl, h, h1, hc, h2, hd, h3⟩ := hv
    refine ⟨_, rfl, _, _, _, _, rfl, rfl, SqT.of h, atI_nat (j := 0) rfl, rfl, _, rfl, itT eq_str ?_⟩
    refine ⟨_, rfl, _, _, _, _, rfl, rfl, SqT.of h, atI_nat (j := 2) rfl, ?_⟩
    exact ⟨_, rfl, _, _, _, _, rfl, rfl, SqT.of h, atI_nat (j := 3) rfl, (by show 2 ≤ sizeLine; decide), fun p hp => q p [c, d] hp (.cons ⟨vs, hc, h2⟩ (.cons ⟨us, hd, h3⟩ .nil))⟩
theorem ok_all {n j : Nat} (F : Fun K "all_steps" "all_steps" sAll f fd) (G : FnOk P w K mg base CX0 (j + 1) f fd ["body"] (spAll n)) (bG : Binds K fd ["body"] []) (mG : mg "all_steps" = some (.ref f))
    (GW : FnOk P w K mg base CX0 1 wb wbd ["step"] spWB) (bW : Binds K wbd ["step"] []) (kW : PySem.W.keepIn K (.ref wb) = true) (mW : mg "bodies_within" = some (.ref wb)) :
    FnOk P w K mg base CX0 (j + 2) f fd ["body"] (spAll (n + 1)) := by
  refine F.ok scAll (fun vs H Q E h => ?_) (fun cdv A outer s H vs Q E hr h => ?_)
  · obtain ⟨a, bd, rfl, _⟩ := h
    rfl
  obtain ⟨a, bd, rfl, ⟨us, ha, hB⟩, hdp, htot, q⟩ := h
  refine ⟨_, pss_cons (ps_set (i := 1) scAll.nd rfl (Or.inl rfl) (pe_lst pa_nil))
    (pss_cons (ps_for PassesOwn.never rfl (pi_tup (pv 0)) (pg_name (i := 2) scAll.nd rfl (Or.inl rfl))
      (pss_cons (ps_expr (pe_bm PySem.F.plainAttrs_list PySem.F.slot_list_append PySem.F.type_list_append mt_append (pv 1) (pa_cons (pv 2) pa_nil)))
      (pss_one (ps_for PassesOwn.never rfl (pi_list (pe_call GW (hr.mono (by omega)) rfl mW kW bW .nil pass0 (pa_cons (pv 2) pa_nil))) (pg_name (i := 3) scAll.nd rfl (Or.inl rfl))
        (pss_one (ps_expr (pe_bm PySem.F.plainAttrs_list PySem.F.slot_list_extend PySem.F.type_list_extend mt_extend (pv 1) (pa_cons (pe_call G hr rfl mG F.kp bG .nil pass0 (pa_cons (pv 3) pa_nil)) pa_nil))))))))
    (pss_one (ps_ret (pv 1)))), ?_⟩
  refine ⟨by decide, fun L hL => ?_⟩
  have pr := hB.paired
  have hs : sizeLine = 16777216 := sizeLine_eq
  have tl := bd.tot_eq
  refine ⟨_, rfl, a, rfl, ⟨_, SqT.of (same_new hL _ _ _ ha)⟩, ?_⟩
  refine for_tup (K := K) (a := a) (xs := us) (fun i σ Hc => ∃ x y acc, σ = [some (.ref a), some (.ref L), x, y] ∧ Hc L = some (.lst acc) ∧ acc.length = ((bd.toL.take i).map Sg.tot).sum ∧ Same H Hc) ?_ ?_ ?_ ?_
  · exact ⟨_, _, [], rfl, upd_same, rfl, same_new hL _⟩
  · rintro i σ Hc _ ⟨x, y, acc, rfl, h1, h2, sm⟩
    exact SqT.of (sm _ _ ha)
  · rintro i v σ Hc hx ⟨x, y, acc, rfl, h1, h2, sm⟩
    obtain ⟨sg, hg, hv⟩ := paired_get pr hx
    have e1 := sum_take Sg.tot hg
    have e2 := sum_take_le Sg.tot bd.toL (i + 1)
    have e3 := sg.tot_eq
    have mem : sg ∈ bd.toL := List.mem_of_getElem? hg
    refine ⟨_, rfl, .inl ⟨rfl, _, SqL.of h1⟩, _, rfl, L, acc, v, rfl, rfl, h1, by omega, ?_⟩
    have sm1 : Same H (upd Hc L (.lst (acc ++ [v]))) := fun b o hb => by
      rw [upd_ne (ne_of_none hb hL)]
      exact sm _ _ hb
    have hv1 := hv.keep (Same.tups sm1)
    refine ⟨_, rfl, v, sg, rfl, hv1, fun p as hp pa => ⟨p, rfl, ⟨_, SqL.of upd_same⟩, ?_⟩⟩
    have pL : p ≠ L := fun z => by rw [z, upd_same] at hp; cases hp
    refine for_list (K := K) (a := p) (xs := as.map V.ref) (fun t σ Hd => ∃ y acc2, σ = [some (.ref a), some (.ref L), some v, y] ∧ Hd L = some (.lst acc2) ∧ acc2.length = acc.length + 1 + ((sg.subs.take t).map Bd.tot).sum ∧ Kept L Hc Hd ∧ Hd p = some (.lst (as.map V.ref))) ?_ ?_ ?_ ?_
    · refine ⟨_, acc ++ [v], rfl, ?_, ?_, ?_, upd_same⟩
      · rw [upd_ne (Ne.symm pL)]
        exact upd_same
      · rw [List.length_append]
        rfl
      · intro c o cL hc
        have hpn : Hc p = none := by rw [← hp, upd_ne pL]
        rw [upd_ne (ne_of_none hc hpn), upd_ne cL]
        exact hc
    · rintro t σ Hd _ ⟨y2, acc2, rfl, g1, g2, g3, g4⟩
      exact SqL.of g4
    · rintro t z σ Hd hz ⟨y2, acc2, rfl, g1, g2, g3, g4⟩
      rw [List.getElem?_map] at hz
      obtain ⟨b, hb, rfl⟩ : ∃ b, as[t]? = some b ∧ z = .ref b := by
        cases e : as[t]? with
        | none => rw [e] at hz; cases hz
        | some b => rw [e] at hz; exact ⟨b, rfl, (Option.some.inj hz).symm⟩
      obtain ⟨sb, hsb, hat⟩ := paired_get pa hb
      have f1 := sum_take Bd.tot hsb
      have f2 := sum_take_le Bd.tot sg.subs (t + 1)
      have d1 := Sg.dp_mem (List.mem_of_getElem? hsb)
      have d2 := Bd.dp_mem mem
      refine ⟨_, rfl, .inl ⟨rfl, _, SqL.of g1⟩, _, rfl, b, sb, rfl, ?_, by omega, by omega, fun p3 us3 H3 hp3 s3 h3 l3 => ?_⟩
      · obtain ⟨ws, w1, w2⟩ := hat
        have t1 : Tups (upd Hc L (.lst (acc ++ [v]))) Hd := fun c o hc => by
          by_cases cL : c = L
          · rw [cL, upd_same] at hc
            cases hc
          · rw [upd_ne cL] at hc
            exact g3 _ _ cL hc
        exact ⟨ws, t1 _ _ w1, w2.keep t1⟩
      refine ⟨L, p3, acc2, us3, rfl, rfl, s3 _ _ g1, h3, by omega, ?_⟩
      refine ⟨_, acc2 ++ us3, rfl, upd_same, by rw [List.length_append]; omega, fun c o cL hc => ?_, ?_⟩
      · rw [upd_ne cL]
        exact s3 _ _ (g3 _ _ cL hc)
      · rw [upd_ne pL]
        exact s3 _ _ g4
    · rintro σ Hd ⟨y2, acc2, rfl, g1, g2, g3, g4⟩
      have e4 := paired_len pa
      rw [List.length_map, e4, List.take_length] at g2
      exact ⟨_, _, acc2, rfl, g1, by omega, fun c o hc => g3 _ _ (ne_of_none hc hL) (sm _ _ hc)⟩
  · rintro σ Hc ⟨x, y, acc, rfl, h1, h2, sm⟩
    have e4 := paired_len pr
    rw [e4, List.take_length] at h2
    exact ⟨_, rfl, q L acc Hc hL sm h1 (by omega)⟩
theorem no_all {k : Nat} : FnOk P w K mg base CX0 k f fd ["body"] (spAll 0) := by
  have no : ∀ vs H Q E, ¬ spAll 0 vs H Q E := fun vs H Q E h => by
    obtain ⟨a, bd, _, _, h, _⟩ := h
    exact Nat.not_lt_zero _ h
  exact ⟨fun vs H Q E h => absurd h (no vs H Q E), fun A outer s H args us vs Q E _ _ _ _ h => absurd h (no vs H Q E)⟩
theorem all_all (F : Fun K "all_steps" "all_steps" sAll f fd) (bG : Binds K fd ["body"] []) (mG : mg "all_steps" = some (.ref f))
    (GW : FnOk P w K mg base CX0 1 wb wbd ["step"] spWB) (bW : Binds K wbd ["step"] []) (kW : PySem.W.keepIn K (.ref wb) = true) (mW : mg "bodies_within" = some (.ref wb)) : ∀ n : Nat, FnOk P w K mg base CX0 (n + 1) f fd ["body"] (spAll n)
  | 0 => no_all
  | n + 1 => ok_all F (all_all F bG mG GW bW kW mW n) bG mG GW bW kW mW
/-! ### is_body -/
/-- a body as point 6 has it -/
def Bd.right (xs ws rs : List Str) (b : Bd) : Prop := b.ok xs ws rs ∧ b.len ≤ 12 ∧ b.dp ≤ 4 ∧ b.tot ≤ 30
def spIsB : Sp := fun vs H Q _ => ∃ (a b wd bn : Addr) (bd : Bd) (xs ws rs : List Str), vs = [.ref a, .ref b, .ref wd, .ref bn] ∧ BdAt H a bd ∧ bd.right xs ws rs ∧ Nms H b xs ∧ H wd = some (.tup (ws.map V.str)) ∧ Nms H bn rs ∧ ∀ H', Same H H' → Q (.bl true) H'
theorem ok_isB {bf as : Addr} {bfd asd : FuncData} (O : Own mg) (F : Fun K "is_body" "is_body" sBody f fd) (GB : FnOk P w K mg base CX0 26 bf bfd psB (spBF 4)) (bB : Binds K bfd psB []) (kB : PySem.W.keepIn K (.ref bf) = true) (mB : mg "body_fits" = some (.ref bf))
    (GA : FnOk P w K mg base CX0 6 as asd ["body"] (spAll 5)) (bA : Binds K asd ["body"] []) (kA : PySem.W.keepIn K (.ref as) = true) (mA : mg "all_steps" = some (.ref as)) {t4 t30 : Tok} (m4 : mg "MOST_DEEP_STEP" = some (.int 4 t4)) (m30 : mg "MOST_STEPS" = some (.int 30 t30)) :
    FnOk P w K mg base CX0 27 f fd ps4 spIsB := by
  refine F.ok scBody (fun vs H Q E h => ?_) (fun cdv A outer s H vs Q E hr h => ?_)
  · obtain ⟨a, b, wd, bn, bd, xs, ws, rs, rfl, _⟩ := h
    rfl
  obtain ⟨a, b, wd, bn, bd, xs, ws, rs, rfl, hB, ⟨hok, hlen, hdp, htot⟩, hb, hw, hbn, q⟩ := h
  refine ⟨_, pss_one (ps_ret (pe_and (pe_call GB hr rfl mB kB bB .nil pass0 (pa_cons (pv 0) (pa_cons (pv 1) (pa_cons (pv 2) (pa_cons (pv 3) (pa_cons (pe_glob (v := .int 4) rfl m4 ⟨_, rfl⟩) pa_nil))))))
    (pe_one (pe_cmpR op_le (pe_callB call_len_seq rfl O.len PySem.boot_len (pa_cons (pe_call GA (hr.mono (by decide)) rfl mA kA bA .nil pass0 (pa_cons (pv 0) pa_nil)) pa_nil)) (pe_glob (v := .int 30) rfl m30 ⟨_, rfl⟩) (nomark _))))), ?_⟩
  refine ⟨_, rfl, _, rfl, _, rfl, _, rfl, a, b, wd, bn, bd, xs, ws, rs, 4, rfl, hB, hok, hlen, hdp, by decide, hb, hw, hbn, fun H1 s1 => ⟨_, rfl, ?_⟩⟩
  refine ⟨_, rfl, a, bd, rfl, ?_, by omega, by omega, fun p us H2 hp s2 h2 l2 => ?_⟩
  · obtain ⟨vs, h1, h2⟩ := hB
    exact ⟨vs, s1 _ _ h1, h2.keep (Same.tups s1)⟩
  refine ⟨p, us, rfl, .inl (SqL.of h2), _, _, rfl, rfl, ?_⟩
  show Q (.bl (decide ((us.length : Int) ≤ 30))) H2
  rw [decide_eq_true (by omega)]
  exact q H2 (s1.trans s2)
end
end Any
namespace Any
open L2 PySem PySem.Spec PyProof.Rows LamX NdefX
theorem scName : FnScope ["thing", "sign"] ["thing"] (defScope sName) := ⟨rfl, rfl, rfl, by decide +kernel, rfl, by decide +kernel, by decide +kernel⟩
abbrev keptWords : List Str := ["asked", "told", "not", "and", "or"]
abbrev letters : Str := "abcdefghijklmnopqrstuvwxyz"
/-- a name as point 2 has it -/
structure Nm (x : Str) : Prop where
  lo : 1 ≤ x.length
  hi : x.length ≤ 8
  kept : x ∉ keptWords
  low : ∀ c ∈ x.cps.toList, 97 ≤ c ∧ c ≤ 122
instance (x : Str) : Decidable (Nm x) := decidable_of_iff (1 ≤ x.length ∧ x.length ≤ 8 ∧ x ∉ keptWords ∧ ∀ c ∈ x.cps.toList, 97 ≤ c ∧ c ≤ 122) ⟨fun h => ⟨h.1, h.2.1, h.2.2.1, h.2.2.2⟩, fun h => ⟨h.lo, h.hi, h.kept, h.low⟩⟩
theorem letter_in {c : Nat} (h : 97 ≤ c ∧ c ≤ 122) : (!(Builtin.Str.occurrences letters ⟨#[c]⟩ 0 letters.length 1).isEmpty) = true := by
  obtain ⟨h1, h2⟩ := h
  obtain ⟨d, rfl⟩ : ∃ d, c = 97 + d := ⟨c - 97, by omega⟩
  have hd : d < 26 := by omega
  have all : ∀ d : Fin 26, (!(Builtin.Str.occurrences letters ⟨#[97 + d.val]⟩ 0 letters.length 1).isEmpty) = true := by decide +kernel
  exact all ⟨d, hd⟩
section
variable {g : TG} {tt : TT} {te : TE} {vs : List Nat} {σ : L2.St} {H1 : Hp} {D : Addr} {Qd : Hp → Prop}
theorem turns_str {x : Str} (gs : List (Option V)) (hD : H1 D = none) (hn : gs.length = x.cps.size) (hz : x.cps.size ≤ sizeLine) (hs : TurnF (x.cps.toList.map fun c => V.str ⟨#[c]⟩) gs g tt te vs σ H1)
    (hd : ∀ H, H D = some (.lst (gs.filterMap id)) → Same H1 H → Qd H) : Turns (Its x) g tt te vs σ H1 D Qd := by
  refine ⟨fun i m H => m = x.cps.size - i ∧ i ≤ x.cps.size ∧ H D = some (.lst ((gs.take i).filterMap id)) ∧ Same H1 H, ⟨_, rfl, Nat.zero_le _, upd_same, same_new hD _⟩, ?_⟩
  rintro i m H ⟨rfl, hi, hC, sm⟩
  by_cases lt : i < x.cps.size
  · obtain ⟨o, ho⟩ : ∃ o, gs[i]? = some o := ⟨gs[i]'(by omega), by simp [hn, lt]⟩
    refine .inr ⟨lt, fun H' => H' D = some (.lst ((gs.take (i + 1)).filterMap id)) ∧ Same H1 H', fun H' q => ⟨_, by omega, rfl, lt, q.1, q.2⟩, fun v H' y => ?_⟩
    obtain ⟨rfl, c, e, rfl⟩ := y
    have hx : (x.cps.toList.map fun c => V.str ⟨#[c]⟩)[i]? = some (V.str ⟨#[c]⟩) := by
      rw [List.getElem?_map, Array.getElem?_toList, e]
      rfl
    refine hs i _ o H' _ _ hx ho sm (fun y ey H4 s4 => ⟨_, s4 _ _ hC, ?_, ?_, fun b u hb => ?_⟩) (fun en H4 s4 => ⟨?_, sm.trans s4⟩)
    · have := fm_len (gs.take i)
      rw [List.length_take] at this
      omega
    · rw [upd_same, take_fm ho, ey]
      rfl
    · rw [upd_ne (ne_of_none hb hD)]
      exact s4 _ _ (sm _ _ hb)
    · rw [take_fm ho, en]
      show H4 D = some (.lst (_ ++ []))
      rw [List.append_nil]
      exact s4 _ _ hC
  · have e : i = x.cps.size := by omega
    subst e
    rw [← hn, List.take_length] at hC
    exact .inl ⟨Nat.le_refl _, hd H hC sm⟩
end
def spName : Sp := fun vs H Q _ => ∃ x, vs = [.str x] ∧ Nm x ∧ ∀ H', Same H H' → Q (.bl true) H'
section
variable {P : Program} {w : World} {K : PySem.W.Frag} {mg : Str → Option Value} {base : Heap} {f kw : Addr} {fd : FuncData}
theorem ok_name (O : Own mg) (F : Fun K "is_name" "is_name" sName f fd) (mk : mg "KEPT_WORDS" = some (.ref kw)) (hk : ∀ H, SqT K H kw (keptWords.map V.str)) {tl : Tok} (ml : mg "LETTERS" = some (.str letters tl)) :
    FnOk P w K mg base CX0 1 f fd ["thing"] spName := by
  refine F.ok scName (fun vs H Q E h => ?_) (fun cdv A outer s H vs Q E hr h => ?_)
  · obtain ⟨x, rfl, _⟩ := h
    rfl
  obtain ⟨x, rfl, hx, q⟩ := h
  have hs : sizeLine = 16777216 := sizeLine_eq
  have hlen : x.length ≤ sizeLine := by have := hx.hi; omega
  refine ⟨_, pss_cons (ps_if (PW.pt (pw_or (pt_not (pt_val (pe_callB call_isi rfl O.isi (by decide +kernel) (pa_cons (pv 0) (pa_cons (pe_bltn (v := .ty "str") rfl O.str (by decide +kernel) rfl) pa_nil)))))
      (pw_or1 (pt_not (pt_chain op_le op_le pe_int (pe_callB call_len_str rfl O.len PySem.boot_len (pa_cons (pv 0) pa_nil)) pe_int))))) (pss_one (ps_ret pe_bl)) pss_nil)
    (pss_one (ps_ret (pe_and (pe_cmpR op_notIn_seq (pv 0) (pe_glob (v := .ref kw) rfl mk rfl) (by rfl))
      (pe_one (pe_callB (cr_all rfl) rfl O.all (by decide +kernel) (pa_cons (pe_lc (own := [("sign", 1)]) (g := gName 1) (tt := tYes) rfl scName.nd
            (pi_str (pv 0)) (blkOk_by (N := ["thing", "sign"]) (sc := defScope sName) (by decide +kernel))
            (fun _ _ _ _ _ => pg_name (i := 1) scName.nd rfl (Or.inl rfl)) (fun _ _ _ _ _ => pts_nil)
            (fun _ _ _ _ _ => pe_cmpR op_in_str (pv 1) (pe_glob (v := .str letters) rfl ml ⟨_, rfl⟩) (by rfl))) pa_nil)))))), ?_⟩
  refine ⟨_, rfl, _, _, _, _, true, rfl, .ty "str", .base (.str x), kb "str" "str" true, _, rfl, itF rfl ?_⟩
  refine ⟨_, rfl, x, rfl, hlen, _, _, rfl, rfl, _, rfl, itT ?_ ⟨_, _, rfl, rfl, _, rfl, itF ?_ ?_⟩⟩
  · exact decide_eq_true (by have := hx.lo; omega)
  · show (!decide ((x.length : Int) ≤ 8)) = false
    rw [decide_eq_true (by have := hx.hi; omega)]
    rfl
  refine ⟨_, rfl, kw, _, rfl, .inr (hk H), rfl, strs_flat _, true, ?_, itT rfl ?_⟩
  · refine congrArg V.bl ?_
    show (!inV _ _) = true
    rw [in_strs, decide_eq_false hx.kept]
    rfl
  refine ⟨_, rfl, x, rfl, fun C hC => ?_⟩
  have el : (x.cps.toList.map fun c => V.str ⟨#[c]⟩).length = x.cps.size := by rw [List.length_map, Array.length_toList]
  refine turns_str ((x.cps.toList.map fun c => V.str ⟨#[c]⟩).map fun _ => some (.bl true)) hC (by rw [List.length_map, el]) hlen ?_ ?_
  · intro i z o Hc Y N hz ho sm hY hN
    have eo : o = some (.bl true) := by
      rw [List.getElem?_map, hz] at ho
      exact (Option.some.inj ho).symm
    rw [List.getElem?_map] at hz
    obtain ⟨c, hc, rfl⟩ : ∃ c, x.cps.toList[i]? = some c ∧ z = V.str ⟨#[c]⟩ := by
      cases e : x.cps.toList[i]? with
      | none => rw [e] at hz; cases hz
      | some c => rw [e] at hz; exact ⟨c, rfl, (Option.some.inj hz).symm⟩
    refine ⟨rfl, _, rfl, _, _, rfl, rfl, ?_⟩
    rw [letter_in (hx.low c (List.mem_of_getElem? hc))]
    exact hY _ eo Hc same_refl
  · intro Hc hc sm
    rw [fm_true] at hc
    refine ⟨C, _, rfl, SqL.of hc, ?_⟩
    rw [List.all_map, show ((x.cps.toList.map fun c => V.str ⟨#[c]⟩).all (id ∘ fun _ => true)) = true from List.all_eq_true.mpr fun _ _ => rfl]
    exact q Hc sm
end
end Any
namespace Any
open L2 PySem PySem.Spec PyProof.Rows LamX NdefX
/-! ### rooms -/
structure Rm where
  name : Str
  above : Str
  boxes : List (Str × Int × Int)
  sayings : List Ts
  ask : Option Int
  told : Option (Int × Ex)
  promise : Option Ts
  body : Bd
def roomF (n a b s k t p y : V) : List (Str × V) := [("name", n), ("above", a), ("boxes", b), ("sayings", s), ("ask", k), ("told", t), ("promise", p), ("body", y)]
theorem lk_hit {k : Str} {v : V} {r : List (Str × V)} : ((k, v) :: r).lookup k = some v := by
  rw [List.lookup_cons, beq_self_eq_true]
theorem lk_skip {k k' : Str} {v : V} {r : List (Str × V)} (h : (k == k') = false) : ((k', v) :: r).lookup k = r.lookup k := by
  rw [List.lookup_cons, h]
theorem put_new {f : Str} {v : V} : ∀ {fs : List (Str × V)}, (∀ p ∈ fs, ¬ p.1 = f) → putF f v fs = fs ++ [(f, v)]
  | [], _ => rfl
  | (k, u) :: r, h => by
    unfold putF
    rw [if_neg (h (k, u) (List.mem_cons_self ..)), put_new fun p hp => h p (List.mem_cons_of_mem _ hp)]
    rfl
section
variable {n a b s k t p y : V}
theorem rf_name : (roomF n a b s k t p y).lookup ("name" : Str) = some n := lk_hit
theorem rf_above : (roomF n a b s k t p y).lookup ("above" : Str) = some a := by
  unfold roomF
  rw [lk_skip (by decide +kernel)]
  exact lk_hit
theorem rf_boxes : (roomF n a b s k t p y).lookup ("boxes" : Str) = some b := by
  unfold roomF
  rw [lk_skip (by decide +kernel), lk_skip (by decide +kernel)]
  exact lk_hit
theorem rf_sayings : (roomF n a b s k t p y).lookup ("sayings" : Str) = some s := by
  unfold roomF
  rw [lk_skip (by decide +kernel), lk_skip (by decide +kernel), lk_skip (by decide +kernel)]
  exact lk_hit
theorem rf_ask : (roomF n a b s k t p y).lookup ("ask" : Str) = some k := by
  unfold roomF
  rw [lk_skip (by decide +kernel), lk_skip (by decide +kernel), lk_skip (by decide +kernel), lk_skip (by decide +kernel)]
  exact lk_hit
theorem rf_told : (roomF n a b s k t p y).lookup ("told" : Str) = some t := by
  unfold roomF
  rw [lk_skip (by decide +kernel), lk_skip (by decide +kernel), lk_skip (by decide +kernel), lk_skip (by decide +kernel), lk_skip (by decide +kernel)]
  exact lk_hit
theorem rf_promise : (roomF n a b s k t p y).lookup ("promise" : Str) = some p := by
  unfold roomF
  rw [lk_skip (by decide +kernel), lk_skip (by decide +kernel), lk_skip (by decide +kernel), lk_skip (by decide +kernel), lk_skip (by decide +kernel), lk_skip (by decide +kernel)]
  exact lk_hit
theorem rf_body : (roomF n a b s k t p y).lookup ("body" : Str) = some y := by
  unfold roomF
  rw [lk_skip (by decide +kernel), lk_skip (by decide +kernel), lk_skip (by decide +kernel), lk_skip (by decide +kernel), lk_skip (by decide +kernel), lk_skip (by decide +kernel), lk_skip (by decide +kernel)]
  exact lk_hit
end
theorem nx {k f : Str} {v : V} (h : ¬ k = f) : ¬ (k, v).1 = f := h
section
variable {n a b s k t p y : V}
theorem put1 : putF "above" a ([("name", n)] : List (Str × V)) = ([("name", n), ("above", a)] : List (Str × V)) := put_new (List.forall_mem_cons.mpr ⟨nx (by decide +kernel), List.forall_mem_nil _⟩)
theorem put2 : putF "boxes" b ([("name", n), ("above", a)] : List (Str × V)) = ([("name", n), ("above", a), ("boxes", b)] : List (Str × V)) := put_new (List.forall_mem_cons.mpr ⟨nx (by decide +kernel), List.forall_mem_cons.mpr ⟨nx (by decide +kernel), List.forall_mem_nil _⟩⟩)
theorem put3 : putF "sayings" s ([("name", n), ("above", a), ("boxes", b)] : List (Str × V)) = ([("name", n), ("above", a), ("boxes", b), ("sayings", s)] : List (Str × V)) := put_new (List.forall_mem_cons.mpr ⟨nx (by decide +kernel), List.forall_mem_cons.mpr ⟨nx (by decide +kernel), List.forall_mem_cons.mpr ⟨nx (by decide +kernel), List.forall_mem_nil _⟩⟩⟩)
theorem put4 : putF "ask" k ([("name", n), ("above", a), ("boxes", b), ("sayings", s)] : List (Str × V)) = ([("name", n), ("above", a), ("boxes", b), ("sayings", s), ("ask", k)] : List (Str × V)) := put_new (List.forall_mem_cons.mpr ⟨nx (by decide +kernel), List.forall_mem_cons.mpr ⟨nx (by decide +kernel), List.forall_mem_cons.mpr ⟨nx (by decide +kernel), List.forall_mem_cons.mpr ⟨nx (by decide +kernel), List.forall_mem_nil _⟩⟩⟩⟩)
theorem put5 : putF "told" t ([("name", n), ("above", a), ("boxes", b), ("sayings", s), ("ask", k)] : List (Str × V)) = ([("name", n), ("above", a), ("boxes", b), ("sayings", s), ("ask", k), ("told", t)] : List (Str × V)) := put_new (List.forall_mem_cons.mpr ⟨nx (by decide +kernel), List.forall_mem_cons.mpr ⟨nx (by decide +kernel), List.forall_mem_cons.mpr ⟨nx (by decide +kernel), List.forall_mem_cons.mpr ⟨nx (by decide +kernel), List.forall_mem_cons.mpr ⟨nx (by decide +kernel), List.forall_mem_nil _⟩⟩⟩⟩⟩)
theorem put6 : putF "promise" p ([("name", n), ("above", a), ("boxes", b), ("sayings", s), ("ask", k), ("told", t)] : List (Str × V)) = ([("name", n), ("above", a), ("boxes", b), ("sayings", s), ("ask", k), ("told", t), ("promise", p)] : List (Str × V)) := put_new (List.forall_mem_cons.mpr ⟨nx (by decide +kernel), List.forall_mem_cons.mpr ⟨nx (by decide +kernel), List.forall_mem_cons.mpr ⟨nx (by decide +kernel), List.forall_mem_cons.mpr ⟨nx (by decide +kernel), List.forall_mem_cons.mpr ⟨nx (by decide +kernel), List.forall_mem_cons.mpr ⟨nx (by decide +kernel), List.forall_mem_nil _⟩⟩⟩⟩⟩⟩)
theorem put7 : putF "body" y ([("name", n), ("above", a), ("boxes", b), ("sayings", s), ("ask", k), ("told", t), ("promise", p)] : List (Str × V)) = ([("name", n), ("above", a), ("boxes", b), ("sayings", s), ("ask", k), ("told", t), ("promise", p), ("body", y)] : List (Str × V)) := put_new (List.forall_mem_cons.mpr ⟨nx (by decide +kernel), List.forall_mem_cons.mpr ⟨nx (by decide +kernel), List.forall_mem_cons.mpr ⟨nx (by decide +kernel), List.forall_mem_cons.mpr ⟨nx (by decide +kernel), List.forall_mem_cons.mpr ⟨nx (by decide +kernel), List.forall_mem_cons.mpr ⟨nx (by decide +kernel), List.forall_mem_cons.mpr ⟨nx (by decide +kernel), List.forall_mem_nil _⟩⟩⟩⟩⟩⟩⟩)
end
/-- the boxes of a room -/
def CratesAt (H : Hp) (b : Addr) (xs : List (Str × Int × Int)) : Prop := ∃ as : List Addr, H b = some (.tup (as.map V.ref)) ∧ Paired (fun (a : Addr) (x : Str × Int × Int) => H a = some (.tup [.str x.1, .int x.2.1, .int x.2.2])) as xs
def SaysAt (H : Hp) (b : Addr) (ts : List Ts) : Prop := ∃ vs, H b = some (.tup vs) ∧ Paired (TsAt H) vs ts
def AskAt (v : V) : Option Int → Prop
  | none => v = .non
  | some i => v = .int i
def ToldAt (H : Hp) (v : V) : Option (Int × Ex) → Prop
  | none => v = .non
  | some (i, e) => ∃ a u, v = .ref a ∧ H a = some (.tup [.int i, u]) ∧ ExAt H u e
def VowAt (H : Hp) (v : V) : Option Ts → Prop
  | none => v = .non
  | some t => TsAt H v t
/-- the eight parts -/
structure PartsAt (H : Hp) (r : Rm) (n a b s k t p y : V) : Prop where
  name : n = .str r.name
  above : a = .str r.above
  boxes : ∃ c, b = .ref c ∧ CratesAt H c r.boxes
  sayings : ∃ c, s = .ref c ∧ SaysAt H c r.sayings
  ask : AskAt k r.ask
  told : ToldAt H t r.told
  promise : VowAt H p r.promise
  body : ∃ c, y = .ref c ∧ BdAt H c r.body
/-- a room in the heap -/
def RmAt (C : Addr) (H : Hp) (x : Addr) (r : Rm) : Prop := ∃ dx n a b s k t p y, H x = some (.ins C dx (roomF n a b s k t p y)) ∧ PartsAt H r n a b s k t p y
theorem paired_imp {α β : Type} {R S : α → β → Prop} (h : ∀ x y, R x y → S x y) : ∀ {xs : List α} {ys : List β}, Paired R xs ys → Paired S xs ys
  | _, _, .nil => .nil
  | _, _, .cons r t => .cons (h _ _ r) (paired_imp h t)
theorem CratesAt.keep {H H' : Hp} (k : Tups H H') {b : Addr} {xs : List (Str × Int × Int)} (h : CratesAt H b xs) : CratesAt H' b xs := by
  obtain ⟨as, h1, h2⟩ := h
  exact ⟨as, k _ _ h1, paired_imp (fun _ _ q => k _ _ q) h2⟩
theorem SaysAt.keep {H H' : Hp} (k : Tups H H') {b : Addr} {xs : List Ts} (h : SaysAt H b xs) : SaysAt H' b xs := by
  obtain ⟨as, h1, h2⟩ := h
  exact ⟨as, k _ _ h1, paired_imp (fun _ _ q => q.keep k) h2⟩
theorem ToldAt.keep {H H' : Hp} (k : Tups H H') {v : V} : ∀ {o : Option (Int × Ex)}, ToldAt H v o → ToldAt H' v o
  | none, h => h
  | some (i, e), h => by
    obtain ⟨a, u, h1, h2, h3⟩ := h
    exact ⟨a, u, h1, k _ _ h2, h3.keep k⟩
theorem VowAt.keep {H H' : Hp} (k : Tups H H') {v : V} : ∀ {o : Option Ts}, VowAt H v o → VowAt H' v o
  | none, h => h
  | some t, h => TsAt.keep k h
theorem BdAt.keep {H H' : Hp} (k : Tups H H') {a : Addr} {b : Bd} (h : BdAt H a b) : BdAt H' a b := by
  obtain ⟨vs, h1, h2⟩ := h
  exact ⟨vs, k _ _ h1, h2.keep k⟩
theorem PartsAt.keep {H H' : Hp} (k : Tups H H') {r : Rm} {n a b s q t p y : V} (h : PartsAt H r n a b s q t p y) : PartsAt H' r n a b s q t p y where
  name := h.name
  above := h.above
  boxes := by obtain ⟨c, h1, h2⟩ := h.boxes; exact ⟨c, h1, h2.keep k⟩
  sayings := by obtain ⟨c, h1, h2⟩ := h.sayings; exact ⟨c, h1, h2.keep k⟩
  ask := h.ask
  told := h.told.keep k
  promise := h.promise.keep k
  body := by obtain ⟨c, h1, h2⟩ := h.body; exact ⟨c, h1, h2.keep k⟩
theorem RmAt.keep {C : Addr} {H H' : Hp} (k : Same H H') {x : Addr} {r : Rm} (h : RmAt C H x r) : RmAt C H' x r := by
  obtain ⟨dx, n, a, b, s, q, t, p, y, h1, h2⟩ := h
  exact ⟨dx, n, a, b, s, q, t, p, y, k _ _ h1, h2.keep (Same.tups k)⟩
/-! ### Room.__init__ -/
abbrev cRoom : Stmt := top 64
abbrev sRInit : Stmt := inClass (top 64) 0
abbrev psRI : List Str := ["self", "name", "above", "boxes", "sayings", "ask", "told", "promise", "body"]
theorem scRInit : FnScope psRI psRI (defScope sRInit) := ⟨rfl, rfl, rfl, by decide +kernel, rfl, by decide +kernel, by decide +kernel⟩
/-- what the class of rooms is like -/
structure RoomC (K : PySem.W.Frag) (C : Addr) : Prop where
  cl : Cls K C
  n1 : NoAttr K C "name"
  n2 : NoAttr K C "above"
  n3 : NoAttr K C "boxes"
  n4 : NoAttr K C "sayings"
  n5 : NoAttr K C "ask"
  n6 : NoAttr K C "told"
  n7 : NoAttr K C "promise"
  n8 : NoAttr K C "body"
def spRInit (C : Addr) : Sp := fun vs H Q _ => ∃ (x dx : Addr) (n a b s k t p y : V), vs = [.ref x, n, a, b, s, k, t, p, y] ∧ H x = some (.ins C dx []) ∧ Q .non (upd H x (.ins C dx (roomF n a b s k t p y)))
section
variable {P : Program} {w : World} {K : PySem.W.Frag} {mg : Str → Option Value} {base : Heap} {f C : Addr} {fd : FuncData}
theorem upd2 {H : Hp} {x : Addr} {o o' : HO} : upd (upd H x o) x o' = upd H x o' := by
  funext a
  by_cases e : a = x
  · rw [e, upd_same, upd_same]
  · rw [upd_ne e, upd_ne e, upd_ne e]
theorem ok_rinit {kws : List (Str × V)} (T : RoomC K C) (F : FunD K "__init__" "Room.__init__" (defArgs sRInit) (defBody sRInit) (defScope sRInit) [] kws f fd) : FnOk P w K mg base CX0 1 f fd psRI (spRInit C) := by
  refine F.ok scRInit (fun vs H Q E h => ?_) (fun cdv A outer s H vs Q E hr h => ?_)
  · obtain ⟨x, dx, n, a, b, s, k, t, p, y, rfl, _⟩ := h
    rfl
  obtain ⟨x, dx, n, a, b, s', k, t, p, y, rfl, hx, q⟩ := h
  refine ⟨_, PSs.nox (pss_cons (ps_fld (pv 0) (pv 1) rfl) (pss_cons (ps_fld (pv 0) (pv 2) rfl) (pss_cons (ps_fld (pv 0) (pv 3) rfl) (pss_cons (ps_fld (pv 0) (pv 4) rfl) (pss_cons (ps_fld (pv 0) (pv 5) rfl) (pss_cons (ps_fld (pv 0) (pv 6) rfl)
    (pss_cons (ps_fld (pv 0) (pv 7) rfl) (pss_one (ps_fld (pv 0) (pv 8) rfl))))))))), ?_⟩
  refine ⟨_, rfl, _, rfl, x, C, dx, _, rfl, hx, T.cl, T.n1, (by show 0 < 1000; decide), ?_⟩
  refine ⟨_, rfl, _, rfl, x, C, dx, [("name", n)], rfl, upd_same, T.cl, T.n2, (by show 1 < 1000; decide), ?_⟩
  rw [put1, upd2]
  refine ⟨_, rfl, _, rfl, x, C, dx, [("name", n), ("above", a)], rfl, upd_same, T.cl, T.n3, (by show 2 < 1000; decide), ?_⟩
  rw [put2, upd2]
  refine ⟨_, rfl, _, rfl, x, C, dx, [("name", n), ("above", a), ("boxes", b)], rfl, upd_same, T.cl, T.n4, (by show 3 < 1000; decide), ?_⟩
  rw [put3, upd2]
  refine ⟨_, rfl, _, rfl, x, C, dx, [("name", n), ("above", a), ("boxes", b), ("sayings", s')], rfl, upd_same, T.cl, T.n5, (by show 4 < 1000; decide), ?_⟩
  rw [put4, upd2]
  refine ⟨_, rfl, _, rfl, x, C, dx, [("name", n), ("above", a), ("boxes", b), ("sayings", s'), ("ask", k)], rfl, upd_same, T.cl, T.n6, (by show 5 < 1000; decide), ?_⟩
  rw [put5, upd2]
  refine ⟨_, rfl, _, rfl, x, C, dx, [("name", n), ("above", a), ("boxes", b), ("sayings", s'), ("ask", k), ("told", t)], rfl, upd_same, T.cl, T.n7, (by show 6 < 1000; decide), ?_⟩
  rw [put6, upd2]
  refine ⟨_, rfl, _, rfl, x, C, dx, [("name", n), ("above", a), ("boxes", b), ("sayings", s'), ("ask", k), ("told", t), ("promise", p)], rfl, upd_same, T.cl, T.n8, (by show 7 < 1000; decide), ?_⟩
  rw [put7, upd2]
  exact q
end
end Any
namespace Any
open L2 PySem PySem.Spec PyProof.Rows LamX NdefX
abbrev sRooms : Stmt := top 66
abbrev sFault : Stmt := top 67
abbrev sNameF : Stmt := top 68
abbrev sAboveF : Stmt := top 69
abbrev sFloor : Stmt := top 70
abbrev sBoxesF : Stmt := top 71
abbrev sBoxF : Stmt := top 72
abbrev sSaysF : Stmt := top 73
abbrev sFirstF : Stmt := top 74
abbrev sOtherF : Stmt := top 75
abbrev sToldF : Stmt := top 76
abbrev sBodyF : Stmt := top 77
abbrev sNames : Stmt := top 78
theorem scNames : FnScope ["room", "name", "bound", "first"] ["room"] (defScope sNames) := ⟨rfl, rfl, rfl, by decide +kernel, rfl, by decide +kernel, by decide +kernel⟩
theorem scBoxF : FnScope ["box", "name", "bound", "first"] ["box"] (defScope sBoxF) := ⟨rfl, rfl, rfl, by decide +kernel, rfl, by decide +kernel, by decide +kernel⟩
theorem scToldF : FnScope ["room", "bound", "expression"] ["room"] (defScope sToldF) := ⟨rfl, rfl, rfl, by decide +kernel, rfl, by decide +kernel, by decide +kernel⟩
theorem scFirstF : FnScope ["room"] ["room"] (defScope sFirstF) := ⟨rfl, rfl, rfl, by decide +kernel, rfl, by decide +kernel, by decide +kernel⟩
theorem scOtherF : FnScope ["room"] ["room"] (defScope sOtherF) := ⟨rfl, rfl, rfl, by decide +kernel, rfl, by decide +kernel, by decide +kernel⟩
def Rm.bn (r : Rm) : List Str := r.boxes.map (·.1)
def spBn (C : Addr) : Sp := fun vs H Q _ => ∃ x r, vs = [.ref x] ∧ RmAt C H x r ∧ r.boxes.length ≤ 4 ∧ ∀ p H', H p = none → Same H H' → H' p = some (.lst (r.bn.map V.str)) → Q (.ref p) H'
/-- a box as point 6 has it -/
def crateOk (x : Str × Int × Int) : Prop := Nm x.1 ∧ (1 ≤ x.2.1 ∧ x.2.1 ≤ 40) ∧ (0 ≤ x.2.2 ∧ x.2.2 ≤ x.2.1 - 1)
def spBoxF : Sp := fun vs H Q _ => ∃ a x, vs = [.ref a] ∧ H a = some (.tup [.str x.1, .int x.2.1, .int x.2.2]) ∧ crateOk x ∧ ∀ H', Same H H' → Q (.bl true) H'
theorem fm_some {α : Type} (g : α → V) : ∀ xs : List α, (xs.map fun x => some (g x)).filterMap id = xs.map g
  | [] => rfl
  | x :: r => by
    rw [List.map_cons, List.map_cons, ← fm_some g r]
    rfl
section
variable {P : Program} {w : World} {K : PySem.W.Frag} {mg : Str → Option Value} {base : Heap} {f C nm wi : Addr} {fd nmd wid : FuncData}
theorem ok_bn (T : RoomC K C) (F : Fun K "box_names" "box_names" sNames f fd) : FnOk P w K mg base CX0 1 f fd ["room"] (spBn C) := by
  refine F.ok scNames (fun vs H Q E h => ?_) (fun cdv A outer s H vs Q E hr h => ?_)
  · obtain ⟨x, r, rfl, _⟩ := h
    rfl
  obtain ⟨x, r, rfl, hx, hz, q⟩ := h
  obtain ⟨dx, n, a, b, s', k, t, p, y, h1, h2⟩ := hx
  obtain ⟨c, rfl, as, hc, hp⟩ := h2.boxes
  refine ⟨_, pss_one (ps_ret (pe_lc (own := [("name", 1), ("bound", 2), ("first", 3)]) (g := gTup K 3 (gCons (gName 1) (gCons (gName 2) (gCons (gName 3) gNil)))) (tt := tYes) rfl scNames.nd (pi_tup (pe_fld (pv 0) rfl)) (blkOk_by (N := ["room", "name", "bound", "first"]) (sc := defScope sNames) (by decide +kernel))
    (fun _ _ _ _ _ => pg_tup rfl (pgs_cons (pg_name (i := 1) scNames.nd rfl (Or.inl rfl)) (pgs_cons (pg_name (i := 2) scNames.nd rfl (Or.inl rfl)) (pgs_cons (pg_name (i := 3) scNames.nd rfl (Or.inl rfl)) pgs_nil))))
    (fun _ _ _ _ _ => pts_nil) (fun _ _ _ _ _ => pv 1))), ?_⟩
  refine ⟨_, rfl, x, C, dx, _, _, rfl, h1, T.cl, T.n3, rf_boxes, c, rfl, ⟨_, SqT.of hc⟩, fun D hD => ?_⟩
  have hl := paired_len hp
  have hs : sizeLine = 16777216 := sizeLine_eq
  refine turns_tup (K := K) (a := c) (xs := as.map V.ref) (r.boxes.map fun z => some (V.str z.1)) hD (fun Hc sm => SqT.of (sm _ _ hc)) (by rw [List.length_map, List.length_map]; exact hl.symm) (by rw [List.length_map]; omega) ?_ ?_
  · intro i v o Hc Y N hv ho sm hY hN
    rw [List.getElem?_map] at hv ho
    obtain ⟨e, he, rfl⟩ : ∃ e, as[i]? = some e ∧ v = .ref e := by
      cases z : as[i]? with
      | none => rw [z] at hv; cases hv
      | some e => rw [z] at hv; exact ⟨e, rfl, (Option.some.inj hv).symm⟩
    obtain ⟨z, hz2, hat⟩ := paired_get hp he
    rw [hz2] at ho
    exact ⟨e, _, rfl, SqT.of (sm _ _ hat), rfl, _, _, rfl, _, _, rfl, _, _, rfl, rfl, rfl, _, rfl, hY _ (Option.some.inj ho).symm Hc same_refl⟩
  · intro Hc hc2 sm
    rw [fm_some (fun z : Str × Int × Int => V.str z.1)] at hc2
    refine q D Hc hD sm ?_
    rw [hc2]
    unfold Rm.bn
    rw [List.map_map]
    rfl
theorem ok_boxf (O : Own mg) (F : Fun K "box_fits" "box_fits" sBoxF f fd) (GN : FnOk P w K mg base CX0 1 nm nmd ["thing"] spName) (bN : Binds K nmd ["thing"] []) (kN : PySem.W.keepIn K (.ref nm) = true) (mN : mg "is_name" = some (.ref nm))
    (WI : FnOk P w K mg base CX0 2 wi wid ["thing", "least", "most"] spWithin) (bW : Binds K wid ["thing", "least", "most"] []) (kW : PySem.W.keepIn K (.ref wi) = true) (mW : mg "is_within" = some (.ref wi)) {t40 : Tok} (m40 : mg "MOST_BOUND" = some (.int 40 t40)) :
    FnOk P w K mg base CX0 3 f fd ["box"] spBoxF := by
  refine F.ok scBoxF (fun vs H Q E h => ?_) (fun cdv A outer s H vs Q E hr h => ?_)
  · obtain ⟨a, x, rfl, _⟩ := h
    rfl
  obtain ⟨a, x, rfl, ha, ⟨k1, k2, k3⟩, q⟩ := h
  refine ⟨_, pss_cons (ps_if (PW.pt (pw_or (pt_not (pt_val (pe_callB call_isi rfl O.isi (by decide +kernel) (pa_cons (pv 0) (pa_cons (pe_bltn (v := .ty "tuple") rfl O.tuple (by decide +kernel) rfl) pa_nil)))))
      (pw_or1 (pt_cmpR op_ne (pe_callB call_len_seq rfl O.len PySem.boot_len (pa_cons (pv 0) pa_nil)) pe_int (nomark _))))) (pss_one (ps_ret pe_bl)) pss_nil)
    (pss_cons (ps_asg (pv 0) (pg_tup rfl (pgs_cons (pg_name (i := 1) scBoxF.nd rfl (Or.inl rfl)) (pgs_cons (pg_name (i := 2) scBoxF.nd rfl (Or.inl rfl)) (pgs_cons (pg_name (i := 3) scBoxF.nd rfl (Or.inl rfl)) pgs_nil)))))
    (pss_one (ps_ret (pe_and (pe_call GN (hr.mono (by decide)) rfl mN kN bN .nil pass0 (pa_cons (pv 1) pa_nil)) (pe_and (pe_call WI hr rfl mW kW bW .nil pass0 (pa_cons (pv 2) (pa_cons pe_int (pa_cons (pe_glob (v := .int 40) rfl m40 ⟨_, rfl⟩) pa_nil))))
      (pe_one (pe_call WI hr rfl mW kW bW .nil pass0 (pa_cons (pv 3) (pa_cons pe_int (pa_cons (pe_op op_sub (pv 2) pe_int) pa_nil)))))))))), ?_⟩
  refine ⟨_, rfl, _, _, _, _, true, rfl, .ty "tuple", .base (.tup ha), kb "tuple" "tuple" true, _, rfl, itF rfl ?_⟩
  refine ⟨_, rfl, _, _, rfl, .inr (SqT.of ha), rfl, _, rfl, itF rfl ?_⟩
  refine ⟨_, rfl, a, _, rfl, SqT.of ha, rfl, _, _, rfl, _, _, rfl, _, _, rfl, rfl, ?_⟩
  refine ⟨_, rfl, x.1, rfl, k1, fun H1 s1 => ⟨_, rfl, itT rfl ?_⟩⟩
  refine ⟨_, rfl, _, _, _, rfl, ?_⟩
  rw [decide_eq_true k2.1, decide_eq_true k2.2]
  refine ⟨_, rfl, itT rfl ?_⟩
  refine ⟨_, rfl, _, rfl, _, _, rfl, rfl, _, _, _, rfl, ?_⟩
  rw [decide_eq_true k3.1, decide_eq_true k3.2]
  exact q H1 s1
end
end Any
namespace Any
open L2 PySem PySem.Spec PyProof.Rows LamX NdefX
def spToldF (C : Addr) : Sp := fun vs H Q _ => ∃ x r i e, vs = [.ref x] ∧ RmAt C H x r ∧ r.boxes.length ≤ 4 ∧ r.told = some (i, e) ∧ (1 ≤ i ∧ i ≤ 40) ∧ e.right r.bn ["asked"] ∧ ∀ H', Same H H' → Q (.bl true) H'
/-- of the first room nothing of these -/
def Rm.firstOk (r : Rm) : Prop := r.ask = none ∧ r.told = none ∧ r.promise = none
/-- of others, as point 6 has them -/
def Rm.otherOk (r : Rm) : Prop := (∃ i, r.ask = some i ∧ 1 ≤ i ∧ i ≤ 40) ∧ (∃ i e, r.told = some (i, e) ∧ (1 ≤ i ∧ i ≤ 40) ∧ e.right r.bn ["asked"]) ∧ (∀ t, r.promise = some t → t.right [] ["asked", "told"])
def spFirstF (C : Addr) : Sp := fun vs H Q _ => ∃ x r, vs = [.ref x] ∧ RmAt C H x r ∧ r.firstOk ∧ ∀ H', Same H H' → Q (.str "") H'
def spOtherF (C : Addr) : Sp := fun vs H Q _ => ∃ x r, vs = [.ref x] ∧ RmAt C H x r ∧ r.boxes.length ≤ 4 ∧ r.otherOk ∧ ∀ H', Same H H' → Q (.str "") H'
section
variable {P : Program} {w : World} {K : PySem.W.Frag} {mg : Str → Option Value} {base : Heap} {f C wi ie it bn tf : Addr} {fd wid ied itd bnd tfd : FuncData}
theorem ok_toldf (O : Own mg) (T : RoomC K C) (F : Fun K "told_fits" "told_fits" sToldF f fd)
    (WI : FnOk P w K mg base CX0 2 wi wid ["thing", "least", "most"] spWithin) (bW : Binds K wid ["thing", "least", "most"] []) (kW : PySem.W.keepIn K (.ref wi) = true) (mW : mg "is_within" = some (.ref wi)) {t40 : Tok} (m40 : mg "MOST_BOUND" = some (.int 40 t40))
    (IE : FnOk P w K mg base CX0 10 ie ied ps3 spIsE) (bIE : Binds K ied ps3 []) (kIE : PySem.W.keepIn K (.ref ie) = true) (mIE : mg "is_expression" = some (.ref ie))
    (BN : FnOk P w K mg base CX0 1 bn bnd ["room"] (spBn C)) (bB : Binds K bnd ["room"] []) (kB : PySem.W.keepIn K (.ref bn) = true) (mB : mg "box_names" = some (.ref bn)) :
    FnOk P w K mg base CX0 11 f fd ["room"] (spToldF C) := by
  refine F.ok scToldF (fun vs H Q E h => ?_) (fun cdv A outer s H vs Q E hr h => ?_)
  · obtain ⟨x, r, i, e, rfl, _⟩ := h
    rfl
  obtain ⟨x, r, i, e, rfl, hx, hz, ht, hi, he, q⟩ := h
  obtain ⟨dx, n, a, b, s', k, t, p, y, h1, h2⟩ := id hx
  have h3 := h2.told
  rw [ht] at h3
  obtain ⟨c, u, rfl, hc, hu⟩ := h3
  refine ⟨_, pss_cons (ps_if (PW.pt (pw_or (pt_not (pt_val (pe_callB call_isi rfl O.isi (by decide +kernel) (pa_cons (pe_fld (pv 0) rfl) (pa_cons (pe_bltn (v := .ty "tuple") rfl O.tuple (by decide +kernel) rfl) pa_nil)))))
      (pw_or1 (pt_cmpR op_ne (pe_callB call_len_seq rfl O.len PySem.boot_len (pa_cons (pe_fld (pv 0) rfl) pa_nil)) pe_int (nomark _))))) (pss_one (ps_ret pe_bl)) pss_nil)
    (pss_cons (ps_asg (pe_fld (pv 0) rfl) (pg_tup rfl (pgs_cons (pg_name (i := 1) scToldF.nd rfl (Or.inl rfl)) (pgs_cons (pg_name (i := 2) scToldF.nd rfl (Or.inl rfl)) pgs_nil))))
    (pss_one (ps_ret (pe_and (pe_call WI (hr.mono (by decide)) rfl mW kW bW .nil pass0 (pa_cons (pv 1) (pa_cons pe_int (pa_cons (pe_glob (v := .int 40) rfl m40 ⟨_, rfl⟩) pa_nil))))
      (pe_one (pe_call IE hr rfl mIE kIE bIE .nil pass0 (pa_cons (pv 2) (pa_cons (pe_call BN (hr.mono (by decide)) rfl mB kB bB .nil pass0 (pa_cons (pv 0) pa_nil)) (pa_cons (pe_tup (pa_cons pe_str pa_nil)) pa_nil))))))))), ?_⟩
  refine ⟨_, rfl, x, C, dx, _, _, rfl, h1, T.cl, T.n6, rf_told, _, _, _, _, true, rfl, .ty "tuple", .base (.tup hc), kb "tuple" "tuple" true, _, rfl, itF rfl ?_⟩
  refine ⟨_, rfl, x, C, dx, _, _, rfl, h1, T.cl, T.n6, rf_told, _, _, rfl, .inr (SqT.of hc), rfl, _, rfl, itF rfl ?_⟩
  refine ⟨_, rfl, x, C, dx, _, _, rfl, h1, T.cl, T.n6, rf_told, c, _, rfl, SqT.of hc, rfl, _, _, rfl, _, _, rfl, rfl, ?_⟩
  refine ⟨_, rfl, _, _, _, rfl, ?_⟩
  rw [decide_eq_true hi.1, decide_eq_true hi.2]
  refine ⟨_, rfl, itT rfl ?_⟩
  refine ⟨_, rfl, _, rfl, x, r, rfl, hx, hz, fun l H1 hl s1 hL => ?_⟩
  refine ⟨by show 1 ≤ sizeLine; decide, fun wd hwd => ?_⟩
  have s2 := s1.trans (same_new hwd (.tup [.str "asked"]))
  refine ⟨u, l, wd, e, r.bn, ["asked"], rfl, hu.keep (Same.tups s2), he, .inl ((same_new hwd _) _ _ hL), upd_same, fun H2 s3 => q H2 (s2.trans s3)⟩
theorem ok_firstf (T : RoomC K C) (F : Fun K "first_fault" "first_fault" sFirstF f fd) : FnOk P w K mg base CX0 1 f fd ["room"] (spFirstF C) := by
  refine F.ok scFirstF (fun vs H Q E h => ?_) (fun cdv A outer s H vs Q E hr h => ?_)
  · obtain ⟨x, r, rfl, _⟩ := h
    rfl
  obtain ⟨x, r, rfl, hx, ⟨e1, e2, e3⟩, q⟩ := h
  obtain ⟨dx, n, a, b, s', k, t, p, y, h1, h2⟩ := id hx
  have g1 := h2.ask
  have g2 := h2.told
  have g3 := h2.promise
  rw [e1] at g1
  rw [e2] at g2
  rw [e3] at g3
  cases g1
  cases g2
  cases g3
  refine ⟨_, pss_cons (ps_if (pt_cmpR op_notN (pe_fld (pv 0) rfl) pe_non (nomark _)) (pss_one (ps_ret pe_str)) pss_nil)
    (pss_cons (ps_if (pt_cmpR op_notN (pe_fld (pv 0) rfl) pe_non (nomark _)) (pss_one (ps_ret pe_str)) pss_nil)
    (pss_cons (ps_if (pt_cmpR op_notN (pe_fld (pv 0) rfl) pe_non (nomark _)) (pss_one (ps_ret pe_str)) pss_nil)
    (pss_one (ps_ret pe_str)))), ?_⟩
  refine ⟨_, rfl, x, C, dx, _, _, rfl, h1, T.cl, T.n5, rf_ask, rfl, _, rfl, itF rfl ?_⟩
  refine ⟨_, rfl, x, C, dx, _, _, rfl, h1, T.cl, T.n6, rf_told, rfl, _, rfl, itF rfl ?_⟩
  refine ⟨_, rfl, x, C, dx, _, _, rfl, h1, T.cl, T.n7, rf_promise, rfl, _, rfl, itF rfl ?_⟩
  exact q _ same_refl
theorem vow_ref {H : Hp} {v : V} {t : Ts} (h : TsAt H v t) : decide (v = .non) = false := by
  cases h <;> exact decide_eq_false (fun z => by cases z)
theorem ok_otherf (T : RoomC K C) (F : Fun K "other_fault" "other_fault" sOtherF f fd)
    (WI : FnOk P w K mg base CX0 2 wi wid ["thing", "least", "most"] spWithin) (bW : Binds K wid ["thing", "least", "most"] []) (kW : PySem.W.keepIn K (.ref wi) = true) (mW : mg "is_within" = some (.ref wi)) {t40 : Tok} (m40 : mg "MOST_BOUND" = some (.int 40 t40))
    (IT : FnOk P w K mg base CX0 16 it itd ps3 spIsT) (bIT : Binds K itd ps3 []) (kIT : PySem.W.keepIn K (.ref it) = true) (mIT : mg "is_test" = some (.ref it))
    (TF : FnOk P w K mg base CX0 11 tf tfd ["room"] (spToldF C)) (bT : Binds K tfd ["room"] []) (kT : PySem.W.keepIn K (.ref tf) = true) (mT : mg "told_fits" = some (.ref tf)) :
    FnOk P w K mg base CX0 17 f fd ["room"] (spOtherF C) := by
  refine F.ok scOtherF (fun vs H Q E h => ?_) (fun cdv A outer s H vs Q E hr h => ?_)
  · obtain ⟨x, r, rfl, _⟩ := h
    rfl
  obtain ⟨x, r, rfl, hx, hz, ⟨⟨i, e1, i1, i2⟩, ⟨j, e, e2, hj, he⟩, e3⟩, q⟩ := h
  obtain ⟨dx, n, a, b, s', k, t, p, y, h1, h2⟩ := id hx
  have g1 := h2.ask
  have g3 := h2.promise
  rw [e1] at g1
  cases g1
  refine ⟨_, pss_cons (ps_if (pt_not (pt_val (pe_call WI (hr.mono (by decide)) rfl mW kW bW .nil pass0 (pa_cons (pe_fld (pv 0) rfl) (pa_cons pe_int (pa_cons (pe_glob (v := .int 40) rfl m40 ⟨_, rfl⟩) pa_nil)))))) (pss_one (ps_ret pe_str)) pss_nil)
    (pss_cons (ps_if (pt_not (pt_val (pe_call TF (hr.mono (by decide)) rfl mT kT bT .nil pass0 (pa_cons (pv 0) pa_nil)))) (pss_one (ps_ret pe_str)) pss_nil)
    (pss_cons (ps_if (PW.pt (pw_and (pt_cmpR op_notN (pe_fld (pv 0) rfl) pe_non (nomark _)) (pw_and1 (pt_not (pt_val (pe_call IT hr rfl mIT kIT bIT .nil pass0 (pa_cons (pe_fld (pv 0) rfl) (pa_cons (pe_tup pa_nil) (pa_cons (pe_tup (pa_cons pe_str (pa_cons pe_str pa_nil))) pa_nil)))))))))
      (pss_one (ps_ret pe_str)) pss_nil)
    (pss_one (ps_ret pe_str)))), ?_⟩
  refine ⟨_, rfl, x, C, dx, _, _, rfl, h1, T.cl, T.n5, rf_ask, _, _, _, rfl, ?_⟩
  rw [decide_eq_true i1, decide_eq_true i2]
  refine ⟨_, rfl, itF rfl ?_⟩
  refine ⟨_, rfl, x, r, j, e, rfl, hx, hz, e2, hj, he, fun H1 s1 => ⟨_, rfl, itF rfl ?_⟩⟩
  refine ⟨_, rfl, x, C, dx, _, _, rfl, s1 _ _ h1, T.cl, T.n7, rf_promise, rfl, _, rfl, ?_⟩
  cases e4 : r.promise with
  | none =>
    rw [e4] at g3
    cases g3
    exact itF rfl (itF rfl (q H1 s1))
  | some vw =>
    rw [e4] at g3
    have g3 : TsAt H p vw := g3
    refine itT (by rw [vow_ref g3]; rfl) ?_
    refine ⟨_, rfl, x, C, dx, _, _, rfl, s1 _ _ h1, T.cl, T.n7, rf_promise, by show 0 ≤ sizeLine; decide, fun l hl => ?_⟩
    refine ⟨by show 2 ≤ sizeLine; decide, fun wd hwd => ?_⟩
    have s2 := s1.trans (same_new hl (.tup []))
    have s3 := s2.trans (same_new hwd (.tup [.str "asked", .str "told"]))
    refine ⟨p, l, wd, vw, [], ["asked", "told"], rfl, g3.keep (Same.tups s3), e3 _ e4, .inr ((same_new hwd _) _ _ upd_same), upd_same, fun H2 s4 => ⟨_, rfl, itF rfl (q H2 (s3.trans s4))⟩⟩
end
end Any
namespace Any
open L2 PySem PySem.Spec PyProof.Rows LamX NdefX
/-- a tuple of rooms -/
def RsAt (C : Addr) (H : Hp) (R : Addr) (rs : List Rm) : Prop := ∃ as : List Addr, H R = some (.tup (as.map V.ref)) ∧ Paired (RmAt C H) as rs
theorem RsAt.keep {C : Addr} {H H' : Hp} (k : Same H H') {R : Addr} {rs : List Rm} (h : RsAt C H R rs) : RsAt C H' R rs := by
  obtain ⟨as, h1, h2⟩ := h
  exact ⟨as, k _ _ h1, paired_imp (fun _ _ q => q.keep k) h2⟩
theorem refs_at {as : List Addr} {i : Nat} {v : V} (h : (as.map V.ref)[i]? = some v) : ∃ e, as[i]? = some e ∧ v = .ref e := by
  rw [List.getElem?_map] at h
  cases z : as[i]? with
  | none => rw [z] at h; cases h
  | some e => rw [z] at h; exact ⟨e, rfl, (Option.some.inj h).symm⟩
theorem paired_put {α β : Type} {R : α → β → Prop} : ∀ {xs : List α} {ys : List β}, Paired R xs ys → ∀ {i : Nat} {y : β}, ys[i]? = some y → ∃ x, xs[i]? = some x ∧ R x y
  | _, _, .nil, i, y, h => by simp at h
  | _, _, .cons r t, 0, y, h => by cases h; exact ⟨_, rfl, r⟩
  | _, _, .cons r t, i + 1, y, h => paired_put t (i := i) h
/-- what isinstance asks of the class -/
structure RoomI (K : PySem.W.Frag) (C : Addr) : Prop where
  ha : PySem.W.findIn K (.ref C) "__class__" = some (some (.builtin "object.__class__"))
  hn : PySem.W.specialIn K (.builtin "object.__class__") "__get__" = some (some (.builtin "getset_descriptor.__get__"))
  htk : PySem.W.takesIn K (.builtin "object.__class__") = some true
  hm : PySem.W.mroIn K C (.type "object") = some true
  one : PySem.W.kitOne K (.ref C) (.ref C) = some true
theorem scRooms : FnScope ["things", "thing"] ["things"] (defScope sRooms) := ⟨rfl, rfl, rfl, by decide +kernel, rfl, by decide +kernel, by decide +kernel⟩
theorem scNameF : FnScope ["rooms", "at", "name", "room"] ["rooms", "at"] (defScope sNameF) := ⟨rfl, rfl, rfl, by decide +kernel, rfl, by decide +kernel, by decide +kernel⟩
abbrev nmBo : List Str := ["rooms", "at", "words", "room", "beneath", "other"]
theorem scBodyF : FnScope nmBo ["rooms", "at", "words"] (defScope sBodyF) := ⟨rfl, rfl, rfl, by decide +kernel, rfl, by decide +kernel, by decide +kernel⟩
/-- the names of the rooms right beneath -/
def ben (rs : List Rm) (n : Str) : List Str := (rs.filter fun o => decide (o.above = n)).map (·.name)
theorem fm_ben (n : Str) : ∀ rs : List Rm, (rs.map fun o => if o.above = n then some (V.str o.name) else none).filterMap id = (ben rs n).map V.str
  | [] => rfl
  | o :: r => by
    have ih := fm_ben n r
    unfold ben at ih ⊢
    rw [List.map_cons]
    by_cases e : o.above = n
    · rw [if_pos e, List.filter_cons_of_pos (by simpa using e), List.map_cons, List.map_cons, ← ih]
      rfl
    · rw [if_neg e, List.filter_cons_of_neg (by simpa using e), ← ih]
      rfl
def spRooms (C : Addr) : Sp := fun vs H Q _ => ∃ R rs, vs = [.ref R] ∧ RsAt C H R rs ∧ 1 ≤ rs.length ∧ rs.length ≤ 8 ∧ ∀ H', Same H H' → Q (.bl true) H'
def spNameF (C : Addr) : Sp := fun vs H Q _ => ∃ (R : Addr) (i : Nat) (rs : List Rm) (r : Rm), vs = [.ref R, .int i] ∧ RsAt C H R rs ∧ rs.length ≤ 8 ∧ rs[i]? = some r ∧ Nm r.name ∧ r.name ∉ (rs.take i).map (·.name) ∧ ∀ H', Same H H' → Q (.bl true) H'
def spBodyF (C : Addr) : Sp := fun vs H Q _ => ∃ (R wd : Addr) (i : Nat) (rs : List Rm) (r : Rm) (ws : List Str), vs = [.ref R, .int i, .ref wd] ∧ RsAt C H R rs ∧ rs.length ≤ 8 ∧ rs[i]? = some r ∧ r.boxes.length ≤ 4 ∧
  r.body.right r.bn ws (ben rs r.name) ∧ H wd = some (.tup (ws.map V.str)) ∧ ∀ H', Same H H' → Q (.str "") H'
theorem cut_to (xs : List V) (i : Nat) (h : i ≤ xs.length) : cutV xs none (some (i : Int)) = xs.take i := by
  unfold cutV
  rw [HT.sIx_none, HT.sIx_nat, List.drop_zero, Nat.sub_zero, Nat.min_eq_left h]
theorem paired_take {α β : Type} {R : α → β → Prop} : ∀ {xs : List α} {ys : List β}, Paired R xs ys → ∀ i : Nat, Paired R (xs.take i) (ys.take i)
  | _, _, .nil, i => by rw [List.take_nil, List.take_nil]; exact .nil
  | _, _, .cons r t, 0 => .nil
  | _, _, .cons r t, i + 1 => by rw [List.take_succ_cons, List.take_succ_cons]; exact .cons r (paired_take t i)
section
variable {P : Program} {w : World} {K : PySem.W.Frag} {mg : Str → Option Value} {base : Heap} {f C nm ib bn : Addr} {fd nmd ibd bnd : FuncData}
theorem ok_rooms (O : Own mg) (T : RoomC K C) (TI : RoomI K C) (mR : mg "Room" = some (.ref C)) (F : Fun K "are_rooms" "are_rooms" sRooms f fd) {t8 : Tok} (m8 : mg "MOST_ROOMS" = some (.int 8 t8)) : FnOk P w K mg base CX0 1 f fd ["things"] (spRooms C) := by
  refine F.ok scRooms (fun vs H Q E h => ?_) (fun cdv A outer s H vs Q E hr h => ?_)
  · obtain ⟨R, rs, rfl, _⟩ := h
    rfl
  obtain ⟨R, rs, rfl, ⟨as, hR, hp⟩, z1, z8, q⟩ := h
  have hl := paired_len hp
  have hs : sizeLine = 16777216 := sizeLine_eq
  refine ⟨_, pss_cons (ps_if (PW.pt (pw_or (pt_not (pt_val (pe_callB call_isi rfl O.isi (by decide +kernel) (pa_cons (pv 0) (pa_cons (pe_bltn (v := .ty "tuple") rfl O.tuple (by decide +kernel) rfl) pa_nil)))))
      (pw_or1 (pt_not (pt_chain op_le op_le pe_int (pe_callB call_len_seq rfl O.len PySem.boot_len (pa_cons (pv 0) pa_nil)) (pe_glob (v := .int 8) rfl m8 ⟨_, rfl⟩)))))) (pss_one (ps_ret pe_bl)) pss_nil)
    (pss_one (ps_ret (pe_callB (cr_all rfl) rfl O.all (by decide +kernel) (pa_cons (pe_lc (own := [("thing", 1)]) (g := gName 1) (tt := tYes) rfl scRooms.nd
            (pi_tup (pv 0)) (blkOk_by (N := ["things", "thing"]) (sc := defScope sRooms) (by decide +kernel))
            (fun _ _ _ _ _ => pg_name (i := 1) scRooms.nd rfl (Or.inl rfl)) (fun _ _ _ _ _ => pts_nil)
            (fun _ _ _ _ _ => pe_callB (show CallR _ (.builtin "isinstance") (rIsi K) from call_isi) rfl O.isi (by decide +kernel) (pa_cons (pv 1) (pa_cons (pe_glob (v := .ref C) rfl mR rfl) pa_nil)))) pa_nil)))), ?_⟩
  refine ⟨_, rfl, _, _, _, _, true, rfl, .ty "tuple", .base (.tup hR), kb "tuple" "tuple" true, _, rfl, itF rfl ?_⟩
  refine ⟨_, rfl, R, _, rfl, .inr (SqT.of hR), _, _, rfl, rfl, _, rfl, itT ?_ ⟨_, _, rfl, rfl, _, rfl, itF ?_ ?_⟩⟩
  · exact decide_eq_true (by rw [List.length_map]; omega)
  · show (!decide (((as.map V.ref).length : Int) ≤ 8)) = false
    rw [decide_eq_true (by rw [List.length_map]; omega)]
    rfl
  refine ⟨_, rfl, R, rfl, ⟨_, SqT.of hR⟩, fun D hD => ?_⟩
  refine turns_tup (K := K) (a := R) (xs := as.map V.ref) ((as.map V.ref).map fun _ => some (.bl true)) hD (fun Hc sm => SqT.of (sm _ _ hR)) (by rw [List.length_map]) (by rw [List.length_map]; omega) ?_ ?_
  · intro i z o Hc Y N hz ho sm hY hN
    have eo : o = some (.bl true) := by
      rw [List.getElem?_map, hz] at ho
      exact (Option.some.inj ho).symm
    obtain ⟨e, he, rfl⟩ := refs_at hz
    obtain ⟨r, _, dx, n, a, b, s', k, t, p, y, h1, h2⟩ := paired_get hp he
    exact ⟨rfl, _, rfl, _, _, _, _, true, rfl, .own C, .base (.ins (sm _ _ h1) T.cl TI.ha TI.hn TI.htk TI.hm), TI.one, hY _ eo Hc same_refl⟩
  · intro Hc hc sm
    rw [fm_true] at hc
    refine ⟨D, _, rfl, SqL.of hc, ?_⟩
    rw [List.all_map, show ((as.map V.ref).all (id ∘ fun _ => true)) = true from List.all_eq_true.mpr fun _ _ => rfl]
    exact q Hc sm
theorem ok_namef (T : RoomC K C) (F : Fun K "name_fits" "name_fits" sNameF f fd) (GN : FnOk P w K mg base CX0 1 nm nmd ["thing"] spName) (bN : Binds K nmd ["thing"] []) (kN : PySem.W.keepIn K (.ref nm) = true) (mN : mg "is_name" = some (.ref nm)) :
    FnOk P w K mg base CX0 2 f fd ["rooms", "at"] (spNameF C) := by
  refine F.ok scNameF (fun vs H Q E h => ?_) (fun cdv A outer s H vs Q E hr h => ?_)
  · obtain ⟨R, i, rs, r, rfl, _⟩ := h
    rfl
  obtain ⟨R, i, rs, r, rfl, ⟨as, hR, hp⟩, z8, hi, k1, k2, q⟩ := h
  have hl := paired_len hp
  have hs : sizeLine = 16777216 := sizeLine_eq
  have hlt : i < rs.length := (List.getElem?_eq_some_iff.mp hi).1
  obtain ⟨e, he, hx⟩ := paired_put hp hi
  obtain ⟨dx, n, a, b, s', k, t, p, y, h1, h2⟩ := id hx
  have hn := h2.name
  subst hn
  have hlr : (as.map V.ref).length = rs.length := by rw [List.length_map]; exact hl
  refine ⟨_, pss_cons (ps_set (i := 2) scNameF.nd rfl (Or.inl rfl) (pe_fld (pe_ix ix_tup (pv 0) (pv 1) (fun _ _ => rfl)) rfl))
    (pss_one (ps_ret (pe_and (pe_call GN hr rfl mN kN bN .nil pass0 (pa_cons (pv 2) pa_nil)) (pe_one (pe_cmpR op_notIn_seq (pv 2) (pe_lc (own := [("room", 3)]) (g := gName 3) (tt := tYes) (te := tFld K (tVar 3) "name") rfl scNameF.nd
            (pi_tup (pe_slice sl_tup (pv 0) po_none (po_some (pv 1)))) (blkOk_by (N := ["rooms", "at", "name", "room"]) (sc := defScope sNameF) (by decide +kernel))
            (fun _ _ _ _ _ => pg_name (i := 3) scNameF.nd rfl (Or.inl rfl)) (fun _ _ _ _ _ => pts_nil) (fun _ _ _ _ _ => pe_fld (pv 3) rfl)) (by rfl)))))), ?_⟩
  refine ⟨_, rfl, _, rfl, R, _, i, _, rfl, rfl, SqT.of hR, atI_nat (j := i) (by rw [List.getElem?_map, he]; rfl), e, C, dx, _, _, rfl, h1, T.cl, T.n1, rf_name, ?_⟩
  refine ⟨_, rfl, r.name, rfl, k1, fun H1 s1 => ⟨_, rfl, itT rfl ?_⟩⟩
  refine ⟨_, rfl, _, rfl, _, rfl, i, rfl, R, _, rfl, SqT.of (s1 _ _ hR), ?_, fun p2 hp2 => ⟨p2, rfl, ⟨_, SqT.of upd_same⟩, fun D hD => ?_⟩⟩
  · rw [HT.sIx_nat, hlr]
    intro z
    have := z.2
    omega
  rw [cut_to _ _ (by rw [hlr]; omega), ← List.map_take] at hD ⊢
  have s2 := s1.trans (same_new hp2 (.tup ((as.take i).map V.ref)))
  have hp' := paired_take hp i
  refine turns_tup (K := K) (a := p2) (xs := (as.take i).map V.ref) ((rs.take i).map fun o => some (V.str o.name)) hD (fun Hc sm => SqT.of (sm _ _ upd_same)) (by rw [List.length_map, List.length_map]; exact (paired_len hp').symm) (by rw [List.length_map, List.length_take]; omega) ?_ ?_
  · intro j z o Hc Y N hz ho sm hY hN
    obtain ⟨e', he', rfl⟩ := refs_at hz
    obtain ⟨r', hr', dx', n', a', b', s'', k', t', p', y', h1', h2'⟩ := paired_get hp' he'
    rw [List.getElem?_map, hr'] at ho
    have hn' := h2'.name
    subst hn'
    exact ⟨rfl, _, rfl, e', C, dx', _, _, rfl, sm _ _ (s2 _ _ h1'), T.cl, T.n1, rf_name, hY _ (Option.some.inj ho).symm Hc same_refl⟩
  · intro Hc hc sm
    rw [fm_some (fun o : Rm => V.str o.name)] at hc
    have e3 : (rs.take i).map (fun o : Rm => V.str o.name) = ((rs.take i).map (·.name)).map V.str := by rw [List.map_map]; rfl
    rw [e3] at hc
    refine ⟨D, _, rfl, .inl (SqL.of hc), rfl, strs_flat _, ?_⟩
    show Q (.bl (!inV _ _)) Hc
    rw [in_strs, decide_eq_false k2]
    exact q Hc (s2.trans sm)
end
end Any
namespace Any
open L2 PySem PySem.Spec PyProof.Rows LamX NdefX
section
variable {P : Program} {w : World} {K : PySem.W.Frag} {mg : Str → Option Value} {base : Heap} {f C nm ib bn : Addr} {fd nmd ibd bnd : FuncData}
theorem ok_bodyf (T : RoomC K C) (F : Fun K "body_fault" "body_fault" sBodyF f fd) (IB : FnOk P w K mg base CX0 27 ib ibd ps4 spIsB) (bI : Binds K ibd ps4 []) (kI : PySem.W.keepIn K (.ref ib) = true) (mI : mg "is_body" = some (.ref ib))
    (BN : FnOk P w K mg base CX0 1 bn bnd ["room"] (spBn C)) (bB : Binds K bnd ["room"] []) (kB : PySem.W.keepIn K (.ref bn) = true) (mB : mg "box_names" = some (.ref bn)) :
    FnOk P w K mg base CX0 28 f fd ["rooms", "at", "words"] (spBodyF C) := by
  refine F.ok scBodyF (fun vs H Q E h => ?_) (fun cdv A outer s H vs Q E hr h => ?_)
  · obtain ⟨R, wd, i, rs, r, ws, rfl, _⟩ := h
    rfl
  obtain ⟨R, wd, i, rs, r, ws, rfl, ⟨as, hR, hp⟩, z8, hi, hz, hb, hw, q⟩ := h
  have hl := paired_len hp
  have hs : sizeLine = 16777216 := sizeLine_eq
  obtain ⟨e, he, hx⟩ := paired_put hp hi
  obtain ⟨dx, n, a, b, s', k, t, p, y, h1, h2⟩ := id hx
  have hn := h2.name
  subst hn
  obtain ⟨c, rfl, hc⟩ := h2.body
  refine ⟨_, pss_cons (ps_set (i := 3) scBodyF.nd rfl (Or.inr rfl) (pe_ix ix_tup (pv 0) (pv 1) (fun _ _ => rfl)))
    (pss_cons (ps_setLc (i := 4) (own := [("other", 5)]) (g := gName 5) (tt := tTest (tOp rEq (tFld K (tVar 5) "above") (tFld K (tVar 3) "name"))) (te := tFld K (tVar 5) "name") (by rfl) scBodyF.nd rfl rfl (sw_true rfl rfl rfl (by decide +kernel)) (pi_tup (pv 0)) (blkOk_by (N := nmBo) (sc := defScope sBodyF) (by decide +kernel))
          (fun _ _ _ _ _ => pg_name (i := 5) scBodyF.nd rfl (Or.inl rfl)) (fun _ _ _ _ _ => pts_one (pt_cmpR op_eq (pe_fld (pv 5) rfl) (pe_fld (pv 3) rfl) (nomark _))) (fun _ _ _ _ _ => pe_fld (pv 5) rfl))
    (pss_cons (ps_if (pt_val (pe_call IB hr rfl mI kI bI .nil pass0 (pa_cons (pe_fld (pv 3) rfl) (pa_cons (pe_call BN (hr.mono (by decide)) rfl mB kB bB .nil pass0 (pa_cons (pv 3) pa_nil)) (pa_cons (pv 2) (pa_cons (pv 4) pa_nil)))))) (pss_one (ps_ret pe_str)) pss_nil)
    (pss_one (ps_ret pe_str)))), ?_⟩
  refine ⟨_, rfl, _, rfl, R, _, i, _, rfl, rfl, SqT.of hR, atI_nat (j := i) (by rw [List.getElem?_map, he]; rfl), ?_⟩
  refine ⟨_, rfl, R, rfl, ⟨_, SqT.of hR⟩, fun D hD => ?_⟩
  refine turns_tup (K := K) (a := R) (xs := as.map V.ref) (rs.map fun o => if o.above = r.name then some (V.str o.name) else none) hD (fun Hc sm => SqT.of (sm _ _ hR)) (by rw [List.length_map, List.length_map]; exact hl.symm) (by rw [List.length_map]; omega) ?_ ?_
  · intro j z o Hc Y N hz2 ho sm hY hN
    obtain ⟨e', he', rfl⟩ := refs_at hz2
    obtain ⟨r', hr', dx', n', a', b', s'', k', t', p', y', h1', h2'⟩ := paired_get hp he'
    rw [List.getElem?_map, hr'] at ho
    have ho : o = if r'.above = r.name then some (V.str r'.name) else none := (Option.some.inj ho).symm
    have hn' := h2'.name
    have ha' := h2'.above
    subst hn' ha'
    refine ⟨rfl, _, rfl, e', C, dx', _, _, rfl, sm _ _ h1', T.cl, T.n2, rf_above, _, rfl, e, C, dx, _, _, rfl, sm _ _ h1, T.cl, T.n1, rf_name, rfl, _, rfl, ite2 (fun c1 => ?_) (fun c1 => ?_)⟩
    · have e9 : r'.above = r.name := V.str.inj (of_decide_eq_true c1)
      rw [if_pos e9] at ho
      exact ⟨_, rfl, e', C, dx', _, _, rfl, sm _ _ h1', T.cl, T.n1, rf_name, hY _ ho Hc same_refl⟩
    · have e9 : ¬ r'.above = r.name := fun z => c1 (decide_eq_true (by rw [z]))
      rw [if_neg e9] at ho
      exact hN ho Hc same_refl
  · intro Hc hc2 sm
    rw [fm_ben] at hc2
    refine ⟨_, rfl, e, C, dx, _, _, rfl, sm _ _ h1, T.cl, T.n8, rf_body, ?_⟩
    refine ⟨_, rfl, e, r, rfl, hx.keep sm, hz, fun l H2 hl2 s2 hL => ⟨_, rfl, _, rfl, ?_⟩⟩
    have s3 := sm.trans s2
    refine ⟨c, l, wd, D, r.body, r.bn, ws, ben rs r.name, rfl, hc.keep (Same.tups s3), hb, .inl hL, s3 _ _ hw, .inl (s2 _ _ hc2), fun H3 s4 => ⟨_, rfl, itT rfl (q H3 (s3.trans s4))⟩⟩
end
end Any
namespace Any
open L2 PySem PySem.Spec PyProof.Rows LamX NdefX
/-! ### floors -/
def climb (st : Nat × Str) (r : Rm) : Nat × Str := if r.name = st.2 then (st.1 + 1, r.above) else st
def floorOf (rs : List Rm) (i : Nat) (a : Str) : Nat := ((rs.take i).reverse.foldl climb (1, a)).1
theorem climb_yes {st : Nat × Str} {r : Rm} (h : r.name = st.2) : climb st r = (st.1 + 1, r.above) := if_pos h
theorem climb_no {st : Nat × Str} {r : Rm} (h : ¬ r.name = st.2) : climb st r = st := if_neg h
/-- what a loop over a row from its end asks -/
def Loop (J : It) (g : TG) (tb : TS) (D : Ends) (σ : L2.St) (H : Hp) : Prop :=
  ∃ W : Nat → Nat → L2.St → Hp → Prop, (∃ m, W 0 m σ H) ∧
    ∀ i m σ H, W i m σ H →
      (J.stop i H ∧ D.nx σ H) ∨
      (J.go i H ∧ ∃ N : L2.St → Hp → Prop, (∀ σ' H', N σ' H' → ∃ m', m' < m ∧ W (i + 1) m' σ' H') ∧
        ∀ x H', J.yld i H x H' → g x σ H' fun σ2 H2 => tb { D with nx := N, ct := N, bk := D.nx } σ2 H2)
theorem loop_rt {K : PySem.W.Frag} {a : Addr} {xs : List V} {g : TG} {tb : TS} {D : Ends} {σ : L2.St} {H : Hp} (Pv : Nat → L2.St → Hp → Prop) (h0 : Pv 0 σ H) (hl : ∀ i σ H, Pv i σ H → SqT K H a xs)
    (hs : ∀ i x σ H, xs.reverse[i]? = some x → Pv i σ H → g x σ H fun σ2 H2 => tb { D with nx := Pv (i + 1), ct := Pv (i + 1), bk := D.nx } σ2 H2) (hd : ∀ σ H, Pv xs.length σ H → D.nx σ H) : Loop (RT.ItvT K a xs.length) g tb D σ H := by
  refine ⟨fun i m σ H => m = xs.length - i ∧ i ≤ xs.length ∧ Pv i σ H, ⟨_, rfl, Nat.zero_le _, h0⟩, ?_⟩
  rintro i m σ H ⟨rfl, hi, p⟩
  have sq := hl i σ H p
  by_cases lt : i < xs.length
  · have e : xs.reverse[i]? = xs[xs.length - 1 - i]? := List.getElem?_reverse lt
    have e2 : xs[xs.length - 1 - i]? = some (xs[xs.length - 1 - i]'(by omega)) := by rw [List.getElem?_eq_getElem]
    refine .inr ⟨⟨lt, xs, _, sq, e2⟩, Pv (i + 1), fun σ' H' q => ⟨_, by omega, rfl, lt, q⟩, fun x H' y => ?_⟩
    obtain ⟨rfl, y⟩ := y
    exact hs i x σ H' (e.trans (y xs sq)) p
  · have e : i = xs.length := by omega
    subst e
    exact .inl ⟨Nat.le_refl _, hd σ H p⟩
abbrev nmFl : List Str := ["rooms", "at", "floor", "above", "room"]
theorem scFloor : FnScope nmFl ["rooms", "at"] (defScope sFloor) := ⟨rfl, rfl, rfl, by decide +kernel, rfl, by decide +kernel, by decide +kernel⟩
def spFloor (C : Addr) : Sp := fun vs H Q _ => ∃ (R : Addr) (i : Nat) (rs : List Rm) (r : Rm), vs = [.ref R, .int i] ∧ RsAt C H R rs ∧ rs[i]? = some r ∧ ∀ H', Same H H' → Q (.int (floorOf rs i r.above)) H'
theorem fold_take {α β : Type} (f : β → α → β) (b : β) {l : List α} {i : Nat} {x : α} (h : l[i]? = some x) : (l.take (i + 1)).foldl f b = f ((l.take i).foldl f b) x := by
  rw [List.take_add_one, h, List.foldl_append]
  rfl
theorem paired_rev {α β : Type} {R : α → β → Prop} : ∀ {xs : List α} {ys : List β}, Paired R xs ys → ∀ {us : List α} {vs : List β}, Paired R us vs → Paired R (xs.reverse ++ us) (ys.reverse ++ vs)
  | _, _, .nil, us, vs, h => h
  | _, _, .cons r t, us, vs, h => by
    rw [List.reverse_cons, List.reverse_cons, List.append_assoc, List.append_assoc]
    exact paired_rev t (.cons r h)
section
variable {P : Program} {w : World} {K : PySem.W.Frag} {mg : Str → Option Value} {base : Heap} {f C fl : Addr} {fd fld : FuncData}
theorem ok_floor (T : RoomC K C) (mrev : mg "reversed" = none) (F : Fun K "floor_of" "floor_of" sFloor f fd) : FnOk P w K mg base CX0 1 f fd ["rooms", "at"] (spFloor C) := by
  refine F.ok scFloor (fun vs H Q E h => ?_) (fun cdv A outer s H vs Q E hr h => ?_)
  · obtain ⟨R, i, rs, r, rfl, _⟩ := h
    rfl
  obtain ⟨R, i, rs, r, rfl, ⟨as, hR, hp⟩, hi, q⟩ := h
  have hl := paired_len hp
  have hlt : i < rs.length := (List.getElem?_eq_some_iff.mp hi).1
  obtain ⟨e, he, hx⟩ := paired_put hp hi
  obtain ⟨dx, n, a, b, s', k, t, p, y, h1, h2⟩ := id hx
  have ha := h2.above
  subst ha
  have hlr : (as.map V.ref).length = rs.length := by rw [List.length_map]; exact hl
  refine ⟨_, pss_cons (ps_set (i := 2) scFloor.nd rfl (Or.inl rfl) pe_int)
    (pss_cons (ps_set (i := 3) scFloor.nd rfl (Or.inl rfl) (pe_fld (pe_ix ix_tup (pv 0) (pv 1) (fun _ _ => rfl)) rfl))
    (pss_cons (ps_for PassesOwn.never rfl (RT.pi_revA rfl mrev (pe_slice sl_tup (pv 0) po_none (po_some (pv 1)))) (pg_name (i := 4) scFloor.nd rfl (Or.inl rfl))
      (pss_one (ps_if (pt_cmpR op_eq (pe_fld (pv 4) rfl) (pv 3) (nomark _)) (pss_cons (ps_set (i := 3) scFloor.nd rfl (Or.inl rfl) (pe_fld (pv 4) rfl)) (pss_one (ps_aug (i := 2) scFloor.nd rfl (Or.inl rfl) pe_int ip_add))) pss_nil)))
    (pss_one (ps_ret (pv 2))))), ?_⟩
  refine ⟨_, rfl, _, rfl, R, _, i, _, rfl, rfl, SqT.of hR, atI_nat (j := i) (by rw [List.getElem?_map, he]; rfl), e, C, dx, _, _, rfl, h1, T.cl, T.n2, rf_above, ?_⟩
  refine ⟨_, rfl, _, rfl, i, rfl, R, _, rfl, SqT.of hR, ?_, fun p2 hp2 => ?_⟩
  · rw [HT.sIx_nat, hlr]
    intro z
    have := z.2
    omega
  rw [cut_to _ _ (by rw [hlr]; omega), ← List.map_take]
  have hp' := paired_take hp i
  have hpr : Paired (RmAt C H) (as.take i).reverse (rs.take i).reverse := by
    have := paired_rev hp' .nil
    rw [List.append_nil, List.append_nil] at this
    exact this
  have s1 := same_new hp2 (.tup ((as.take i).map V.ref))
  refine ⟨p2, (as.take i).map V.ref, rfl, .inr ⟨SqT.of upd_same, ?_⟩⟩
  refine loop_rt (K := K) (a := p2) (xs := (as.take i).map V.ref) (fun j σ Hc => ∃ x, Hc = upd H p2 (.tup ((as.take i).map V.ref)) ∧ σ = [some (.ref R), some (.int i), some (.int (((rs.take i).reverse.take j).foldl climb (1, r.above)).1), some (.str (((rs.take i).reverse.take j).foldl climb (1, r.above)).2), x]) ?_ ?_ ?_ ?_
  · exact ⟨_, rfl, rfl⟩
  · rintro j σ Hc ⟨x, rfl, rfl⟩
    exact SqT.of upd_same
  · rintro j v σ Hc hv ⟨x, rfl, rfl⟩
    rw [← List.map_reverse] at hv
    obtain ⟨e', he', rfl⟩ := refs_at hv
    obtain ⟨r', hr', dx', n', a', b', s'', k', t', p', y', h1', h2'⟩ := paired_get hpr he'
    have hn' := h2'.name
    have ha' := h2'.above
    subst hn' ha'
    have ft := fold_take climb (1, r.above) hr'
    refine ⟨_, rfl, e', C, dx', _, _, rfl, s1 _ _ h1', T.cl, T.n1, rf_name, _, rfl, rfl, _, rfl, ite2 (fun c1 => ?_) (fun c1 => ?_)⟩
    · have e9 := V.str.inj (of_decide_eq_true c1)
      refine ⟨_, rfl, e', C, dx', _, _, rfl, s1 _ _ h1', T.cl, T.n2, rf_above, ?_⟩
      refine ⟨_, rfl, _, _, rfl, rfl, some (.ref e'), rfl, ?_⟩
      rw [ft, climb_yes e9]
      rfl
    · have e9 : ¬ r'.name = _ := fun z => c1 (decide_eq_true (by rw [z]))
      refine ⟨some (.ref e'), rfl, ?_⟩
      rw [ft, climb_no e9]
      rfl
  · rintro σ Hc ⟨x, rfl, rfl⟩
    refine ⟨_, rfl, ?_⟩
    have e5 : ((rs.take i).reverse.take ((as.take i).map V.ref).length) = (rs.take i).reverse := by
      rw [List.length_map, paired_len hp', ← List.length_reverse, List.take_length]
    rw [e5]
    exact q _ s1
theorem scAboveF : FnScope ["rooms", "at", "above", "room"] ["rooms", "at"] (defScope sAboveF) := ⟨rfl, rfl, rfl, by decide +kernel, rfl, by decide +kernel, by decide +kernel⟩
/-- above as point 7 has it -/
def aboveOk (rs : List Rm) (i : Nat) (r : Rm) : Prop := (i = 0 → r.above = "") ∧ (i ≠ 0 → r.above ∈ (rs.take i).map (·.name) ∧ floorOf rs i r.above ≤ 4)
def spAboveF (C : Addr) : Sp := fun vs H Q _ => ∃ (R : Addr) (i : Nat) (rs : List Rm) (r : Rm), vs = [.ref R, .int i] ∧ RsAt C H R rs ∧ rs.length ≤ 8 ∧ rs[i]? = some r ∧ aboveOk rs i r ∧ ∀ H', Same H H' → Q (.bl true) H'
theorem ok_abovef (T : RoomC K C) (F : Fun K "above_fits" "above_fits" sAboveF f fd) (GF : FnOk P w K mg base CX0 1 fl fld ["rooms", "at"] (spFloor C)) (bF : Binds K fld ["rooms", "at"] []) (kF : PySem.W.keepIn K (.ref fl) = true) (mF : mg "floor_of" = some (.ref fl))
    {t4 : Tok} (m4 : mg "MOST_FLOORS" = some (.int 4 t4)) : FnOk P w K mg base CX0 2 f fd ["rooms", "at"] (spAboveF C) := by
  refine F.ok scAboveF (fun vs H Q E h => ?_) (fun cdv A outer s H vs Q E hr h => ?_)
  · obtain ⟨R, i, rs, r, rfl, _⟩ := h
    rfl
  obtain ⟨R, i, rs, r, rfl, hRs, z8, hi, ok, q⟩ := h
  obtain ⟨as, hR, hp⟩ := id hRs
  have hl := paired_len hp
  have hs : sizeLine = 16777216 := sizeLine_eq
  have hlt : i < rs.length := (List.getElem?_eq_some_iff.mp hi).1
  obtain ⟨e, he, hx⟩ := paired_put hp hi
  obtain ⟨dx, n, a, b, s', k, t, p, y, h1, h2⟩ := id hx
  have ha := h2.above
  subst ha
  have hlr : (as.map V.ref).length = rs.length := by rw [List.length_map]; exact hl
  refine ⟨_, pss_cons (ps_set (i := 2) scAboveF.nd rfl (Or.inl rfl) (pe_fld (pe_ix ix_tup (pv 0) (pv 1) (fun _ _ => rfl)) rfl))
    (pss_cons (ps_if (pt_cmpR op_eq (pv 1) pe_int (nomark _)) (pss_one (ps_ret (pe_cmpR op_eq (pv 2) pe_str (nomark _)))) pss_nil)
    (pss_one (ps_ret (pe_and (pe_cmpR op_in_seq (pv 2) (pe_lc (own := [("room", 3)]) (g := gName 3) (tt := tYes) (te := tFld K (tVar 3) "name") rfl scAboveF.nd
            (pi_tup (pe_slice sl_tup (pv 0) po_none (po_some (pv 1)))) (blkOk_by (N := ["rooms", "at", "above", "room"]) (sc := defScope sAboveF) (by decide +kernel))
            (fun _ _ _ _ _ => pg_name (i := 3) scAboveF.nd rfl (Or.inl rfl)) (fun _ _ _ _ _ => pts_nil) (fun _ _ _ _ _ => pe_fld (pv 3) rfl)) (by rfl))
      (pe_one (pe_cmpR op_le (pe_call GF hr rfl mF kF bF .nil pass0 (pa_cons (pv 0) (pa_cons (pv 1) pa_nil))) (pe_glob (v := .int 4) rfl m4 ⟨_, rfl⟩) (nomark _))))))), ?_⟩
  refine ⟨_, rfl, _, rfl, R, _, i, _, rfl, rfl, SqT.of hR, atI_nat (j := i) (by rw [List.getElem?_map, he]; rfl), e, C, dx, _, _, rfl, h1, T.cl, T.n2, rf_above, ?_⟩
  refine ⟨_, rfl, rfl, _, rfl, ite2 (fun c1 => ?_) (fun c1 => ?_)⟩
  · have i0 : (i : Int) = 0 := V.int.inj (of_decide_eq_true c1)
    refine ⟨_, rfl, rfl, ?_⟩
    rw [ok.1 (by omega)]
    exact q _ same_refl
  have i0 : i ≠ 0 := fun z => c1 (decide_eq_true (by rw [z]; rfl))
  obtain ⟨o1, o2⟩ := ok.2 i0
  refine ⟨_, rfl, _, rfl, _, rfl, i, rfl, R, _, rfl, SqT.of hR, ?_, fun p2 hp2 => ⟨p2, rfl, ⟨_, SqT.of upd_same⟩, fun D hD => ?_⟩⟩
  · rw [HT.sIx_nat, hlr]
    intro z
    have := z.2
    omega
  rw [cut_to _ _ (by rw [hlr]; omega), ← List.map_take] at hD ⊢
  have s2 := same_new hp2 (.tup ((as.take i).map V.ref))
  have hp' := paired_take hp i
  refine turns_tup (K := K) (a := p2) (xs := (as.take i).map V.ref) ((rs.take i).map fun o => some (V.str o.name)) hD (fun Hc sm => SqT.of (sm _ _ upd_same)) (by rw [List.length_map, List.length_map]; exact (paired_len hp').symm) (by rw [List.length_map, List.length_take]; omega) ?_ ?_
  · intro j z o Hc Y N hz ho sm hY hN
    obtain ⟨e', he', rfl⟩ := refs_at hz
    obtain ⟨r', hr', dx', n', a', b', s'', k', t', p', y', h1', h2'⟩ := paired_get hp' he'
    rw [List.getElem?_map, hr'] at ho
    have hn' := h2'.name
    subst hn'
    exact ⟨rfl, _, rfl, e', C, dx', _, _, rfl, sm _ _ (s2 _ _ h1'), T.cl, T.n1, rf_name, hY _ (Option.some.inj ho).symm Hc same_refl⟩
  · intro Hc hc sm
    rw [fm_some (fun o : Rm => V.str o.name)] at hc
    have e3 : (rs.take i).map (fun o : Rm => V.str o.name) = ((rs.take i).map (·.name)).map V.str := by rw [List.map_map]; rfl
    rw [e3] at hc
    have s3 := s2.trans sm
    refine ⟨D, _, rfl, .inl (SqL.of hc), rfl, strs_flat _, true, congrArg V.bl (in_eq o1), itT rfl ?_⟩
    refine ⟨_, rfl, _, rfl, R, i, rs, r, rfl, hRs.keep s3, hi, fun H4 s4 => ⟨_, _, rfl, rfl, ?_⟩⟩
    show Q (.bl (decide ((floorOf rs i r.above : Int) ≤ 4))) H4
    rw [decide_eq_true (by omega)]
    exact q H4 (s3.trans s4)
end
end Any
namespace Any
open L2 PySem PySem.Spec PyProof.Rows LamX NdefX
theorem Gr.seq {T : List NTab} {K : PySem.W.Frag} {H H' : Hp} (g : Gr T H H') {a : Addr} {xs : List V} (h : SqL K H a xs) : SqL K H' a xs := by
  rcases h with (h | ⟨o, h⟩) | h
  · exact .inl (.inl (g.lst h))
  · exact .inl (.inr ⟨o, g.ext _ _ h fun _ z => by cases z⟩)
  · exact .inr h
theorem Bag.gr {T : List NTab} {H H' : Hp} {b : Addr} {n : Nat} (h : Bag H b n) (g : Gr T H H') : Bag H' b n := by
  obtain ⟨x, y, z, h1, h2⟩ := h
  exact ⟨x, y, z, g.lst h1, h2⟩
theorem tabs_kept {T : List NTab} {b : Addr} {H H' : Hp} {xs : List V} (t : TabsN T H) (hb : H b = some (.lst xs)) (k : Kept b H H') : TabsN T H' := fun p hp => by
  obtain ⟨ps, h1, h2, h3⟩ := t p hp
  refine ⟨ps, k _ _ (ne_of h1 hb (by intro z; cases z)) h1, h2, fun pos cv hc => ?_⟩
  obtain ⟨c, e1, e2⟩ := h3 pos cv hc
  exact ⟨c, e1, k _ _ (ne_of e2 hb (by unfold CodeO; intro z; cases z)) e2⟩
theorem gr_kept {T : List NTab} {b : Addr} {H0 H1 H2 : Hp} {m : Nat} (g : Gr T H0 H1) (n : H0 b = none) (B : Bag H1 b m) (k : Kept b H1 H2) : Gr T H0 H2 := by
  obtain ⟨xs, hb⟩ := B.lst
  refine ⟨fun a o h nt => k a o (ne_of_none h n) (g.ext a o h nt), fun c z => ?_, tabs_kept g.tabs hb k⟩
  by_cases e : c = b
  · rw [e]
    exact n
  · refine g.no c ?_
    cases q : H1 c with
    | none => rfl
    | some o => rw [k c o e q] at z; cases z
theorem gr_put {T : List NTab} {p : Addr} {H0 H1 : Hp} {xs ys : List V} (g : Gr T H0 H1) (n : H0 p = none) (h : H1 p = some (.lst xs)) : Gr T H0 (upd H1 p (.lst ys)) := by
  refine ⟨fun a o ha nt => ?_, fun c z => ?_, tabs_kept g.tabs h (Kept.put _)⟩
  · rw [upd_ne (ne_of_none ha n)]
    exact g.ext a o ha nt
  · by_cases e : c = p
    · rw [e]
      exact n
    · rw [upd_ne e] at z
      exact g.no c z
/-- as heaps grow, one object aside -/
structure Kg (T : List NTab) (b : Addr) (H H' : Hp) : Prop where
  ext : ∀ a o, a ≠ b → H a = some o → (∀ ps, o ≠ .tbl ps) → H' a = some o
  no : ∀ a, a ≠ b → H' a = none → H a = none
  tabs : TabsN T H'
section
variable {T : List NTab} {b : Addr} {H H1 H2 : Hp}
theorem tabs_keptO {o : HO} (t : TabsN T H) (hb : H b = some o) (n1 : ∀ ps, o ≠ .tbl ps) (n2 : ∀ c x, o ≠ CodeO c x) (k : Kept b H H1) : TabsN T H1 := fun p hp => by
  obtain ⟨ps, h1, h2, h3⟩ := t p hp
  refine ⟨ps, k _ _ (ne_of h1 hb (fun z => n1 _ z.symm)) h1, h2, fun pos cv hc => ?_⟩
  obtain ⟨c, e1, e2⟩ := h3 pos cv hc
  exact ⟨c, e1, k _ _ (ne_of e2 hb (fun z => n2 _ _ z.symm)) e2⟩
theorem kept_no (k : Kept b H H1) : ∀ a, a ≠ b → H1 a = none → H a = none := fun a n z => by
  cases q : H a with
  | none => rfl
  | some o => rw [k a o n q] at z; cases z
theorem Kg.of (g : Gr T H H1) : Kg T b H H1 := ⟨fun a o _ h n => g.ext a o h n, fun a _ z => g.no a z, g.tabs⟩
theorem Kg.refl (t : TabsN T H) : Kg T b H H := .of (.refl t)
theorem Kg.trans (k : Kg T b H H1) (g : Kg T b H1 H2) : Kg T b H H2 := ⟨fun a o n h m => g.ext a o n (k.ext a o n h m) m, fun a n z => k.no a n (g.no a n z), g.tabs⟩
theorem Kg.gr (k : Kg T b H H1) (g : Gr T H1 H2) : Kg T b H H2 := k.trans (.of g)
theorem Kg.same (k : Kg T b H H1) (s : Same H1 H2) : Kg T b H H2 := k.gr (.of k.tabs s)
theorem Kg.kept {m : Nat} (k : Kg T b H H1) (B : Bag H1 b m) (g : Kept b H1 H2) : Kg T b H H2 := by
  obtain ⟨xs, hb⟩ := B.lst
  exact k.trans ⟨fun a o n h _ => g a o n h, kept_no g, tabs_kept k.tabs hb g⟩
theorem Kg.lst (k : Kg T b H H1) {a : Addr} {xs : List V} (n : a ≠ b) (h : H a = some (.lst xs)) : H1 a = some (.lst xs) := k.ext _ _ n h fun _ z => by cases z
theorem Kg.dK (k : Kg T b H H1) {a : Addr} {xs : List (Key × V)} (n : a ≠ b) (h : H a = some (.dK xs)) : H1 a = some (.dK xs) := k.ext _ _ n h fun _ z => by cases z
theorem Bag.kgt {m : Nat} (B : Bag H b m) (k : Kg T b H H1) : Tups H H1 := fun a ts h => by
  obtain ⟨xs, hb⟩ := B.lst
  exact k.ext _ _ (ne_of h hb (by intro z; cases z)) h fun _ z => by cases z
theorem gr_kg {H0 : Hp} (g : Gr T H0 H1) (n : H0 b = none) (k : Kg T b H1 H2) : Gr T H0 H2 := by
  refine ⟨fun a o h nt => k.ext a o (ne_of_none h n) (g.ext a o h nt) nt, fun c z => ?_, k.tabs⟩
  by_cases e : c = b
  · rw [e]
    exact n
  · exact g.no c (k.no c e z)
theorem gr_keptO {H0 : Hp} {o : HO} (g : Gr T H0 H1) (n : H0 b = none) (hb : H1 b = some o) (n1 : ∀ ps, o ≠ .tbl ps) (n2 : ∀ c x, o ≠ CodeO c x) (k : Kept b H1 H2) : Gr T H0 H2 :=
  gr_kg g n ⟨fun a o m h _ => k a o m h, kept_no k, tabs_keptO g.tabs hb n1 n2 k⟩
end
theorem Gr.ins {T : List NTab} {H H' : Hp} (g : Gr T H H') {a C d : Addr} {fs : List (Str × V)} (h : H a = some (.ins C d fs)) : H' a = some (.ins C d fs) := g.ext _ _ h fun _ z => by cases z
theorem RmAt.gr {T : List NTab} {C : Addr} {H H' : Hp} (g : Gr T H H') {x : Addr} {r : Rm} (h : RmAt C H x r) : RmAt C H' x r := by
  obtain ⟨dx, n, a, b, s, q, t, p, y, h1, h2⟩ := h
  exact ⟨dx, n, a, b, s, q, t, p, y, g.ins h1, h2.keep g.tups⟩
theorem RsAt.gr {T : List NTab} {C : Addr} {H H' : Hp} (g : Gr T H H') {R : Addr} {rs : List Rm} (h : RsAt C H R rs) : RsAt C H' R rs := by
  obtain ⟨as, h1, h2⟩ := h
  exact ⟨as, g.tup h1, paired_imp (fun _ _ q => q.gr g) h2⟩
end Any
namespace Any
open L2 PySem PySem.Spec PyProof.Rows LamX NdefX
abbrev kwsW : List (Str × V) := [("asked", .int 0), ("told", .int 0)]
/-! ### a right one has its worth -/
theorem Ex.fit_good {xs ws : List Str} : ∀ {e : Ex}, e.fit xs ws → e.good xs
  | .num n, h => by
    have h : 0 ≤ n ∧ n ≤ 999 := h
    show 0 ≤ n ∧ n < 1024
    omega
  | .box x, h => h
  | .asked, _ => trivial
  | .told, _ => trivial
  | .op _ l r, h => ⟨Ex.fit_good h.1, Ex.fit_good h.2⟩
theorem Ts.fit_good {xs ws : List Str} : ∀ {e : Ts}, e.fit xs ws → e.dp ≤ 6 → e.good xs
  | .is l r, h, d => by
    have d : max l.deep r.deep + 1 ≤ 6 := d
    exact ⟨⟨Ex.fit_good h.1, by omega⟩, ⟨Ex.fit_good h.2, by omega⟩⟩
  | .bel l r, h, d => by
    have d : max l.deep r.deep + 1 ≤ 6 := d
    exact ⟨⟨Ex.fit_good h.1, by omega⟩, ⟨Ex.fit_good h.2, by omega⟩⟩
  | .nt t, h, d => by
    have d : t.dp + 1 ≤ 6 := d
    exact Ts.fit_good (e := t) h (by omega)
  | .both t u, h, d => by
    have d : max t.dp u.dp + 1 ≤ 6 := d
    exact ⟨Ts.fit_good h.1 (by omega), Ts.fit_good h.2 (by omega)⟩
  | .either t u, h, d => by
    have d : max t.dp u.dp + 1 ≤ 6 := d
    exact ⟨Ts.fit_good h.1 (by omega), Ts.fit_good h.2 (by omega)⟩
theorem Ts.deep_dp : ∀ e : Ts, e.deep ≤ e.dp
  | .is l r => by show 1 ≤ max l.deep r.deep + 1; omega
  | .bel l r => by show 1 ≤ max l.deep r.deep + 1; omega
  | .nt t => by have := t.deep_dp; show t.deep + 1 ≤ t.dp + 1; omega
  | .both t u => by have := t.deep_dp; have := u.deep_dp; show max t.deep u.deep + 1 ≤ max t.dp u.dp + 1; omega
  | .either t u => by have := t.deep_dp; have := u.deep_dp; show max t.deep u.deep + 1 ≤ max t.dp u.dp + 1; omega
/-- the firsts of a room's boxes -/
def Rm.firsts (r : Rm) : List (Str × Int) := r.boxes.map fun x => (x.1, x.2.2)
theorem firsts_look : ∀ {bs : List (Str × Int × Int)}, (∀ b ∈ bs, crateOk b) → ∀ x ∈ bs.map (·.1), ∃ n, look (bs.map fun b => (b.1, b.2.2)) x = some n ∧ 0 ≤ n ∧ n < 1024
  | [], _, x, h => by cases h
  | b :: bs, hb, x, h => by
    obtain ⟨_, ⟨_, h2⟩, h3, h4⟩ := hb b (List.mem_cons_self ..)
    unfold look
    rw [List.map_cons, List.find?_cons]
    by_cases e : b.1 = x
    · rw [decide_eq_true e]
      exact ⟨b.2.2, rfl, h3, by omega⟩
    · rw [decide_eq_false e]
      rcases List.mem_cons.mp h with z | z
      · exact absurd z.symm e
      · exact firsts_look (fun c hc => hb c (List.mem_cons_of_mem _ hc)) x z
theorem bx_new {kvs : List (Str × Int)} {x : Str} {n : Int} (h : x ∉ kvs.map (·.1)) : putK (bx kvs) (Sum.inr x) (.int n) = bx (kvs ++ [(x, n)]) := by
  rw [putK_new]
  · unfold bx
    rw [List.map_append]
    rfl
  · rw [bx_val]
    have : look kvs x = none := by
      unfold look
      rw [List.find?_eq_none.mpr fun p hp z => h (List.mem_map.mpr ⟨p, hp, of_decide_eq_true z⟩)]
      rfl
    rw [this]
    rfl
theorem nd_take {α : Type} : ∀ {l : List α} {i : Nat} {x : α}, l.Nodup → l[i]? = some x → x ∉ l.take i
  | [], i, x, _, h => by simp at h
  | y :: r, 0, x, _, _ => by intro m; cases m
  | y :: r, i + 1, x, nd, h => by
    rw [List.take_succ_cons]
    intro m
    have h' : r[i]? = some x := h
    obtain ⟨n1, n2⟩ := List.nodup_cons.mp nd
    rcases List.mem_cons.mp m with z | z
    · exact n1 (z ▸ List.mem_of_getElem? h')
    · exact nd_take n2 h' z
abbrev nmSy : List Str := ["room", "firsts", "name", "bound", "first", "saying"]
theorem scSaysF : FnScope nmSy ["room"] (defScope sSaysF) := ⟨rfl, rfl, rfl, by decide +kernel, rfl, by decide +kernel, by decide +kernel⟩
/-- the sayings as point 6 has them -/
def Rm.saysOk (r : Rm) : Prop := r.sayings.length ≤ 4 ∧ ∀ t ∈ r.sayings, t.right r.bn [] ∧ t.val r.firsts 0 0 = true
def Rm.boxesOk (r : Rm) : Prop := r.boxes.length ≤ 4 ∧ (∀ b ∈ r.boxes, crateOk b) ∧ r.bn.Nodup
def spSaysF (T : List NTab) (C : Addr) : Sp := fun vs H Q _ => ∃ x r, vs = [.ref x] ∧ RmAt C H x r ∧ r.boxesOk ∧ r.saysOk ∧ TabsN T H ∧ ∀ H', Gr T H H' → Q (.bl true) H'
section
variable {P : Program} {w : World} {K : PySem.W.Frag} {mg : Str → Option Value} {base : Heap} {f C it ho : Addr} {fd itd hod : FuncData} {T_ : List NTab}
theorem kh_plain (F : FunD K "holds" "holds" (defArgs sHolds) (defBody sHolds) (defScope sHolds) [] kwsW f fd) : ∃ ds, Vals [.int 0, .int 0] ds ∧ Binds K fd psH ds := by
  refine F.binds0 2 (by decide) rfl fun D doc pm an cdv ct us ks l1 l2 => ?_
  match us, ks, l1, l2 with
  | [u1, u2], [w1, w2], _, _ => exact ⟨_, _, _, _, _, _, rfl, rfl, _, _, _, _, _, _, rfl, rfl, rfl⟩
theorem ok_saysf (O : Own mg) (T : RoomC K C) (F : Fun K "sayings_fit" "sayings_fit" sSaysF f fd) {t4 : Tok} (m4 : mg "MOST_SAYINGS" = some (.int 4 t4))
    (IT : FnOk P w K mg base CX0 16 it itd ps3 spIsT) (bIT : Binds K itd ps3 []) (kIT : PySem.W.keepIn K (.ref it) = true) (mIT : mg "is_test" = some (.ref it))
    (W : FunD K "holds" "holds" (defArgs sHolds) (defBody sHolds) (defScope sHolds) [] kwsW ho hod) (GH : FnOk P w K mg base CX0 13 ho hod psH (spHolds T_ 5)) (mH : mg "holds" = some (.ref ho)) :
    FnOk P w K mg base CX0 17 f fd ["room"] (spSaysF T_ C) := by
  refine F.ok scSaysF (fun vs H Q E h => ?_) (fun cdv A outer s H vs Q E hr h => ?_)
  · obtain ⟨x, r, rfl, _⟩ := h
    rfl
  obtain ⟨x, r, rfl, hx, ⟨hz, hcr, hnd⟩, ⟨hy, hsy⟩, hT, q⟩ := h
  obtain ⟨dx, n, a, b, s', k, t, p, y, h1, h2⟩ := id hx
  obtain ⟨c, rfl, as, hc, hp⟩ := h2.boxes
  obtain ⟨d, rfl, us, hd, hu⟩ := h2.sayings
  obtain ⟨ds, hds, bH⟩ := kh_plain W
  have hr12 := hr.mono (show 13 ≤ 16 by decide)
  have hs : sizeLine = 16777216 := sizeLine_eq
  have hl := paired_len hp
  have hlu := paired_len hu
  refine ⟨_, pss_cons (ps_if (PW.pt (pw_or (pt_not (pt_val (pe_callB call_isi rfl O.isi (by decide +kernel) (pa_cons (pe_fld (pv 0) rfl) (pa_cons (pe_bltn (v := .ty "tuple") rfl O.tuple (by decide +kernel) rfl) pa_nil)))))
      (pw_or1 (pt_cmpR op_gt (pe_callB call_len_seq rfl O.len PySem.boot_len (pa_cons (pe_fld (pv 0) rfl) pa_nil)) (pe_glob (v := .int 4) rfl m4 ⟨_, rfl⟩) (nomark _))))) (pss_one (ps_ret pe_bl)) pss_nil)
    (pss_cons (ps_set (i := 1) scSaysF.nd rfl (Or.inr rfl) (pe_dc (own := [("name", 2), ("bound", 3), ("first", 4)]) (g := gTup K 3 (gCons (gName 2) (gCons (gName 3) (gCons (gName 4) gNil)))) (tt := tYes) rfl scSaysF.nd (pi_tup (pe_fld (pv 0) rfl)) (blkOk_by (N := nmSy) (sc := defScope sSaysF) (by decide +kernel))
        (fun _ _ _ _ _ => pg_tup rfl (pgs_cons (pg_name (i := 2) scSaysF.nd rfl (Or.inl rfl)) (pgs_cons (pg_name (i := 3) scSaysF.nd rfl (Or.inl rfl)) (pgs_cons (pg_name (i := 4) scSaysF.nd rfl (Or.inl rfl)) pgs_nil))))
        (fun _ _ _ _ _ => pts_nil) (fun _ _ _ _ _ => pv 2) (fun _ _ _ _ _ => pv 4)))
    (pss_cons (ps_if (pt_not (pt_val (pe_callB (cr_all rfl) rfl O.all (by decide +kernel) (pa_cons (pe_lc (own := [("saying", 5)]) (g := gName 5) (tt := tYes) rfl scSaysF.nd (pi_tup (pe_fld (pv 0) rfl)) (blkOk_by (N := nmSy) (sc := defScope sSaysF) (by decide +kernel))
        (fun _ _ _ _ _ => pg_name (i := 5) scSaysF.nd rfl (Or.inl rfl)) (fun _ _ _ _ _ => pts_nil)
        (fun _ _ _ _ _ => pe_call IT hr rfl mIT kIT bIT .nil pass0 (pa_cons (pv 5) (pa_cons (pe_callTy (call_listD rfl) rfl O.list (by decide +kernel) (pa_cons (pv 1) pa_nil)) (pa_cons (pe_tup pa_nil) pa_nil))))) pa_nil)))) (pss_one (ps_ret pe_bl)) pss_nil)
    (pss_one (ps_ret (pe_callB (cr_all rfl) rfl O.all (by decide +kernel) (pa_cons (pe_lc (own := [("saying", 5)]) (g := gName 5) (tt := tYes) rfl scSaysF.nd (pi_tup (pe_fld (pv 0) rfl)) (blkOk_by (N := nmSy) (sc := defScope sSaysF) (by decide +kernel))
        (fun _ _ _ _ _ => pg_name (i := 5) scSaysF.nd rfl (Or.inl rfl)) (fun _ _ _ _ _ => pts_nil)
        (fun _ _ _ _ _ => pe_call GH hr12 rfl mH W.kp bH hds pass0 (pa_cons (pv 5) (pa_cons (pv 1) pa_nil)))) pa_nil)))))), ?_⟩
  refine ⟨_, rfl, x, C, dx, _, _, rfl, h1, T.cl, T.n4, rf_sayings, _, _, _, _, true, rfl, .ty "tuple", .base (.tup hd), kb "tuple" "tuple" true, _, rfl, itF rfl ?_⟩
  refine ⟨_, rfl, x, C, dx, _, _, rfl, h1, T.cl, T.n4, rf_sayings, _, _, rfl, .inr (SqT.of hd), _, _, rfl, rfl, _, rfl, itF ?_ ?_⟩
  · exact decide_eq_false (by omega)
  refine ⟨_, rfl, x, C, dx, _, _, rfl, h1, T.cl, T.n3, rf_boxes, c, rfl, ⟨_, SqT.of hc⟩, fun D hD => ?_⟩
  refine dc_tup (K := K) (a := c) (xs := as.map V.ref) (fun i Hc => Hc D = some (.dK (bx (r.firsts.take i))) ∧ Same H Hc) ⟨upd_same, same_new hD _⟩ (fun i Hc _ z => SqT.of (z.2 _ _ hc)) ?_ ?_
  · rintro i v Hc hv ⟨hC, sm⟩
    obtain ⟨e, he, rfl⟩ := refs_at hv
    obtain ⟨z, hz2, hat⟩ := paired_get hp he
    refine ⟨e, _, rfl, SqT.of (sm _ _ hat), rfl, _, _, rfl, _, _, rfl, _, _, rfl, rfl, rfl, _, rfl, _, rfl, _, Sum.inr z.1, rfl, hC, ?_, ?_, fun b o hb => ?_⟩
    · unfold bx Rm.firsts
      rw [List.length_map, List.length_take, List.length_map]
      omega
    · have hf : r.firsts[i]? = some (z.1, z.2.2) := by
        unfold Rm.firsts
        rw [List.getElem?_map, hz2]
        rfl
      rw [upd_same, bx_new]
      · rw [List.take_add_one, hf]
        rfl
      · have eb : (r.firsts.take i).map (·.1) = r.bn.take i := by
          unfold Rm.firsts Rm.bn
          rw [← List.map_take, ← List.map_take, List.map_map]
          rfl
        rw [eb]
        refine nd_take hnd ?_
        unfold Rm.bn
        rw [List.getElem?_map, hz2]
        rfl
    · rw [upd_ne (ne_of_none hb hD)]
      exact sm _ _ hb
  · rintro Hc ⟨hC, sm⟩
    have e0 : r.firsts.take (as.map V.ref).length = r.firsts := by
      have : (as.map V.ref).length = r.firsts.length := by
        unfold Rm.firsts
        rw [List.length_map, List.length_map]
        exact hl
      rw [this, List.take_length]
    rw [e0] at hC
    have hN : (bx r.firsts).map (fun kv => kV kv.1) = r.bn.map V.str := by
      unfold bx Rm.firsts Rm.bn
      rw [List.map_map, List.map_map, List.map_map]
      rfl
    have hB : Bx r.firsts r.bn := ⟨firsts_look hcr⟩
    refine ⟨_, rfl, x, C, dx, _, _, rfl, sm _ _ h1, T.cl, T.n4, rf_sayings, d, rfl, ⟨_, SqT.of (sm _ _ hd)⟩, fun D2 hD2 => ?_⟩
    refine turns_tup (K := K) (a := d) (xs := us) (us.map fun _ => some (.bl true)) hD2 (fun Hc' sm' => SqT.of (sm' _ _ (sm _ _ hd))) (by rw [List.length_map]) (by omega) ?_ ?_
    · intro i z o Hc' Y N hz3 ho sm' hY hN2
      have eo : o = some (.bl true) := by
        rw [List.getElem?_map, hz3] at ho
        exact (Option.some.inj ho).symm
      obtain ⟨t1, ht1, hat⟩ := paired_get hu hz3
      obtain ⟨k1, k2⟩ := hsy t1 (List.mem_of_getElem? ht1)
      have s3 := sm.trans sm'
      refine ⟨rfl, _, rfl, _, rfl, D, _, rfl, .inl (sm' _ _ hC), fun l hl2 => ⟨by show 0 ≤ sizeLine; decide, fun wd hwd => ?_⟩⟩
      have s4 := (same_new hl2 (.lst ((bx r.firsts).map fun kv => kV kv.1))).trans (same_new hwd (.tup []))
      refine ⟨z, l, wd, t1, r.bn, [], rfl, hat.keep (Same.tups (s3.trans s4)), k1, .inl ?_, upd_same, fun H4 s5 => hY _ eo H4 (s4.trans s5)⟩
      rw [← hN]
      exact (same_new hwd _) _ _ upd_same
    · intro H2 hc2 sm2
      rw [fm_true] at hc2
      have s3 := sm.trans sm2
      refine ⟨D2, _, rfl, SqL.of hc2, _, rfl, itF ?_ ?_⟩
      · rw [List.all_map, show (us.all (id ∘ fun _ => true)) = true from List.all_eq_true.mpr fun _ _ => rfl]
        rfl
      refine ⟨_, rfl, x, C, dx, _, _, rfl, s3 _ _ h1, T.cl, T.n4, rf_sayings, d, rfl, ⟨_, SqT.of (s3 _ _ hd)⟩, fun D3 hD3 => ?_⟩
      have t3 : TabsN T_ H2 := hT.ext s3
      refine lc_tup (K := K) (a := d) (xs := us) (fun i Hc' => Hc' D3 = some (.lst ((List.replicate i true).map V.bl)) ∧ Gr T_ H2 Hc') ⟨upd_same, Gr.of t3 (same_new hD3 _)⟩ (fun i Hc' _ z => SqT.of (z.2.tup (s3 _ _ hd))) ?_ ?_
      · rintro i z Hc' hz3 ⟨hC3, gr⟩
        obtain ⟨t1, ht1, hat⟩ := paired_get hu hz3
        obtain ⟨k1, k2⟩ := hsy t1 (List.mem_of_getElem? ht1)
        have dd := t1.deep_dp
        have d5 := k1.2.1
        have hi3 : i < us.length := (List.getElem?_eq_some_iff.mp hz3).1
        refine ⟨rfl, _, rfl, _, rfl, z, D, t1, r.firsts, r.bn, 0, 0, rfl, (hat.keep (Same.tups s3)).keep gr.tups, by omega, Ts.fit_good k1.1 (by omega), hB, gr.dK (sm2 _ _ hC), ⟨by decide, by decide⟩, ⟨by decide, by decide⟩, gr.tabs, fun H4 g4 => ?_⟩
        rw [k2]
        refine ⟨_, g4.lst hC3, by rw [List.length_map, List.length_replicate]; omega, ?_, gr_put (gr.trans g4) hD3 (g4.lst hC3)⟩
        rw [upd_same, List.replicate_succ', List.map_append]
        rfl
      · rintro H3 ⟨hc3, gr⟩
        refine ⟨D3, _, rfl, SqL.of hc3, ?_⟩
        rw [show ((List.replicate us.length true).all id) = true from List.all_eq_true.mpr fun b hb => (List.eq_of_mem_replicate hb)]
        exact q H3 ((Gr.of hT s3).trans gr)
end
end Any
namespace Any
open L2 PySem PySem.Spec PyProof.Rows LamX NdefX
/-- a statement that is never come to -/
theorem ps_never {X : Cx} {st : Stmt} : PS X st (fun _ _ _ => False) := ⟨fun _ _ _ _ _ _ h => h.elim⟩
def spBoxesF : Sp := fun vs H Q _ => ∃ c bs, vs = [.ref c] ∧ CratesAt H c bs ∧ bs.length ≤ 4 ∧ (∀ b ∈ bs, crateOk b) ∧ (bs.map (·.1)).Nodup ∧ sortedS (bs.map (·.1)) = true ∧ ∀ H', Same H H' → Q (.bl true) H'
/-- a room as points 6 and 7 have it, at its place -/
structure roomOk (rs : List Rm) (i : Nat) (r : Rm) : Prop where
  name : Nm r.name
  one : r.name ∉ (rs.take i).map (·.name)
  above : aboveOk rs i r
  boxes : r.boxesOk
  asc : sortedS r.bn = true
  says : r.saysOk
  first : i = 0 → r.firstOk ∧ r.body.right r.bn [] (ben rs r.name)
  other : i ≠ 0 → r.otherOk ∧ r.body.right r.bn ["asked"] (ben rs r.name)
theorem scFault : FnScope ["rooms", "at", "room"] ["rooms", "at"] (defScope sFault) := ⟨rfl, rfl, rfl, by decide +kernel, rfl, by decide +kernel, by decide +kernel⟩
def spFault (T : List NTab) (C : Addr) : Sp := fun vs H Q _ => ∃ (R : Addr) (i : Nat) (rs : List Rm) (r : Rm), vs = [.ref R, .int i] ∧ RsAt C H R rs ∧ rs.length ≤ 8 ∧ rs[i]? = some r ∧ roomOk rs i r ∧ TabsN T H ∧ ∀ H', Gr T H H' → Q (.str "") H'
abbrev psRA : List Str := ["rooms", "at"]
section
variable {P : Program} {w : World} {K : PySem.W.Frag} {mg : Str → Option Value} {base : Heap} {f C g1 g2 g3 g4 g5 g6 g7 : Addr} {fd d1 d2 d3 d4 d5 d6 d7 : FuncData} {T_ : List NTab}
theorem no_str {H : Hp} : TruV K (.str "") H false := ⟨by decide, by decide⟩
theorem ok_fault (T : RoomC K C) (F : Fun K "fault_of" "fault_of" sFault f fd)
    (G1 : FnOk P w K mg base CX0 2 g1 d1 psRA (spNameF C)) (b1 : Binds K d1 psRA []) (k1 : PySem.W.keepIn K (.ref g1) = true) (m1 : mg "name_fits" = some (.ref g1))
    (G2 : FnOk P w K mg base CX0 2 g2 d2 psRA (spAboveF C)) (b2 : Binds K d2 psRA []) (k2 : PySem.W.keepIn K (.ref g2) = true) (m2 : mg "above_fits" = some (.ref g2))
    (G3 : FnOk P w K mg base CX0 4 g3 d3 ["boxes"] spBoxesF) (b3 : Binds K d3 ["boxes"] []) (k3 : PySem.W.keepIn K (.ref g3) = true) (m3 : mg "boxes_fit" = some (.ref g3))
    (G4 : FnOk P w K mg base CX0 17 g4 d4 ["room"] (spSaysF T_ C)) (b4 : Binds K d4 ["room"] []) (k4 : PySem.W.keepIn K (.ref g4) = true) (m4 : mg "sayings_fit" = some (.ref g4))
    (G5 : FnOk P w K mg base CX0 1 g5 d5 ["room"] (spFirstF C)) (b5 : Binds K d5 ["room"] []) (k5 : PySem.W.keepIn K (.ref g5) = true) (m5 : mg "first_fault" = some (.ref g5))
    (G6 : FnOk P w K mg base CX0 17 g6 d6 ["room"] (spOtherF C)) (b6 : Binds K d6 ["room"] []) (k6 : PySem.W.keepIn K (.ref g6) = true) (m6 : mg "other_fault" = some (.ref g6))
    (G7 : FnOk P w K mg base CX0 28 g7 d7 ["rooms", "at", "words"] (spBodyF C)) (b7 : Binds K d7 ["rooms", "at", "words"] []) (k7 : PySem.W.keepIn K (.ref g7) = true) (m7 : mg "body_fault" = some (.ref g7)) :
    FnOk P w K mg base CX0 29 f fd psRA (spFault T_ C) := by
  refine F.ok scFault (fun vs H Q E h => ?_) (fun cdv A outer s H vs Q E hr h => ?_)
  · obtain ⟨R, i, rs, r, rfl, _⟩ := h
    rfl
  obtain ⟨R, i, rs, r, rfl, hRs, z8, hi, ok, hT, q⟩ := h
  obtain ⟨as, hR, hp⟩ := id hRs
  obtain ⟨e, he, hx⟩ := paired_put hp hi
  obtain ⟨dx, n, a, b, s', k, t, p, y, h1, h2⟩ := id hx
  obtain ⟨c, rfl, hc⟩ := h2.boxes
  have hr2 := hr.mono (show 2 ≤ 28 by decide)
  have hr17 := hr.mono (show 17 ≤ 28 by decide)
  refine ⟨_, pss_cons (ps_set (i := 2) scFault.nd rfl (Or.inl rfl) (pe_ix ix_tup (pv 0) (pv 1) (fun _ _ => rfl)))
    (pss_cons (ps_if (pt_not (pt_val (pe_call G1 hr2 rfl m1 k1 b1 .nil pass0 (pa_cons (pv 0) (pa_cons (pv 1) pa_nil))))) (pss_one (ps_ret pe_str)) pss_nil)
    (pss_cons (ps_if (pt_not (pt_val (pe_call G2 hr2 rfl m2 k2 b2 .nil pass0 (pa_cons (pv 0) (pa_cons (pv 1) pa_nil))))) (pss_one (ps_ret pe_str)) pss_nil)
    (pss_cons (ps_if (pt_not (pt_val (pe_call G3 (hr.mono (by decide)) rfl m3 k3 b3 .nil pass0 (pa_cons (pe_fld (pv 2) rfl) pa_nil)))) (pss_one (ps_ret pe_str)) pss_nil)
    (pss_cons (ps_if (pt_not (pt_val (pe_call G4 hr17 rfl m4 k4 b4 .nil pass0 (pa_cons (pv 2) pa_nil)))) (pss_one (ps_ret pe_str)) pss_nil)
    (pss_cons (ps_if (pt_cmpR op_eq (pv 1) pe_int (nomark _)) (pss_one (ps_ret (pe_orT (pe_call G5 (hr.mono (by decide)) rfl m5 k5 b5 .nil pass0 (pa_cons (pv 2) pa_nil)) (pe_one (pe_call G7 hr rfl m7 k7 b7 .nil pass0 (pa_cons (pv 0) (pa_cons (pv 1) (pa_cons (pe_tup pa_nil) pa_nil)))))))) pss_nil)
    (pss_one (ps_ret (pe_orT (pe_call G6 hr17 rfl m6 k6 b6 .nil pass0 (pa_cons (pv 2) pa_nil)) (pe_one (pe_call G7 hr rfl m7 k7 b7 .nil pass0 (pa_cons (pv 0) (pa_cons (pv 1) (pa_cons (pe_tup (pa_cons pe_str pa_nil)) pa_nil))))))))))))), ?_⟩
  refine ⟨_, rfl, _, rfl, R, _, i, _, rfl, rfl, SqT.of hR, atI_nat (j := i) (by rw [List.getElem?_map, he]; rfl), ?_⟩
  refine ⟨_, rfl, _, rfl, R, i, rs, r, rfl, hRs, z8, hi, ok.name, ok.one, fun H1 s1 => ⟨_, rfl, itF rfl ?_⟩⟩
  refine ⟨_, rfl, _, rfl, R, i, rs, r, rfl, hRs.keep s1, z8, hi, ok.above, fun H2 s2 => ⟨_, rfl, itF rfl ?_⟩⟩
  have s2 := s1.trans s2
  refine ⟨_, rfl, e, C, dx, _, _, rfl, s2 _ _ h1, T.cl, T.n3, rf_boxes, c, r.boxes, rfl, hc.keep (Same.tups s2), ok.boxes.1, ok.boxes.2.1, ok.boxes.2.2, ok.asc, fun H3 s3 => ⟨_, rfl, itF rfl ?_⟩⟩
  have s3 := s2.trans s3
  refine ⟨_, rfl, e, r, rfl, hx.keep s3, ok.boxes, ok.says, hT.ext s3, fun H4 s4 => ⟨_, rfl, itF rfl ?_⟩⟩
  have s4 := (Gr.of hT s3).trans s4
  refine ⟨_, rfl, rfl, _, rfl, ite2 (fun c1 => ?_) (fun c1 => ?_)⟩
  · have i0 : (i : Int) = 0 := V.int.inj (of_decide_eq_true c1)
    obtain ⟨o1, o2⟩ := ok.first (by omega)
    refine ⟨_, rfl, e, r, rfl, hx.gr s4, o1, fun H5 s5 => ⟨false, no_str, itF rfl ?_⟩⟩
    have s5 := s4.same s5
    refine ⟨_, rfl, _, rfl, by show 0 ≤ sizeLine; decide, fun wd hwd => ?_⟩
    have s6 := s5.same (same_new hwd (.tup []))
    exact ⟨R, wd, i, rs, r, [], rfl, hRs.gr s6, z8, hi, ok.boxes.1, o2, upd_same, fun H7 s7 => q H7 (s6.same s7)⟩
  · have i0 : i ≠ 0 := fun z => c1 (decide_eq_true (by rw [z]; rfl))
    obtain ⟨o1, o2⟩ := ok.other i0
    refine ⟨_, rfl, e, r, rfl, hx.gr s4, ok.boxes.1, o1, fun H5 s5 => ⟨false, no_str, itF rfl ?_⟩⟩
    have s5 := s4.same s5
    refine ⟨_, rfl, _, rfl, by show 1 ≤ sizeLine; decide, fun wd hwd => ?_⟩
    have s6 := s5.same (same_new hwd (.tup [.str "asked"]))
    exact ⟨R, wd, i, rs, r, ["asked"], rfl, hRs.gr s6, z8, hi, ok.boxes.1, o2, upd_same, fun H7 s7 => q H7 (s6.same s7)⟩
end
/-! ### Program.__init__ -/
abbrev cProg : Stmt := top 65
abbrev sPInit : Stmt := inClass (top 65) 0
abbrev nmPI : List Str := ["self", "rooms", "at", "why"]
theorem scPInit : FnScope nmPI ["self", "rooms"] (defScope sPInit) := ⟨rfl, rfl, rfl, by decide +kernel, rfl, by decide +kernel, by decide +kernel⟩
structure ProgC (K : PySem.W.Frag) (D : Addr) : Prop where
  cl : Cls K D
  held : NoAttr K D "held"
  drawn : NoAttr K D "drawn"
/-- a right program -/
structure Right (rs : List Rm) : Prop where
  lo : 1 ≤ rs.length
  hi : rs.length ≤ 8
  all : ∀ i r, rs[i]? = some r → roomOk rs i r
def spPInit (T : List NTab) (C D : Addr) : Sp := fun vs H Q _ => ∃ (x dx R : Addr) (rs : List Rm), vs = [.ref x, .ref R] ∧ H x = some (.ins D dx []) ∧ RsAt C H R rs ∧ Right rs ∧ TabsN T H ∧
  ∀ p H', Kg T x H H' → H' x = some (.ins D dx [("held", .ref R), ("drawn", .ref p)]) → H' p = some (.tup []) → Q .non H'
theorem kg_ins {T : List NTab} {x D d : Addr} {H H1 : Hp} {fs gs : List (Str × V)} (g : Kg T x H H1) (hx : H1 x = some (.ins D d fs)) : Kg T x H (upd H1 x (.ins D d gs)) :=
  g.trans ⟨fun a o n h _ => by rw [upd_ne n]; exact h, fun a n z => by rw [upd_ne n] at z; exact z, tabs_keptO g.tabs hx (fun _ z => by cases z) (fun _ _ z => by unfold CodeO at z; cases z) (Kept.put _)⟩
section
variable {P : Program} {w : World} {K : PySem.W.Frag} {mg : Str → Option Value} {base : Heap} {f C D g1 g2 : Addr} {fd d1 d2 : FuncData} {T_ : List NTab}
theorem ok_pinit (O : Own mg) (mr : mg "range" = none) (TP : ProgC K D) (F : Fun K "__init__" "Program.__init__" sPInit f fd)
    (G1 : FnOk P w K mg base CX0 1 g1 d1 ["things"] (spRooms C)) (b1 : Binds K d1 ["things"] []) (k1 : PySem.W.keepIn K (.ref g1) = true) (m1 : mg "are_rooms" = some (.ref g1))
    (G2 : FnOk P w K mg base CX0 29 g2 d2 psRA (spFault T_ C)) (b2 : Binds K d2 psRA []) (k2 : PySem.W.keepIn K (.ref g2) = true) (m2 : mg "fault_of" = some (.ref g2)) :
    FnOk P w K mg base CX0 30 f fd ["self", "rooms"] (spPInit T_ C D) := by
  refine F.ok scPInit (fun vs H Q E h => ?_) (fun cdv A outer s H vs Q E hr h => ?_)
  · obtain ⟨x, dx, R, rs, rfl, _⟩ := h
    rfl
  obtain ⟨x, dx, R, rs, rfl, hx, hRs, ok, hT, q⟩ := h
  have hlo := ok.lo
  have hhi := ok.hi
  refine ⟨_, pss_cons (ps_if (pt_not (pt_val (pe_call G1 (hr.mono (by decide)) rfl m1 k1 b1 .nil pass0 (pa_cons (pv 1) pa_nil)))) (pss_one ps_never) pss_nil)
    (pss_cons (ps_for PassesOwn.never rfl (pi_range1 rfl mr (pa_cons (pe_callB call_len_seq rfl O.len PySem.boot_len (pa_cons (pv 1) pa_nil)) pa_nil)) (pg_name (i := 2) scPInit.nd rfl (Or.inl rfl))
      (pss_cons (ps_set (i := 3) scPInit.nd rfl (Or.inl rfl) (pe_call G2 hr rfl m2 k2 b2 .nil pass0 (pa_cons (pv 1) (pa_cons (pv 2) pa_nil))))
      (pss_one (ps_if (pt_cmpR op_ne (pv 3) pe_str (nomark _)) (pss_one ps_never) pss_nil))))
    (pss_cons (ps_fld (pv 0) (pv 1) rfl) (pss_one (ps_fld (pv 0) (pe_tup pa_nil) rfl)))), ?_⟩
  refine ⟨_, rfl, R, rs, rfl, hRs, hlo, hhi, fun H1 s1 => ⟨_, rfl, itF rfl ?_⟩⟩
  obtain ⟨as, hR, hp⟩ := hRs.keep s1
  have hl := paired_len hp
  have hlr : (as.map V.ref).length = rs.length := by rw [List.length_map]; exact hl
  refine ⟨_, rfl, R, _, rfl, .inr (SqT.of hR), _, rfl, by omega, by omega, ?_⟩
  refine for_range (lo := 0) (fun i σ Hc => ∃ y z, σ = [some (.ref x), some (.ref R), y, z] ∧ Gr T_ H Hc) ⟨_, _, rfl, Gr.of hT s1⟩ ?_ ?_
  · rintro i σ Hc hi ⟨y, z, rfl, sm⟩
    have hi' : i < rs.length := by omega
    obtain ⟨r, hir⟩ : ∃ r, rs[i]? = some r := ⟨rs[i], List.getElem?_eq_getElem hi'⟩
    refine ⟨_, rfl, _, rfl, R, i, rs, r, (by rw [Int.zero_add]; rfl), hRs.gr sm, hhi, hir, ok.all i r hir, sm.tabs, fun H2 s2 => ⟨_, rfl, rfl, _, rfl, itF ?_ ⟨_, _, rfl, sm.trans s2⟩⟩⟩
    rw [decide_eq_true rfl]
    rfl
  · rintro σ Hc ⟨y, z, rfl, sm⟩
    refine ⟨_, rfl, _, rfl, x, D, dx, [], rfl, sm.ins hx, TP.cl, TP.held, (by show 0 < 1000; decide), ?_⟩
    have e1 : upd Hc x (.ins D dx (putF "held" (.ref R) [])) x = some (.ins D dx [("held", .ref R)]) := upd_same
    have g1 : Kg T_ x H (upd Hc x (.ins D dx (putF "held" (.ref R) []))) := kg_ins (.of sm) (sm.ins hx)
    generalize upd Hc x (.ins D dx (putF "held" (.ref R) [])) = H5 at *
    refine ⟨by show 0 ≤ sizeLine; decide, fun p hp => ?_⟩
    have s6 := same_new hp (.tup [])
    refine ⟨_, rfl, x, D, dx, [("held", .ref R)], rfl, s6 _ _ e1, TP.cl, TP.drawn, (by show 1 < 1000; decide), ?_⟩
    have ef : putF "drawn" (.ref p) ([("held", .ref R)] : List (Str × V)) = ([("held", .ref R), ("drawn", .ref p)] : List (Str × V)) := by simp (decide := true) [putF]
    rw [ef]
    refine q p _ (kg_ins (g1.same s6) (s6 _ _ e1)) upd_same ?_
    rw [upd_ne (ne_of (o := .tup []) upd_same (s6 _ _ e1) (by intro z; cases z))]
    exact upd_same
end
end Any
namespace Any
open L2 PySem PySem.Spec PyProof.Rows LamX NdefX
/-! ### sets of texts -/
def keyT (e : Int × Value) : Str := match e.2 with
  | .str k _ => k
  | _ => ""
def GoodT (P : Program) (w : World) (e : Int × Value) : Prop := ∃ k u, e.2 = Value.str k u ∧ e.1 = (PySem.strKind P w).hash k
/-- the set of these texts at a: it can be walked -/
def SetX (P : Program) (w : World) (h : Heap) (a : Addr) (l : List Str) : Prop :=
  ∃ (o : Obj) (es : Array (Int × Value)) (ep : Nat) (t : SetTable), (h.get? a = some o ∧ o.ExactSet ∧ o.data = .set es ep t) ∧ ((∀ e ∈ es.toList, GoodT P w e) ∧ (es.toList.map keyT).Perm l) ∧
    (es.size < scanBound ∧ t.fits es.size = true) ∧ (Ris t.place.toList ∧ (w.params.followText "set-order" = true ∨ t.led = true))
section
variable {P : Program} {w : World} {A : Around} {E : Value → Shared → Prop} {s : Shared} {a : Addr} {l : List Str} {h h' : Heap}
theorem SetX.at (R : SetX P w h a l) (k : ∀ o, h.get? a = some o → h'.get? a = some o) : SetX P w h' a l := by
  obtain ⟨o, es, ep, t, ⟨h1, h2⟩, r⟩ := R
  exact ⟨o, es, ep, t, ⟨k o h1, h2⟩, r⟩
theorem goodT_elems {es : List (Int × Value)} (g : ∀ e ∈ es, GoodT P w e) : ElemsOf (PySem.strKind P w) es := by
  intro e he
  obtain ⟨k, u, q1, q2⟩ := g e he
  exact ⟨⟨k, by rw [q1]; exact strKind_is P w k u, q2⟩, by rw [q1] <;> rfl⟩
theorem goodT_is {e : Int × Value} (g : GoodT P w e) {k : Str} (q : (PySem.strKind P w).is k e.2 = true) : keyT e = k := by
  obtain ⟨k0, u, q1, _⟩ := g
  rw [q1] at q
  obtain ⟨u', z⟩ := Value.isStrOf_shape (show Value.isStrOf k (Value.str k0 u) = true from q)
  unfold keyT
  rw [q1]
  injection z
/-- the end of adding a new one -/
theorem addX_tail {g : Bool → Sem Unit} (hg : ∀ (b : Bool) (s1 : Shared) (Q1 : Unit → Shared → Prop), Q1 () s1 → wpAny (model P w) A (g b) Q1 E s1) {o : Obj} {es es1 : Array (Int × Value)} {ep : Nat} {t t2 : SetTable}
    (ho : s.heap.get? a = some o) (hex : o.ExactSet) (hd : o.data = .set es ep t) (gd : ∀ e ∈ es1.toList, GoodT P w e) (pm0 : (es1.toList.map keyT).Perm l) (hb : es1.size < scanBound) (hf : t2.fits es1.size = true)
    (hr : Ris t2.place.toList) (hl : w.params.followText "set-order" = true ∨ t2.led = true) {wasDummy : Bool} {R : Option Bool → Shared → Prop} (hR : ∀ h', Heap.SameBut a s.heap h' → SetX P w h' a l → R (some true) { s with heap := h' }) :
    wpAny (model P w) A (storeSet a es1 t2 >>= fun _ => if (!wasDummy && t2.tooFull) = true then (g (relayAll t2 es1 (SetTable.grown es1.size)).2.2 >>= fun _ =>
        storeSet a (relayAll t2 es1 (SetTable.grown es1.size)).1 (relayAll t2 es1 (SetTable.grown es1.size)).2.1 >>= fun _ => pure (some true)) else pure (some true)) R E s := by
  refine wpAny_bind (wpAny_storeSet_of ho hd ?_ (fits_of_scanBound hb))
  have st1 := store_at (es' := es1) (t' := t2) ho hd
  have sb := Heap.SameBut.update s.heap a (Obj.putSet es1 t2)
  split
  · have p1 := relayAll_perm t2 es1 (SetTable.grown es1.size)
    have p2 := relayAll_fits t2 es1 (SetTable.grown es1.size)
    have p3 := relayAll_ris t2 es1 (SetTable.grown es1.size)
    have p4 := relayAll_led t2 es1 (SetTable.grown es1.size)
    generalize relayAll t2 es1 (SetTable.grown es1.size) = Z at p1 p2 p3 p4 ⊢
    obtain ⟨es2, t3, gv⟩ := Z
    dsimp only at p1 p2 p3 p4 ⊢
    have sz : es2.size = es1.size := by
      have := p1.length_eq
      rw [Array.length_toList, Array.length_toList] at this
      exact this
    have hb2 : es2.size < scanBound := by omega
    refine wpAny_bind (hg _ _ _ (wpAny_bind (wpAny_storeSet_of st1 rfl ?_ (fits_of_scanBound hb2))))
    refine wpAny_pure (hR _ (sb.trans (Heap.SameBut.update _ a _)) ?_)
    exact ⟨_, es2, _, t3, ⟨store_at (es' := es2) (t' := t3) st1 rfl, hex, rfl⟩, ⟨fun e he => gd e (p1.mem_iff.mp he), (p1.map keyT).trans pm0⟩, ⟨hb2, p2⟩, p3, hl.imp id fun z => by rw [p4]; exact z⟩
  · exact wpAny_pure (hR _ sb ⟨_, es1, _, t2, ⟨st1, hex, rfl⟩, ⟨gd, pm0⟩, ⟨hb, hf⟩, hr, hl⟩)
theorem addX {k : Str} {u : Tok} {Q : Bool → Shared → Prop} (R : SetX P w s.heap a l) (hk : k ∉ l) (room : l.length + 1 < scanBound) (hQ : ∀ h', Heap.SameBut a s.heap h' → SetX P w h' a (k :: l) → Q true { s with heap := h' }) :
    wpAny (model P w) A (setAddHashed a (.str k u) ((PySem.strKind P w).hash k)) Q E s := by
  obtain ⟨o, es, ep, t, ⟨ho, hex, hd⟩, ⟨gd, pm0⟩, ⟨hb, hf⟩, hr, hl⟩ := R
  have isk : (PySem.strKind P w).is k (.str k u) = true := strKind_is P w k u
  have scn : (Value.str k u).scannable = true := rfl
  have elm := goodT_elems gd
  unfold setAddHashed setAddHashedIn
  refine wpAny_holding (wpAny_bind (wpAny_setState_of ho hd hf ?_))
  dsimp only
  rw [byScan_of scn hb elm]
  simp only [↓reduceIte]
  unfold setAddByScan
  refine wpAny_bind (wpAny_bind (wpAny_rule (wpAny_bind (wpAny_setScan_of isk ho hd hf elm ?_))))
  cases hfi : List.findIdx? (fun e => (PySem.strKind P w).is k e.2) es.toList with
  | some j =>
    obtain ⟨hj, pj, _⟩ := List.findIdx?_eq_some_iff_getElem.mp hfi
    have mm : es.toList[j] ∈ es.toList := List.getElem_mem hj
    exact absurd (pm0.mem_iff.mp (List.mem_map.mpr ⟨_, mm, goodT_is (gd _ mm) pj⟩)) hk
  | none =>
    dsimp only
    have p1 := layNew_perm t es ((PySem.strKind P w).hash k) (.str k u)
    have p2 := layNew_fits t es ((PySem.strKind P w).hash k) (.str k u)
    have p3 := layNew_ris t es ((PySem.strKind P w).hash k) (.str k u) hr
    have p4 := layNew_led t es ((PySem.strKind P w).hash k) (.str k u)
    generalize layNew t es ((PySem.strKind P w).hash k) (.str k u) = Z at p1 p2 p3 p4 ⊢
    obtain ⟨es1, t1, wd, gv⟩ := Z
    dsimp only at p1 p2 p3 p4 ⊢
    rw [Array.toList_push] at p1
    have pc := p1.trans (List.perm_append_singleton _ _)
    have pk : (es1.toList.map keyT).Perm (k :: l) := (pc.map keyT).trans (pm0.cons k)
    have gd1 : ∀ e ∈ es1.toList, GoodT P w e := fun e he => (List.mem_cons.mp (pc.mem_iff.mp he)).elim (fun z => z ▸ ⟨k, u, rfl, rfl⟩) (gd e)
    have sz : es1.size = l.length + 1 := by
      have := pk.length_eq
      rw [List.length_map, Array.length_toList, List.length_cons] at this
      exact this
    have hb1 : es1.size < scanBound := by omega
    have led1 : w.params.followText "set-order" = true ∨ t1.led = true := hl.imp id fun z => by rw [p4]; exact z
    have gw : ∀ (b : Bool) {s1 : Shared} {Q1 : Unit → Shared → Prop}, Q1 () s1 → wpAny (model P w) A (match b with | true => rule "set.scan.the-table-gave-way" | false => pure ()) Q1 E s1 := by
      intro b s1 Q1 q
      cases b <;> first | exact wpAny_pure q | exact wpAny_rule q
    refine wpAny_bind (gw _ ?_)
    split
    · refine wpAny_bind ?_
      rw [hashByValue_scannable 8 scn]
      refine wpAny_pure ?_
      refine addX_tail ?_ ho hex hd gd1 pk hb1 ?_ ?_ ?_ ?_
      · intro b s1 Q1 q
        cases b <;> first | exact wpAny_pure q | exact wpAny_rule q
      · first | (split <;> first | exact p2 | exact SetTable.fits_plain_off p2) | exact p2
      · first | (split <;> exact p3) | exact p3
      · first | (split <;> exact led1) | exact led1
      · intro h' sb r
        dsimp only
        exact wpAny_pure (hQ h' sb r)
    · refine wpAny_bind (wpAny_pure ?_)
      simp only [↓reduceIte]
      refine addX_tail ?_ ho hex hd gd1 pk hb1 p2 p3 led1 ?_
      · intro b s1 Q1 q
        cases b <;> first | exact wpAny_pure q | exact wpAny_rule q
      · intro h' sb r
        dsimp only
        exact wpAny_pure (hQ h' sb r)
end
end Any
namespace Any
open L2 PySem PySem.Spec PyProof.Rows LamX NdefX
section
variable {P : Program} {w : World} {A : Around} {E : Value → Shared → Prop} {s : Shared}
theorem take_rev {xs : List Str} {i : Nat} {k : Str} (h : xs[i]? = some k) : k :: (xs.take i).reverse = (xs.take (i + 1)).reverse := by
  rw [List.take_add_one, h, List.reverse_append]
  rfl
/-- set.update's loop over unlike texts -/
theorem loopX {I : Addr} {fp wr : List Addr} {G : Array GenState → Array GenState → Prop} {n : Nat} {Pv : Nat → Value → Prop} {St : Nat → Shared → Prop} {R : Result → Shared → Prop} (W : WalksS P w A.in1 I fp wr G n Pv St)
    (S : Addr) (off : S ∉ fp) (xs : List Str) (hn : n = xs.length) (nd : xs.Nodup) (few : xs.length + 1 < scanBound) (hv : ∀ i v, Pv i v → ∃ k u, xs[i]? = some k ∧ v = .str k u) :
    ∀ (m i : Nat) (s : Shared), n - i = m → i ≤ n → St i s → SetX P w s.heap S (xs.take i).reverse → (∀ s', Moved (S :: wr) G s s' → SetX P w s'.heap S xs.reverse → R (.ok (.ret .none)) s') →
      codeAny (model P w) A (.builtin "set.update.loop" ⟨[.ref S, .ref I], []⟩) R s := by
  have offw : S ∉ wr := fun z => off (W.sub _ z)
  have more : ∀ b ∈ wr, b ∈ S :: wr := fun b z => List.mem_cons_of_mem _ z
  intro m
  induction m with
  | zero =>
    intro i s em hi st hS hR
    obtain rfl : i = n := by omega
    refine codeAny_builtin F.entry_set_update_loop ?_
    rw [Around.under_plainId F.plain_set_update_loop _]
    show wpAny _ A.in1 (pyNext (.ref I) >>= _) _ _ s
    refine wpAny_bind (W.done s _ _ st fun s1 mv => ?_)
    rw [hn, List.take_length] at hS
    exact wpAny_pure (hR s1 (mv.mono more) (hS.at fun o e => mv.heap S o offw e))
  | succ m ih =>
    intro i s em hi st hS hR
    have lt : i < n := by omega
    refine codeAny_builtin F.entry_set_update_loop ?_
    rw [Around.under_plainId F.plain_set_update_loop _]
    show wpAny _ A.in1 (pyNext (.ref I) >>= _) _ _ s
    refine wpAny_bind (W.item i s _ _ lt st fun v s1 hP st1 mv => ?_)
    obtain ⟨k, u, hk, rfl⟩ := hv i v hP
    have hS1 : SetX P w s1.heap S (xs.take i).reverse := hS.at fun o e => mv.heap S o offw e
    show wpAny _ A.in1 (holding [Value.str k u] (setAdd S (.str k u)) >>= _) _ _ s1
    refine wpAny_bind (wpAny_holding ?_)
    unfold setAdd
    refine wpAny_holding (wpAny_bind ((PySem.strKind P w).pyHash (k := k) (strKind_is P w k u) ?_))
    have nk : k ∉ (xs.take i).reverse := fun z => nd_take nd hk (List.mem_reverse.mp z)
    refine addX (s := { s1 with toks := s1.toks + 1 }) hS1 nk (by rw [List.length_reverse, List.length_take]; omega) fun h2 sb hS2 => ?_
    rw [take_rev hk] at hS2
    refine wpAny_pure ⟨plainId_quiet F.plain_set_update_loop _, ih (i + 1) _ (by omega) lt (W.frame _ s1 _ _ st1 (Nat.le_succ _) fun b hb o e => ?_) hS2 fun s3 mv3 hS3 => ?_⟩
    · exact (sb.2 b (fun z : b = S => off (z ▸ hb))).trans e
    · refine hR s3 (Moved.trans W.gtrans ((mv.mono more).then_heap (Nat.le_succ _) fun b o hb e => ?_) mv3) hS3
      exact (sb.2 b (fun z : b = S => hb (by rw [z]; exact List.mem_cons_self))).trans e
theorem strs_get : ∀ {xs : List Str} {us : List Value}, Vals (xs.map V.str) us → ∀ {i : Nat} {v : Value}, us[i]? = some v → ∃ k u, xs[i]? = some k ∧ v = .str k u
  | [], _, .nil, i, v, h => by simp at h
  | x :: xs, _, .cons r t, 0, v, h => by
    cases h
    obtain ⟨u, q⟩ := r
    exact ⟨x, u, rfl, q⟩
  | x :: xs, _, .cons r t, i + 1, v, h => strs_get t (i := i) h
abbrev newS (w : World) : Obj := { cls := .type "set", dict := none, data := .set #[] 0 (.fresh 0 0 (!w.params.followText "set-order")) }
theorem setX_new {h : Heap} {a : Addr} (hg : h.get? a = some (newS w)) : SetX P w h a [] := by
  refine ⟨_, #[], 0, _, ⟨hg, ⟨rfl, rfl, rfl⟩, rfl⟩, ⟨fun e he => by simp at he, .nil⟩, ⟨by decide, rfl⟩, List.Pairwise.nil, ?_⟩
  show _ ∨ (!w.params.followText "set-order") = true
  cases w.params.followText "set-order"
  · exact .inr rfl
  · exact .inl rfl
set_option maxHeartbeats 3200000 in
/-- set(xs), xs a list of unlike texts -/
theorem call_setX {l : Addr} {its : Array Value} (xs : List Str) {Q : Value → Shared → Prop} (hh : A.handled = none) (hl : s.heap.IsList l its) (hv : Vals (xs.map V.str) its.toList) (nd : xs.Nodup) (few : xs.length + 1 < scanBound)
    (k : ∀ (h' : Heap) (tk : Nat), SetX P w h' s.heap.objs.size xs.reverse → (∀ b o, s.heap.get? b = some o → h'.get? b = some o) → Q (.ref s.heap.objs.size) { s with heap := h', toks := tk }) :
    wpAny (model P w) A (call (.type "set") [.ref l]) Q E s := by
  have sz : its.size = xs.length := by
    have := hv.length
    rw [List.length_map, Array.length_toList] at this
    exact this.symm
  obtain ⟨c, tl, mro⟩ := F.called_set.mro
  have mad := F.called_set.made
  have sub := F.called_set.sub
  refine wpAny_call (codeAny_of_tree ?_)
  show wpAny _ _ (callAny (.type "set") _) _ _ _
  refine wpAny_pure ⟨Code.quiet_builtin _ (by decide +kernel), codeAny_builtin F.entry_type_call ?_⟩
  rw [Around.under_plain (weight_type_call_type "set" [.ref l] []) rfl]
  have nt := F.called_set.notType
  have cc := F.called_set.canCreate
  have ct := F.typeCall_set_1 (.ref l)
  repeat (any_goals (first | assumption | wp_step))
  refine codeAny_mono (code_set_led1 (.ref l) (E := E) (Q₁ := fun ob s1 => ob = .ref s.heap.objs.size ∧ s1 = { s with heap := s.heap.push (newS w) }) ⟨rfl, rfl⟩) fun r s1 hr => ?_
  cases r with
  | error e => exact hr
  | ok fl =>
    cases fl with
    | ret ob =>
      obtain ⟨rfl, rfl⟩ := hr
      have gS : (s.heap.push (newS w)).get? s.heap.objs.size = some (newS w) := Heap.get?_push_size _ rfl
      have tS : Shared.TypeIs { s with heap := s.heap.push (newS w) } (.ref s.heap.objs.size) "set" := ⟨_, gS, rfl⟩
      have il := F.called_set.init.lookup
      have ib := F.called_set.init.bind (.ref s.heap.objs.size)
      repeat (any_goals (first | assumption | wp_step))
      refine codeAny_mono (codeAny_call_builtin (R := wants (fun r s2 => r = .none ∧ ∃ h' tk, s2 = { s with heap := h', toks := tk } ∧ SetX P w h' s.heap.objs.size xs.reverse ∧
          (∀ b o, s.heap.get? b = some o → h'.get? b = some o)) E) F.called_set.init.plain F.entry_set_init (check_set_init_1 tS ?_)) fun r2 s2 hr2 => ?_
      · obtain ⟨ol, hol, hcl, nl, hdl⟩ := hl
        obtain ⟨oc, od, oda, os⟩ := ol
        simp only at hcl hdl
        subst hcl hdl
        have hol1 : (s.heap.push (newS w)).get? l = some { cls := .type "list", dict := od, data := .seq its nl, slots := os } := Heap.get?_push_of_some _ hol
        have n1 := F.sub_list_set
        have n2 := F.sub_list_frozenset
        have n3 : (Value.type "list" == Value.type "dict") = false := by decide
        have l1 : (s.heap.push (newS w)).IsList l its := ⟨_, hol1, rfl, nl, rfl⟩
        unfold Builtin.«set.__init__» noKeywords Builtin.Frozenset.updateFrom
        generalize hPI : pyIter = PI
        wp_walk
        subst hPI
        refine wpAny_pyIter_list l1 (wpAny_bind (wpAny_runValue ?_))
        have lS : l < s.heap.objs.size := Heap.lt_size hol
        have h3 : A.in1.in1.in1.handled = none := by simp [hh]
        have lI : l ≠ (s.heap.push (newS w)).objs.size := by
          rw [Heap.size_push]
          exact Nat.ne_of_lt (Nat.lt_succ_of_lt lS)
        have off : s.heap.objs.size ∉ [(s.heap.push (newS w)).objs.size, l] := by
          rw [Heap.size_push]
          simp only [List.mem_cons, List.mem_singleton, List.not_mem_nil, or_false, not_or]
          exact ⟨Nat.ne_of_lt (Nat.lt_succ_self _), Nat.ne_of_gt lS⟩
        have val : ∀ (i : Nat) (v : Value), its[i]? = some v → ∃ k u, xs[i]? = some k ∧ v = .str k u := fun i v e => strs_get hv (by rw [Array.getElem?_toList]; exact e)
        refine loopX ((Walks.list h3 _ l lI its).toS) s.heap.objs.size off xs sz nd few val (its.size - 0) 0 _ (by omega) (Nat.zero_le _) ⟨⟨_, Heap.get?_push_size _ rfl, rfl, rfl⟩, (l1.push _)⟩ ?hS ?hR
        case hS => exact setX_new (Heap.get?_push_of_some _ gS)
        case hR =>
          intro s3 mv hS3
          obtain ⟨h3', g3, d3, tk3, os3⟩ := s3
          have e1 : g3 = s.gens := mv.gens
          have e2 : d3 = s.drawn := mv.drawn
          have e3 : os3 = s.os := mv.os
          subst e1 e2 e3
          show wpAny _ _ _ _ _ _
          refine wpAny_pure ?_
          show wpAny _ _ (ret Value.none) _ _ _
          refine wpAny_pure ⟨rfl, h3', tk3, rfl, hS3, fun b o e => ?_⟩
          have lb : b < s.heap.objs.size := Heap.lt_size e
          refine mv.heap b o ?_ (Heap.get?_push_of_some _ (Heap.get?_push_of_some _ e))
          simp only [List.mem_cons, List.mem_singleton, List.not_mem_nil, or_false, not_or]
          refine ⟨Nat.ne_of_lt lb, ?_⟩
          rw [Heap.size_push]
          exact Nat.ne_of_lt (Nat.lt_succ_of_lt lb)
      · cases r2 with
        | error e => exact hr2
        | ok fl2 =>
          cases fl2 with
          | ret r =>
            obtain ⟨rfl, h', tk, rfl, hS3, kp⟩ := hr2
            repeat (any_goals (first | assumption | wp_step))
            exact k _ _ hS3 kp
          | _ => exact hr2.elim
    | _ => exact hr.elim
end
end Any
set_option maxHeartbeats 2000000
namespace Any
open L2 PySem PySem.Spec PyProof.Rows LamX NdefX
section
variable {P : Program} {w : World} {A : Around} {E : Value → Shared → Prop} {s : Shared} {a : Addr} {l : List Str}
/-- values that are texts, and which -/
theorem strsAre_of : ∀ (vs : List Value), (∀ v ∈ vs, ∃ k u, v = Value.str k u) → ∃ ks : List Str, StrsAre vs ks ∧ vs.map (fun v => keyT (0, v)) = ks
  | [], _ => ⟨[], .nil, rfl⟩
  | v :: vs, h => by
    obtain ⟨k, u, rfl⟩ := h v List.mem_cons_self
    obtain ⟨ks, h1, h2⟩ := strsAre_of vs fun x hx => h x (List.mem_cons_of_mem _ hx)
    exact ⟨k :: ks, .cons k u h1, by rw [List.map_cons, h2]; rfl⟩
/-- sorted(set of texts) -/
theorem sortedX {Q : Value → Shared → Prop} (R : SetX P w s.heap a l) (hh : A.handled = none) (h64 : l.length < 64)
    (hQ : ∀ s1 p (out : Array Value) (c : Nat) (ys : List Str), (∀ b o, s.heap.get? b = some o → s1.heap.get? b = some o) → s1.gens = s.gens → s1.os = s.os → s.heap.objs.size ≤ p →
      s1.heap.get? p = some (seqObj "list" out c) → StrsAre out.toList ys → ys.Perm l → sortedS ys = true → Q (.ref p) s1) : wpAny (model P w) A (call (.builtin "sorted") [.ref a]) Q E s := by
  obtain ⟨o, es, ep, t, ⟨ho, hex, hd⟩, ⟨gd, pm0⟩, ⟨hb, hf⟩, hr, hl⟩ := R
  refine Calls.call_function_entry kind_sorted plain_sorted entry_sorted (args_sorted1 _) ?_
  unfold Builtin.«sorted»
  refine wpAny_bind (m := checkCount "sorted" 1 1 _) (wpAny_pure ?_)
  refine wpAny_bind (collect_set (A := A.in1) hh ⟨o, ho, hex.1, hd⟩ hf hb hr hl fun s1 vs kp sz gs os pm => ?_)
  obtain ⟨ks, hS, ek⟩ := strsAre_of vs fun v hv => by
    obtain ⟨e, he, q⟩ := List.mem_map.mp (pm.mem_iff.mp hv)
    obtain ⟨k, u, q1, _⟩ := gd e he
    exact ⟨k, u, by rw [← q]; exact q1⟩
  have pk : ks.Perm l := by
    rw [← ek]
    refine ((pm.map fun v => keyT (0, v)).trans ?_).trans pm0
    rw [List.map_map]
    exact List.Perm.of_eq rfl
  have vl : vs.length = l.length := by
    rw [← pk.length_eq, ← ek, List.length_map]
  refine wpAny_bind (wpAny_newList ?_ (by rw [vl, sizeLine_eq]; omega))
  have gL : (s1.heap.push (seqObj "list" vs.toArray 0)).get? s1.heap.objs.size = some (seqObj "list" vs.toArray 0) := Heap.get?_push_size _ rfl
  refine wpAny_bind (wpAny_holding (wpAny_call_entry slot_list_sort ⟨_, gL, rfl⟩ entry_list_sort
    (list_sort_treeK strKind_oneLt gL hS.keysOf (fun v1 v2 rest e => keyKind_strs (by rw [← e]; exact hS)) (by rw [vl]; exact h64) fun st hp hs => ⟨_, rfl, ?_⟩) (args_list_sort _)))
  obtain ⟨ys, g1, g2, g3⟩ := sorted_out_str hS hp hs
  obtain ⟨c, hc⟩ := sortedHeap_at (vs := vs) (out := (arrOf st).map (·.2)) gL
  refine wpAny_pure ⟨_, rfl, hQ _ s1.heap.objs.size _ c ys (fun b u e => ?_) gs os sz hc g1 (g2.trans pk) g3⟩
  have q := kp b u e
  have lt := Heap.lt_size q
  refine (sortedHeap_old (Nat.ne_of_lt lt) (by rw [size_push']; exact Nat.lt_succ_of_lt lt)).trans ?_
  exact Heap.get?_push_of_some _ q
end
/-- a set of texts, as the abstract heap has it -/
def SetXO (P : Program) (w : World) (a : Addr) (l : List Str) : HO := .ext fun h => SetX P w h a l
section
variable {X : Cx}
theorem setXO_ok {P : Program} {w : World} {H : Hp} {h : Heap} {a : Addr} {l : List Str} (R : SetX P w h a l) : ObjOk P w H h a (SetXO P w a l) := by
  have R2 := R
  obtain ⟨o, es, ep, t, ⟨h1, _⟩, _⟩ := R2
  exact ⟨R, ⟨o, h1⟩, fun h2 h3 p k => SetX.at p k⟩
theorem cr_setX (hc : X.calm = true) : CallR X (.type "set") (fun vs H Q => ∃ (a : Addr) (xs : List Str), vs = [.ref a] ∧ SqL X.K H a (xs.map V.str) ∧ xs.Nodup ∧ xs.length < 64 ∧ ∀ p, H p = none → Q (.ref p) (upd H p (SetXO X.prog X.w p xs.reverse))) := by
  intro pins s σ H vs us Q I r h
  obtain ⟨a, xs, rfl, hs, nd, few, q⟩ := h
  rw [Vals.ref1 r]
  obtain ⟨its, rv, pl, _⟩ := I.list hs
  refine call_setX (P := X.prog) (w := X.w) xs (I.ok.hd hc) pl.isList (by simpa using rv) nd (by unfold scanBound; omega) fun h' tk R kp => ?_
  exact ⟨.ref s.heap.objs.size, _, I.laid (t' := tk) kp (Nat.le_refl _) (setXO_ok R), rfl, q _ (I.hok.fresh (Nat.le_refl _))⟩
theorem cr_sortedX (hc : X.calm = true) : CallR X (.builtin "sorted") (fun vs H Q => ∃ (a : Addr) (l : List Str), vs = [.ref a] ∧ H a = some (SetXO X.prog X.w a l) ∧ l.length < 64 ∧ ∀ (ys : List Str) (p : Addr), ys.Perm l → sortedS ys = true → H p = none → Q (.ref p) (upd H p (.lst (ys.map V.str)))) := by
  intro pins s σ H vs us Q I r h
  obtain ⟨a, l, rfl, ha, few, q⟩ := h
  have R : SetX X.prog X.w s.heap a l := (I.hok a _ ha).1
  rw [Vals.ref1 r]
  refine sortedX R (I.ok.hd hc) few fun s1 p out c ys kp gs os hp hg hout pm srt => ?_
  have hlen : (ys.map V.str).length ≤ sizeLine := by rw [List.length_map, pm.length_eq, sizeLine_eq]; omega
  have hn : H p = none := I.hok.fresh hp
  have J : Inv X pins σ (upd H p (.lst (ys.map V.str))) { s with heap := s1.heap, gens := s1.gens, drawn := s1.drawn, toks := s1.toks } :=
    I.call (ch := []) (Un.laid kp hp hn) (I.hok.laid kp hp ⟨hlen, out.toList, c, vals_of_strs hout, hg⟩) (by rw [gs]; exact I.bare) (fun _ z => nomatch z)
  have e : s1 = { s with heap := s1.heap, gens := s1.gens, drawn := s1.drawn, toks := s1.toks } := by
    obtain ⟨_, _, _, _, _⟩ := s1
    obtain ⟨_, _, _, _, _⟩ := s
    cases os
    rfl
  rw [e]
  exact ⟨.ref p, _, J, rfl, q ys p pm srt hn⟩
end
end Any
namespace Any
open L2 PySem PySem.Spec PyProof.Rows LamX NdefX
/-! ### sorted rows of the same things are the same -/
theorem uniq {α : Type} {le : α → α → Prop} (anti : ∀ x y, le x y → le y x → x = y) : ∀ {l1 l2 : List α}, l1.Pairwise le → l2.Pairwise le → l1.Perm l2 → l1 = l2
  | [], l2, _, _, p => (List.nil_perm.mp p).symm ▸ rfl
  | x :: r, [], _, _, p => by have := p.length_eq; simp at this
  | x :: r, y :: t, h1, h2, p => by
    obtain ⟨a1, a2⟩ := List.pairwise_cons.mp h1
    obtain ⟨b1, b2⟩ := List.pairwise_cons.mp h2
    have e : x = y := by
      rcases List.mem_cons.mp (p.mem_iff.mp (List.mem_cons_self (a := x))) with z | z
      · exact z
      · rcases List.mem_cons.mp (p.mem_iff.mpr (List.mem_cons_self (a := y))) with z2 | z2
        · exact z2.symm
        · exact anti x y (a1 y z2) (b1 x z)
    subst e
    rw [uniq anti a2 b2 (List.perm_cons x |>.mp p)]
def leS (x y : Str) : Prop := x.cps.toList ≤ y.cps.toList
theorem rising_pw : ∀ (l : List Str) (p : Str), risingS p l = true → (p :: l).Pairwise leS
  | [], p, _ => by simp
  | x :: r, p, h => by
    have h : (!ltCps x.cps.toList p.cps.toList && risingS x r) = true := h
    rw [Bool.and_eq_true, Bool.not_eq_true', ltCps_eq] at h
    have px : leS p x := List.not_lt.mp (of_decide_eq_false h.1)
    have ih := rising_pw r x h.2
    refine List.pairwise_cons.mpr ⟨fun y hy => ?_, ih⟩
    rcases List.mem_cons.mp hy with z | z
    · rw [z]; exact px
    · exact List.le_trans px ((List.pairwise_cons.mp ih).1 y z)
theorem sorted_pw : ∀ {l : List Str}, sortedS l = true → l.Pairwise leS
  | [], _ => .nil
  | x :: r, h => rising_pw r x h
theorem leS_anti (x y : Str) (h : leS x y) (g : leS y x) : x = y := by
  have e := List.le_antisymm h g
  obtain ⟨⟨a⟩⟩ := x
  obtain ⟨⟨b⟩⟩ := y
  cases e
  rfl
theorem sorted_uniq {xs ys : List Str} (h : sortedS xs = true) (g : sortedS ys = true) (p : ys.Perm xs) : ys = xs := uniq leS_anti (sorted_pw g) (sorted_pw h) p
theorem scBoxesF : FnScope ["boxes", "names", "box"] ["boxes"] (defScope sBoxesF) := ⟨rfl, rfl, rfl, by decide +kernel, rfl, by decide +kernel, by decide +kernel⟩
theorem eq_strs {K : PySem.W.Frag} {H : Hp} : ∀ xs : List Str, Paired (EqV K H 1) (xs.map V.str) (xs.map V.str)
  | [] => .nil
  | x :: r => .cons (.inl ⟨rfl, rfl⟩) (eq_strs r)
section
variable {P : Program} {w : World} {K : PySem.W.Frag} {mg : Str → Option Value} {base : Heap} {f bf : Addr} {fd bfd : FuncData}
theorem ok_boxesf (O : Own mg) (mset : mg "set" = none) (msrt : mg "sorted" = none) (F : Fun K "boxes_fit" "boxes_fit" sBoxesF f fd) {t4 : Tok} (m4 : mg "MOST_BOXES" = some (.int 4 t4))
    (G : FnOk P w K mg base CX0 3 bf bfd ["box"] spBoxF) (bG : Binds K bfd ["box"] []) (kG : PySem.W.keepIn K (.ref bf) = true) (mG : mg "box_fits" = some (.ref bf)) : FnOk P w K mg base CX0 4 f fd ["boxes"] spBoxesF := by
  refine F.ok scBoxesF (fun vs H Q E h => ?_) (fun cdv A outer s H vs Q E hr h => ?_)
  · obtain ⟨c, bs, rfl, _⟩ := h
    rfl
  obtain ⟨c, bs, rfl, ⟨as, hc, hp⟩, hz, hcr, hnd, hso, q⟩ := h
  have hl := paired_len hp
  have hs : sizeLine = 16777216 := sizeLine_eq
  have hlr : (as.map V.ref).length = bs.length := by rw [List.length_map]; exact hl
  refine ⟨_, pss_cons (ps_if (PW.pt (pw_or (pt_not (pt_val (pe_callB call_isi rfl O.isi (by decide +kernel) (pa_cons (pv 0) (pa_cons (pe_bltn (v := .ty "tuple") rfl O.tuple (by decide +kernel) rfl) pa_nil)))))
      (pw_or1 (pt_cmpR op_gt (pe_callB call_len_seq rfl O.len PySem.boot_len (pa_cons (pv 0) pa_nil)) (pe_glob (v := .int 4) rfl m4 ⟨_, rfl⟩) (nomark _))))) (pss_one (ps_ret pe_bl)) pss_nil)
    (pss_cons (ps_if (pt_not (pt_val (pe_callB (cr_all rfl) rfl O.all (by decide +kernel) (pa_cons (pe_lc (own := [("box", 2)]) (g := gName 2) (tt := tYes) rfl scBoxesF.nd (pi_tup (pv 0)) (blkOk_by (N := ["boxes", "names", "box"]) (sc := defScope sBoxesF) (by decide +kernel))
        (fun _ _ _ _ _ => pg_name (i := 2) scBoxesF.nd rfl (Or.inl rfl)) (fun _ _ _ _ _ => pts_nil) (fun _ _ _ _ _ => pe_call G hr rfl mG kG bG .nil pass0 (pa_cons (pv 2) pa_nil))) pa_nil)))) (pss_one (ps_ret pe_bl)) pss_nil)
    (pss_cons (ps_setLc (i := 1) (own := [("box", 2)]) (g := gName 2) (tt := tYes) (by rfl) scBoxesF.nd rfl rfl (sw_true rfl rfl rfl (by decide +kernel)) (pi_tup (pv 0)) (blkOk_by (N := ["boxes", "names", "box"]) (sc := defScope sBoxesF) (by decide +kernel))
        (fun _ _ _ _ _ => pg_name (i := 2) scBoxesF.nd rfl (Or.inl rfl)) (fun _ _ _ _ _ => pts_nil) (fun _ _ _ _ _ => pe_ix (show IxR _ (rIxT K) from ix_tup) (pv 2) pe_int (fun _ _ => rfl)))
    (pss_one (ps_ret (pe_cmpR (op_eqV hr.units) (pv 1) (pe_callB (cr_sortedX rfl) rfl msrt (by decide +kernel) (pa_cons (pe_callTy (cr_setX rfl) rfl mset (by decide +kernel) (pa_cons (pv 1) pa_nil)) pa_nil)) (nomark _)))))), ?_⟩
  refine ⟨_, rfl, _, _, _, _, true, rfl, .ty "tuple", .base (.tup hc), kb "tuple" "tuple" true, _, rfl, itF rfl ?_⟩
  refine ⟨_, rfl, _, _, rfl, .inr (SqT.of hc), _, _, rfl, rfl, _, rfl, itF ?_ ?_⟩
  · exact decide_eq_false (by omega)
  refine ⟨_, rfl, c, rfl, ⟨_, SqT.of hc⟩, fun D hD => ?_⟩
  refine turns_tup (K := K) (a := c) (xs := as.map V.ref) ((as.map V.ref).map fun _ => some (.bl true)) hD (fun Hc sm => SqT.of (sm _ _ hc)) (by rw [List.length_map]) (by omega) ?_ ?_
  · intro i z o Hc Y N hz2 ho sm hY hN
    have eo : o = some (.bl true) := by
      rw [List.getElem?_map, hz2] at ho
      exact (Option.some.inj ho).symm
    obtain ⟨e, he, rfl⟩ := refs_at hz2
    obtain ⟨b, hb, hat⟩ := paired_get hp he
    exact ⟨rfl, _, rfl, e, b, rfl, sm _ _ hat, hcr b (List.mem_of_getElem? hb), fun H4 s4 => hY _ eo H4 s4⟩
  · intro H1 hc1 s1
    rw [fm_true] at hc1
    refine ⟨D, _, rfl, SqL.of hc1, _, rfl, itF ?_ ?_⟩
    · rw [List.all_map, show ((as.map V.ref).all (id ∘ fun _ => true)) = true from List.all_eq_true.mpr fun _ _ => rfl]
      rfl
    refine ⟨_, rfl, c, rfl, ⟨_, SqT.of (s1 _ _ hc)⟩, fun D2 hD2 => ?_⟩
    refine turns_tup (K := K) (a := c) (xs := as.map V.ref) (bs.map fun b => some (V.str b.1)) hD2 (fun Hc sm => SqT.of (sm _ _ (s1 _ _ hc))) (by rw [List.length_map]; exact hlr.symm) (by omega) ?_ ?_
    · intro i z o Hc Y N hz2 ho sm hY hN
      obtain ⟨e, he, rfl⟩ := refs_at hz2
      obtain ⟨b, hb, hat⟩ := paired_get hp he
      rw [List.getElem?_map, hb] at ho
      exact ⟨rfl, _, rfl, _, _, _, _, rfl, rfl, SqT.of (sm _ _ (s1 _ _ hat)), atI_nat (j := 0) rfl, hY _ (Option.some.inj ho).symm Hc same_refl⟩
    · intro H2 hc2 s2
      rw [fm_some (fun b : Str × Int × Int => V.str b.1)] at hc2
      have e3 : bs.map (fun b : Str × Int × Int => V.str b.1) = (bs.map (·.1)).map V.str := by rw [List.map_map]; rfl
      rw [e3] at hc2
      have s3 := s1.trans s2
      refine ⟨_, rfl, _, rfl, D2, bs.map (·.1), rfl, SqL.of hc2, hnd, by rw [List.length_map]; omega, fun p2 hp2 => ?_⟩
      refine ⟨p2, (bs.map (·.1)).reverse, rfl, upd_same, by rw [List.length_reverse, List.length_map]; omega, fun ys p3 pm srt hp3 => ?_⟩
      have ey : ys = bs.map (·.1) := sorted_uniq hso srt (pm.trans (List.reverse_perm _))
      subst ey
      have s4 := Same.trans (same_new hp2 _) (same_new hp3 (.lst ((bs.map fun b : Str × Int × Int => b.1).map V.str)))
      exact ⟨1, by decide, .inl ⟨D2, p3, _, _, rfl, rfl, SqL.of (s4 _ _ hc2), SqL.of upd_same, eq_strs _⟩, q _ (s3.trans s4)⟩
end
end Any
set_option maxHeartbeats 4000000
namespace Any
open L2 PySem PySem.Spec PyProof.Rows
/-! ### own exceptions straight over one of Python's own classes -/
/-- what is asked of that class: its name, how it is made, how it is begun, its mro -/
structure Over (B nw ini : String) (T : List Value) : Prop where
  facts : PySem.ExcBaseFacts B nw ini T
  pass : ∀ self, refuseLoop self "__setattr__" T = pure ()
  obj : T.contains (.type "object") = true
abbrev tLookup : List Value := [.type "LookupError", .type "Exception", .type "BaseException", .type "object"]
abbrev tRuntime : List Value := [.type "RuntimeError", .type "Exception", .type "BaseException", .type "object"]
abbrev tValue : List Value := [.type "ValueError", .type "Exception", .type "BaseException", .type "object"]
theorem over_lookup : Over "LookupError" "LookupError.__new__" "LookupError.__init__" tLookup := ⟨PySem.F.excBase_LookupError, fun self => by kernel_rfl, by decide +kernel⟩
theorem over_runtime : Over "RuntimeError" "RuntimeError.__new__" "RuntimeError.__init__" tRuntime := ⟨PySem.F.excBase_RuntimeError, fun self => by kernel_rfl, by decide +kernel⟩
theorem over_value : Over "ValueError" "ValueError.__new__" "ValueError.__init__" tValue := ⟨PySem.F.excBase_ValueError, fun self => by kernel_rfl, by decide +kernel⟩
section
open Builtin Builtin.ObjectAttr
variable {pr : Program} {wo : World} {Ar : Around} {R : Result → Shared → Prop} {h : Heap} {gs : Array GenState} {dr : Drawn} {n : Nat} {os : OsState} {K : PySem.W.Frag} {y : Str} {u : Tok} {v : Value} {e C dx : Addr} {vs : Array Value} {cd : ClassData} {B nw ini : String} {T : List Value} {m : Str → Option Value} {ys : List Str}
theorem Over.ne (O : Over B nw ini T) (z : Value) : (z :: T).isEmpty = false := rfl
theorem oset_first (O : Over B nw ini T) (X : K.In h) (he : h.get? e = some { cls := .ref C, data := .fields vs }) (hc : PySem.W.clsIn K C = some cd) (hm : cd.mro = .ref C :: T) (hd : cd.hasDict = true) (hn : PySem.W.findIn K (.ref C) y = some none)
    (q : ∀ h' u' dx, (∀ b o, b ≠ e → h.get? b = some o → h'.get? b = some o) → h.objs.size ≤ dx → dx ≠ e → h'.get? e = some { cls := .ref C, dict := some dx, data := .fields vs } →
      h'.Ns1 dx (fun z => if z = y then some v else none) → R (.ok (.ret .none)) ⟨h', gs, dr, u', os⟩) :
    codeAny (model pr wo) Ar (.call (.builtin "object.__setattr__") ⟨[.ref e, .str y u, v], []⟩) R ⟨h, gs, dr, n, os⟩ := by
  have J : PySem.W.InstAt h e { cls := .ref C, data := .fields vs } C none := ⟨he, rfl, rfl, trivial⟩
  have S := PySem.F.store_object
  have isO : (.ref C :: T : List Value).contains (.type "object") = true := by rw [List.contains_cons, O.obj, Bool.or_true]
  have apart : e ≠ h.objs.size := Nat.ne_of_lt (Heap.lt_size he)
  have sb : PySem.W.Looks (model pr wo) h (isInstance (.ref e) (.type "object")) true :=
    J.type.andThen (PySem.W.looks_mroIn X (by unfold PySem.W.mroIn; rw [hc, Option.bind_some, hm, if_neg (by rw [O.ne]; decide), isO]))
  refine codeAny_call_builtin S.slot.plain S.entry (@PySem.W.check_slot (model pr wo) _ _ ⟨h, gs, dr, n, os⟩ "object.__setattr__" "object" "__setattr__" (.ref e) [.str y u, v] [] _ S.kind S.split sb (S.args (.ref e) (.str y u) v) ?_)
  have lm : PySem.W.Looks (model pr wo) h (mroOf (.ref C)) cd.mro := (PySem.W.looks_clsIn X hc).andThen .now
  have ls : PySem.W.Looks (model pr wo) h (storeTaker? none) none := .now
  have lc : PySem.W.Looks (model pr wo) h (classData C) cd := PySem.W.looks_clsIn X hc
  rw [PySem.W.osa_eq, refuse_eq]
  refine wpAny_bind (wpAny_bind (J.type.at (wpAny_bind (lm.at ?_))))
  rw [hm, refuseLoop_ref, O.pass]
  refine wpAny_pure (wpAny_bind (J.type.at (wpAny_bind ((PySem.W.looks_findIn X hn).at (wpAny_bind (ls.at ?_))))))
  show wpAny _ _ (storeInOwnDict (.ref e) (.ref C) (.str y u) y v false) _ _ _
  obtain ⟨_, _, _, _, _, hd', _, _, _, _, _⟩ := cd
  dsimp only at hd
  subst hd
  unfold storeInOwnDict ownDictForStores
  repeat (first
    | with_reducible refine PySem.HandSPX.store_in_new ?_ ?_
    | with_reducible refine wpAny_loadPart_at he ?_
    | with_reducible refine lc.at ?_
    | wp_step)
  · exact ⟨_, #[], _, (Heap.get?_update_ne _ _ _ _ apart.symm).trans (Heap.get?_push_at rfl rfl), rfl, fun z hz => absurd hz (by simp), fun _ => rfl⟩
  · intro h' u' hn' hs
    have he2 : (h.push { cls := .type "dict", data := .dict #[] }).get? e = some { cls := .ref C, data := .fields vs } := Heap.get?_push_of_some _ he
    refine q h' u' h.objs.size (fun b o hb ho => ?_) (Nat.le_refl _) apart.symm ?_ hn'
    · exact (hs.2 b (Nat.ne_of_lt (Heap.lt_size ho))).trans ((Heap.get?_update_ne _ _ _ _ hb).trans (Heap.get?_push_of_some _ ho))
    · exact (hs.2 e apart).trans (Heap.get?_update_self _ he2 rfl)
theorem oset_next (O : Over B nw ini T) (X : K.In h) (he : h.get? e = some { cls := .ref C, dict := some dx, data := .fields vs }) (hx : h.Ns1 dx m) (hw : Within m ys) (hz : ys.length ≤ 1000) (hc : PySem.W.clsIn K C = some cd) (hm : cd.mro = .ref C :: T) (hd : cd.hasDict = true)
    (hn : PySem.W.findIn K (.ref C) y = some none) (q : ∀ h' u', (∀ b o, b ≠ dx → h.get? b = some o → h'.get? b = some o) → h'.Ns1 dx (fun z => if z = y then some v else m z) → R (.ok (.ret .none)) ⟨h', gs, dr, u', os⟩) :
    codeAny (model pr wo) Ar (.call (.builtin "object.__setattr__") ⟨[.ref e, .str y u, v], []⟩) R ⟨h, gs, dr, n, os⟩ := by
  obtain ⟨oD, _, _, hoD, _, _⟩ := hx.count hw
  have J : PySem.W.InstAt h e { cls := .ref C, dict := some dx, data := .fields vs } C (some oD) := ⟨he, rfl, rfl, hoD⟩
  have S := PySem.F.store_object
  have isO : (.ref C :: T : List Value).contains (.type "object") = true := by rw [List.contains_cons, O.obj, Bool.or_true]
  have sb : PySem.W.Looks (model pr wo) h (isInstance (.ref e) (.type "object")) true :=
    J.type.andThen (PySem.W.looks_mroIn X (by unfold PySem.W.mroIn; rw [hc, Option.bind_some, hm, if_neg (by rw [O.ne]; decide), isO]))
  refine codeAny_call_builtin S.slot.plain S.entry (@PySem.W.check_slot (model pr wo) _ _ ⟨h, gs, dr, n, os⟩ "object.__setattr__" "object" "__setattr__" (.ref e) [.str y u, v] [] _ S.kind S.split sb (S.args (.ref e) (.str y u) v) ?_)
  have lm : PySem.W.Looks (model pr wo) h (mroOf (.ref C)) cd.mro := (PySem.W.looks_clsIn X hc).andThen .now
  have ls : PySem.W.Looks (model pr wo) h (storeTaker? none) none := .now
  have lc : PySem.W.Looks (model pr wo) h (classData C) cd := PySem.W.looks_clsIn X hc
  rw [PySem.W.osa_eq, refuse_eq]
  refine wpAny_bind (wpAny_bind (J.type.at (wpAny_bind (lm.at ?_))))
  rw [hm, refuseLoop_ref, O.pass]
  refine wpAny_pure (wpAny_bind (J.type.at (wpAny_bind ((PySem.W.looks_findIn X hn).at (wpAny_bind (ls.at ?_))))))
  show wpAny _ _ (storeInOwnDict (.ref e) (.ref C) (.str y u) y v false) _ _ _
  obtain ⟨_, _, _, _, _, hd', _, _, _, _, _⟩ := cd
  dsimp only at hd
  subst hd
  unfold storeInOwnDict ownDictForStores
  repeat (first
    | with_reducible refine PySem.OEX.store_in_old hx hw hz ?_
    | with_reducible refine wpAny_loadPart_at he ?_
    | with_reducible refine lc.at ?_
    | wp_step)
  intro h' u' hn' hs
  exact q h' u' (fun b o hb ho => (hs.2 b hb).trans ho) hn'
end
/-- what the written part says of an own exception's class -/
structure OxC (K : PySem.W.Frag) (C : Addr) (B nw ini : String) (T : List Value) : Prop where
  over : Over B nw ini T
  cls : ∃ nm q N bs sn sub ab col dd k0 k1 k2 k3 k5, K.lookup C = some (excClassObj nm q C N bs T true sn sub ab col dd k0 k1 k2 k3 k5 nw)
  sa : PySem.W.findIn K (.ref C) "__setattr__" = some (some (.builtin "object.__setattr__"))
  exC : PySem.W.subIn K (.ref C) (.type "BaseException") = some true
  tyC : PySem.W.typeIn K (.ref C) = some (.type "type")
  kC : PySem.W.keepIn K (.ref C) = true
section
variable {K : PySem.W.Frag} {C : Addr} {B nw ini : String} {T : List Value}
theorem OxC.data (Z : OxC K C B nw ini T) : ∃ cd, PySem.W.clsIn K C = some cd ∧ cd.mro = .ref C :: T ∧ cd.hasDict = true := by
  obtain ⟨nm, q, N, bs, sn, sub, ab, col, dd, k0, k1, k2, k3, k5, hC⟩ := Z.cls
  refine ⟨{ name := nm, bases := bs, mro := .ref C :: T, ns := N, qualname := q, hasDict := true, slotNames := sn, subclasses := sub, abstract := ab, collection := col, hasDel := false }, ?_, rfl, rfl⟩
  unfold PySem.W.clsIn
  rw [hC] <;> rfl
end
section
variable {X : Cx} {pins : List (Addr × Obj)} {σ : L2.St} {H : Hp} {s : Shared} {a C dx : Addr} {f : Str} {y : V} {u : Value} {fs : List (Str × V)} {Q : Unit → Shared → Prop} {E : Value → Shared → Prop} {A : Around} {B nw ini : String} {T : List Value}
/-- self.f = y, the first of its fields -/
theorem xset_first (Z : OxC X.K C B nw ini T) (I : Inv X pins σ H s) (e : H a = some (exo a C none)) (hno : PySem.W.findIn X.K (.ref C) f = some none) (ry : RelV y u)
    (h : ∀ dx s', H dx = none → dx ≠ a → Inv X pins σ (upd (upd H dx (exd dx [(f, y)])) a (exo a C (some dx))) s' → Q () s') : wpAny (model X.prog X.w) A (setAttr (.ref a) f u) Q E s := by
  obtain ⟨cd, hcl, hm, hd⟩ := Z.data
  obtain ⟨t1, ho⟩ := exo_at I.hok e
  obtain ⟨hp, g, d, t, os⟩ := s
  refine PySem.W.set_plain I.kIn (ox := { cls := .ref C, dict := none, data := .fields #[.ref t1, .none, .none, .none, .bool false, .none] }) (od := none) ⟨ho, rfl, rfl, trivial⟩ Z.sa ?_
  refine oset_first Z.over I.kIn ho hcl hm hd hno (fun h' tk' dx k dn dne hx hn => ?_)
  have nD : H dx = none := I.hok.fresh dn
  have lo : ∀ {b : Addr} {o : Obj}, hp.get? b = some o → b ≠ dx := fun {b o} q => Nat.ne_of_lt (Nat.lt_of_lt_of_le (Heap.lt_size q) dn)
  have off : ∀ {b : Addr}, H b = none → b ≠ a := fun {b} n z => by rw [z, e] at n; cases n
  have U : Un X.fs [] H (upd (upd H dx (exd dx [(f, y)])) a (exo a C (some dx))) hp h' :=
    ⟨fun b o q n _ _ => k b o (off n) q, fun b o q n _ _ => ⟨o.slots, k b o (off n) q⟩, fun b o q n _ => by rw [upd_ne (off n), upd_ne (lo q)]; exact n,
     fun b o q _ => by
      by_cases hb : b = a
      · exact ⟨_, by rw [hb]; exact hx⟩
      · exact ⟨o, k b o hb q⟩,
     fun b xs q => by rw [upd_ne (at_ne e q exo_tup), upd_ne (ne_of_none q nD)]; exact q,
     fun b o v q => by rw [upd_ne (at_ne e q exo_frz), upd_ne (ne_of_none q nD)]; exact q,
     fun b ps q => ⟨#[], by rw [upd_ne (at_ne e q exo_tbl), upd_ne (ne_of_none q nD), q]; simp⟩⟩
  refine h dx _ nD dne (I.un (t' := tk') U fun b o q => ?_)
  by_cases hb : b = a
  · subst hb
    rw [upd_same] at q
    cases q
    exact exo_ok hx
  rw [upd_ne hb] at q
  by_cases hd2 : b = dx
  · subst hd2
    rw [upd_same] at q
    cases q
    exact exd_ok hn (relO_put (fs := []) ry fun g => True.intro)
  rw [upd_ne hd2] at q
  refine (I.hok b o q).stay (fun c v hc z => k c v ?_ z) (fun c hc => by rw [upd_ne (at_ne e hc exo_own), upd_ne (ne_of_none hc nD)]; exact hc) (fun c xs hc => by rw [upd_ne (at_ne e hc exo_tup), upd_ne (ne_of_none hc nD)]; exact hc)
  rcases hc with hc | hc
  · rw [hc]; exact hb
  · exact at_ne e hc exo_own
/-- .. a further one -/
theorem xset_next (Z : OxC X.K C B nw ini T) (I : Inv X pins σ H s) (e : H a = some (exo a C (some dx))) (ed : H dx = some (exd dx fs)) (hl : fs.length ≤ 900) (hno : PySem.W.findIn X.K (.ref C) f = some none) (ry : RelV y u)
    (h : ∀ s', Inv X pins σ (upd H dx (exd dx ((f, y) :: fs))) s' → Q () s') : wpAny (model X.prog X.w) A (setAttr (.ref a) f u) Q E s := by
  obtain ⟨cd, hcl, hm, hd⟩ := Z.data
  obtain ⟨t1, ho⟩ := exo_at I.hok e
  obtain ⟨mA, hns, rel⟩ := exd_at I.hok ed
  have hw := within_of rel
  obtain ⟨hp, g, d, t, os⟩ := s
  obtain ⟨oD, _, _, hoD, _, _⟩ := hns.count hw
  refine PySem.W.set_plain I.kIn (ox := { cls := .ref C, dict := some dx, data := .fields #[.ref t1, .none, .none, .none, .bool false, .none] }) (od := some oD) ⟨ho, rfl, rfl, hoD⟩ Z.sa ?_
  refine oset_next Z.over I.kIn ho hns hw (by rw [List.length_map]; omega) hcl hm hd hno (fun h' tk' k hn => ?_)
  have th : ∃ o, h'.get? dx = some o := hn.imp fun o ⟨_, _, e', _⟩ => e'
  exact h _ (I.write (t' := tk') (x := dx) (e := dx) (o := exd dx ((f, y) :: fs)) (by rw [ed]; exact True.intro) (.inl rfl) k th (exd_ok hn (relO_put ry rel)))
/-- B.__init__(self, ..): nothing of it is told -/
theorem xinit_run {us : List Value} {Q : Value → Shared → Prop} (Z : OxC X.K C B nw ini T) (I : Inv X pins σ H s) (e : H a = some (exo a C none)) (hl : us.length ≤ sizeLine) (h : ∀ s', Inv X pins σ H s' → Q .none s') :
    wpAny (model X.prog X.w) A (call (.builtin ini) (.ref a :: us)) Q E s := by
  obtain ⟨nm, q, N, bs, sn, sub, ab, col, dd, k0, k1, k2, k3, k5, hC⟩ := Z.cls
  obtain ⟨t1, ho⟩ := exo_at I.hok e
  obtain ⟨hp, g, d, t, os⟩ := s
  refine wpAny_call (PySem.HandSPX.init_base Z.over.facts (fun _ => rfl) (I.kIn _ _ hC) ho hl fun h' t2 k hx => ?_)
  have J := I.write (t' := t) (x := a) (e := a) (o := exo a C none) (by rw [e]; exact True.intro) (.inl rfl) k ⟨_, hx⟩ (exo_ok hx)
  rw [show upd H a (exo a C none) = H from funext fun b => by
    by_cases hb : b = a
    · rw [hb, upd_same, e]
    · rw [upd_ne hb]] at J
  exact h _ J
end
/-! ### readings and rules -/
def tXi (K : PySem.W.Frag) (B nw ini : String) (T : List Value) (ta : TA) : TE := fun σ H Q => ta σ H fun vs H1 => ∃ (a C : Addr) (ws : List V), vs = .ref a :: ws ∧ ws.length ≤ 1000 ∧ OxC K C B nw ini T ∧ H1 a = some (exo a C none) ∧ Q .non H1
def tXs (K : PySem.W.Frag) (B nw ini : String) (T : List Value) (f : Str) (to te : TE) : TS := fun D σ H => te σ H fun y H1 => to σ H1 fun x H2 => ∃ a C : Addr, x = .ref a ∧ OxC K C B nw ini T ∧ PySem.W.findIn K (.ref C) f = some none ∧
  ((H2 a = some (exo a C none) ∧ ∀ dx, H2 dx = none → dx ≠ a → D.nx σ (upd (upd H2 dx (exd dx [(f, y)])) a (exo a C (some dx)))) ∨
    ∃ (dx : Addr) (fs : List (Str × V)), H2 a = some (exo a C (some dx)) ∧ H2 dx = some (exd dx fs) ∧ fs.length ≤ 900 ∧ D.nx σ (upd H2 dx (exd dx ((f, y) :: fs))))
section
variable {X : Cx} {o e : Expr} {es : List Expr} {to te : TE} {ta : TA} {f : Str} {p p' p1 p2 pos : Pos} {B nw ini : String} {T : List Value}
theorem pe_xinit {pl : Sem Bool} {Bs : Str} (hg : Gl X Bs) (hm : X.mg Bs = none) (vV : PySem.W.findCls X.K (.type B) (.type "type") "__init__" = some (.val (.builtin ini))) (ha : PA X (e :: es) ta)
    (hc : eval (.Call (.Attribute (.Name Bs p1) "__init__" p2) (e :: es) [] pos) X.env = (do
      let ov ← eval (.Name Bs p1) X.env
      standAt p2.atName
      let (f, first) ← holding [ov] (getMethod ov "__init__" pl)
      callWith pos f first (backTo pos (starEach (e :: es) X.env)) (backToKw pos (keywordEach [] X.env))) := by rfl)
    (he : starEach (e :: es) X.env = (false, eval e X.env) :: starEach es X.env := by rfl) (hpl : (backTo pos (starEach es X.env)).any (·.1) = false := by rfl)
    (hB : bootBuiltins Bs = some (.type B) := by decide +kernel) (hn1 : Bs ≠ "__name__" := by decide) (hn2 : (Bs == ("__debug__" : Str)) = false := by decide) (hty : typeOf (.type B) = pure (.type "type") := by kernel_rfl)
    (hst : Manifest.isStub B = false := by decide +kernel) (hhi : PySem.W.handedIn (.builtin ini) = true := by decide +kernel) :
    PE X (.Call (.Attribute (.Name Bs p1) "__init__" p2) (e :: es) [] pos) (tXi X.K B nw ini T ta) := by
  refine ⟨fun pins s σ H Q I h => ?_⟩
  refine PySem.W.methodCall_KW (ld_blt I hg hm hB ?_ hn1 hn2) hc
  obtain ⟨m, fr⟩ := I.fr
  refine PySem.W.method_type fr I.ok.mod.kin hty hst vV hhi ?_
  show wpAny _ _ (callWith pos (Value.builtin ini) [] (backTo pos (starEach (e :: es) X.env)) []) _ _ _
  refine PyProof.Rows.callWith_method1 (thn (ha.run pos pins _ σ H _ (I.tok _) h) fun us s1 ⟨vs, H1, I1, r1, a, C, ws, ev, hl, Z, ea, q⟩ => ?_) he hpl
  subst ev
  cases r1 with
  | @cons _ z0 _ zs rz rr =>
    obtain rfl : z0 = Value.ref a := rz
    exact xinit_run Z I1 ea (by rw [← Paired.length rr, sizeLine_eq]; omega) fun s' J => ⟨.non, H1, J, rfl, q⟩
theorem ps_xset (ho : PE X o to) (he : PE X e te) (hs : swapsWith e (some (.Attribute o f p')) pos.line X.env = pure false := by rfl) : PS X (.Assign [.Attribute o f p'] e pos) (tXs X.K B nw ini T f to te) := by
  refine ⟨fun pins s σ H D I h => ?_⟩
  refine plainObj_wpAny_Assign_Attribute (thn (he.run pins s σ H _ I h) fun v s1 ⟨y, H1, I1, r1, q1⟩ => thn (ho.run pins s1 σ H1 _ I1 q1) fun u s2 ⟨x, H2, I2, r2, a, C, ex, Z, hno, q⟩ => ?_) hs
  subst ex
  obtain rfl : u = Value.ref a := r2
  exact q.elim (fun ⟨ea, q⟩ => xset_first Z I2 ea hno r1 fun dx s' n ne J => ⟨σ, _, J, q dx n ne⟩) fun ⟨dx, fs, ea, ed, hl, q⟩ => xset_next Z I2 ea ed hl hno r1 fun s' J => ⟨σ, _, J, q⟩
theorem pmk_xex {CX : CXT} {x : Str} {C fI : Addr} {k : Nat} {fd : FuncData} {ps : List Str} {sp : Sp} (Z : OxC X.K C B nw ini T) (iC : PySem.W.findIn X.K (.ref C) "__init__" = some (some (.ref fI))) (tI : PySem.W.typeIn X.K (.ref fI) = some (.type "function"))
    (hG : X.A.guards = some []) (F1 : FnG X.prog X.w X.K X.mg X.base CX k fI fd ps sp) (hr : Room (k + 1) X.A) (hb : Binds X.K fd ps []) (hx : Passes CX X (fun _ _ _ => False)) (hg : Gl X x) (hm : X.mg x = some (.ref C)) (ha : PA X (e :: es) ta)
    (hdb : (x == ("__debug__" : Str)) = false := by decide) (he : starEach (e :: es) X.env = (false, eval e X.env) :: starEach es X.env := by rfl) (hpl : (backTo pos (starEach es X.env)).any (·.1) = false := by rfl) :
    PMk X (.Call (.Name x p) (e :: es) [] pos) (tMkO C sp [] ta) := by
  intro pins s σ H Q I h
  obtain ⟨nm, q, N, bs, sn, sub, ab, col, dd, k0, k1, k2, k3, k5, hC⟩ := Z.cls
  refine wpAny_Call_Name_kw (ld_glob I hg hm ?_ hdb)
  refine PySem.W.callWith_K (h₀ := X.base) I.ok.mod.kin Z.kC (thn (ha.run pos pins s σ H _ I h) fun us s1 ⟨vs, H1, I1, r1, hz, q1⟩ => ⟨I1.kIn, ?_⟩) he hpl
  show wpAny _ _ (call (.ref C) us) _ _ _
  obtain ⟨hp, g, dr, tk, os⟩ := s1
  have le1 : hp.objs.size ≤ hp.objs.size + 1 := Nat.le_succ _
  have free1 : H1 (hp.objs.size + 1) = none := I1.hok.fresh le1
  have hq := q1 (hp.objs.size + 1) free1
  have keep1 : ∀ b o, hp.get? b = some o → ((hp.push (PySem.W.kdv_tup us)).push (PySem.HandSPX.excO C hp.objs.size)).get? b = some o := fun b o z => Heap.get?_push_of_some _ (Heap.get?_push_of_some _ z)
  have at1 : ((hp.push (PySem.W.kdv_tup us)).push (PySem.HandSPX.excO C hp.objs.size)).get? (hp.objs.size + 1) = some (PySem.HandSPX.excO C hp.objs.size) := by heap_get
  have I2 : Inv X pins σ (upd H1 (hp.objs.size + 1) (exo (hp.objs.size + 1) C none)) ⟨(hp.push (PySem.W.kdv_tup us)).push (PySem.HandSPX.excO C hp.objs.size), g, dr, tk, os⟩ :=
    I1.laid (t' := tk) (a := hp.objs.size + 1) (o := exo (hp.objs.size + 1) C none) (h' := (hp.push (PySem.W.kdv_tup us)).push (PySem.HandSPX.excO C hp.objs.size)) keep1 le1 (exo_ok at1)
  have r2 : Vals (V.ref (hp.objs.size + 1) :: (vs ++ [])) (Value.ref (hp.objs.size + 1) :: us ++ []) := .cons rfl (r1.append .nil)
  have hl : (Value.ref (hp.objs.size + 1) :: us ++ []).length = ps.length := r2.length.symm.trans (F1.len _ _ _ _ hq)
  refine wpAny_call (PySem.HandSPX.call_own Z.over.facts (fun _ => rfl) (I1.kIn _ _ hC) (PySem.W.looks_findIn I1.kIn iC) (fun self => PySem.W.bind_fn I1.kIn self tI) (by rw [← Paired.length r1, sizeLine_eq]; omega)
    (codeAny_mono (F1.go _ X.stack _ _ ⟨Value.ref (hp.objs.size + 1) :: us, []⟩ (Value.ref (hp.objs.size + 1) :: us ++ []) _ _ (fun _ _ _ => False) hG (hr.make C us []) (I2.env0.make C us []) (hb _ (Value.ref (hp.objs.size + 1) :: us) I2.kIn hl) r2 hq) fun r s' hq' => ?_))
  cases r with
  | error er => exact hx pins σ _ _ er s' I2 hq'
  | ok fl =>
    cases fl with
    | ret z =>
      obtain ⟨v, H2, os2, bare2, un2, hok2, rv, ev, d, fs, ea, ed, hd1, q2⟩ := hq'
      subst ev
      obtain ⟨h2, g2, d2, t2, os'⟩ := s'
      exact ⟨rv, mk_end (raises_own Z.exC Z.tyC) I1 le1 keep1 un2 hok2 os2 bare2 ea ed hd1 q2⟩
    | next => exact False.elim hq'
    | brk => exact False.elim hq'
    | cont => exact False.elim hq'
end
/-! ### {x!r} of any thing -/
/-- z is the text that repr tells of x -/
inductive Shown (K : PySem.W.Frag) (H : Hp) : V → Str → Prop
  | str (y : Str) : Shown K H (.str y) (reprText y)
  | int (i : Int) (h : i.natAbs.log2 < 1920) : Shown K H (.int i) (toString i)
  | bl (b : Bool) : Shown K H (.bl b) (if b then "True" else "False")
  | non : Shown K H .non "None"
  | dat {a : Addr} {d : PyData} (h : Shows K H a d) (h1 : d.showable = true) (h2 : d.depth ≤ 60) : Shown K H (.ref a) d.shown
section
variable {X : Cx} {e : Expr} {te : TE} {pos : Pos}
def tFmtA (K : PySem.W.Frag) (te : TE) : TE := fun σ H Q => te σ H fun x H1 => ∃ z : Str, Shown K H1 x z ∧ z.length ≤ sizeLine ∧ Q (.str z) H1
theorem shows_reads {pins : List (Addr × Obj)} {σ : L2.St} {H : Hp} {s : Shared} {a : Addr} {d : PyData} (I : Inv X pins σ H s) (h : Shows X.K H a d) : ∃ as, Reads s.heap (.ref a) d as ∧ (d.hasDict = true → sysModules ∉ as) := by
  cases h with
  | seq h1 h2 =>
    obtain ⟨as, q1⟩ := Dp.reads I d _ _ h1 rfl
    exact ⟨as, q1, fun z => by rw [h2] at z; cases z⟩
  | dct h1 h2 =>
    obtain ⟨_, ns, vs, kv, o, es, ep, e1, e2, e3, _, e5, _⟩ := I.hok a _ h1
    obtain ⟨q1, q2⟩ := dct_reads (h := s.heap) h2 kv e5
    refine ⟨_, Reads.dict e1 e2.1 e3 q1 q2, fun _ z => ?_⟩
    simp at z
    rw [← z] at ns
    simp at ns
theorem pe_fmtA (hG : X.A.guards = some []) (hu : X.A.units + 70 < cLine) (he : PE X e te) : PE X (.FormattedValue e 114 none pos) (tFmtA X.K te) := by
  refine ⟨fun pins s σ H Q I h => ?_⟩
  refine wpAny_FormattedValue_repr (thn (he.run pins s σ H _ I h) fun v s1 hv => ?_)
  obtain ⟨x, H1, I1, r1, z, hs, hz, q⟩ := hv
  cases hs with
  | str y =>
    obtain ⟨t, rfl⟩ := r1
    exact pyReprObj_str (wpAny_formatField_str ⟨.str _, H1, I1.tok _, ⟨_, rfl⟩, q⟩ ⟨.str _, H1, I1.tok _, ⟨_, rfl⟩, q⟩ hz) hz
  | int i hi =>
    obtain ⟨t, rfl⟩ := r1
    exact pyReprObj_int hi (wpAny_formatField_str ⟨.str _, H1, I1.tok _, ⟨_, rfl⟩, q⟩ ⟨.str _, H1, I1.tok _, ⟨_, rfl⟩, q⟩ hz)
  | bl b =>
    cases r1
    refine pyReprObj_bool (wpAny_formatField_str ⟨.str _, H1, I1.tok _, ⟨_, rfl⟩, q⟩ ⟨.str _, H1, I1.tok _, ⟨_, rfl⟩, q⟩ hz)
  | non =>
    cases r1
    exact pyReprObj_none (wpAny_formatField_str ⟨.str _, H1, I1.tok _, ⟨_, rfl⟩, q⟩ ⟨.str _, H1, I1.tok _, ⟨_, rfl⟩, q⟩ hz)
  | dat h h1 h2 =>
    cases r1
    obtain ⟨as, rd, sm⟩ := shows_reads I1 h
    refine pyReprObj_of_reads rd h1 sm hG (by omega) (fun _ _ e => e) (fun h' u tk hk => ?_) hz
    have J := I1.kept (t' := tk) hk
    exact wpAny_formatField_str ⟨.str _, H1, J, ⟨_, rfl⟩, q⟩ ⟨.str _, H1, J.tok _, ⟨_, rfl⟩, q⟩ hz
end
end Any
namespace Any
open L2 PySem PySem.Spec PyProof.Rows
/-! ### defs that may raise, where no repr is under way -/
section
variable {P : Program} {w : World} {K : PySem.W.Frag} {mg : Str → Option Value} {base : Heap}
theorem fun_gX {x ql : Str} {st : Stmt} {f : Addr} {fd : FuncData} {N ps : List Str} {k : Nat} {sp : Sp} (F : Fun K x ql st f fd) (S : FnScope N ps (defScope st)) (ln : ∀ vs H Q E, sp vs H Q E → vs.length = ps.length)
    (hb : ∀ (cv : Value) (A : Around) (out : List Env) (s : Shared) (H : Hp) (vs : List V) (Q : VK) (E : XK), A.guards = some [] → Room k (A.deeper (envOfC ql (defScope st) s.heap.objs.size f cv)) → sp vs H Q E →
      ∃ t, PSs (cxOf (L2.CX P w) P w K mg base N ql (defScope st) f cv A out s H E) (defBody st) t ∧ t ⟨fun _ H' => Q .non H', Q, fun _ _ => False, fun _ _ => False⟩ (L2.start N vs) H) : FnG P w K mg base (L2.CX P w) (k + 1) f fd ps sp := by
  obtain ⟨_, _, _, _, _, _, cv, _, _, rfl, lk, hc⟩ := F.ex
  exact fn_g lk hc S ln fun A out s H vs Q E hg hr hs => hb cv A out s H vs Q E hg hr hs
end
section
variable {X : Cx} {C : CXT} {k : Nat} {f D : Addr} {fd : FuncData} {ps : List Str} {sp : Sp} {E : XK} {m : Str} {p pos apos : Pos} {o e : Expr} {es : List Expr} {t : TA} {ta : TE}
theorem run_fnG {pins : List (Addr × Obj)} {σ : L2.St} {H : Hp} {s : Shared} {us : List Value} {vs : List V} {Q : VK} (F : FnG X.prog X.w X.K X.mg X.base C k f fd ps sp) (hG : X.A.guards = some []) (hr : Room k X.A) (hb : Binds X.K fd ps []) (hx : Passes C X E)
    (I : Inv X pins σ H s) (rv : Vals vs us) (q : sp vs H Q E) : wpAny (model X.prog X.w) X.A (call (.ref f) us) (EP X pins σ Q) X.xe s := by
  have hl : us.length = ps.length := rv.length.symm.trans (F.len _ _ _ _ q)
  have bi := hb s us I.kIn (by rw [List.append_nil]; exact hl)
  rw [List.append_nil] at bi
  refine wpAny_call (codeAny_mono (F.go X.A X.stack s H ⟨us, []⟩ us vs Q E hG hr I.env0 bi rv q) ?_)
  rintro (err | fl) s' hq
  · exact hx pins σ H s err s' I hq
  · cases fl with
    | ret u => exact I.after hq
    | next => cases hq
    | brk => cases hq
    | cont => cases hq
theorem pe_methG {pl : Sem Bool} (he : PE X o ta) (c : Cls X.K D) (hm : Meth X.K D m f) (F : FnG X.prog X.w X.K X.mg X.base C k f fd ps sp) (hG : X.A.guards = some []) (hr : Room k X.A) (hb : Binds X.K fd ps []) (hx : Passes C X E) (ha : PA X (e :: es) t)
    (hst : starEach (e :: es) X.env = (false, eval e X.env) :: starEach es X.env := by rfl) (hpl : (backTo pos (starEach es X.env)).any (·.1) = false := by rfl)
    (ht : eval (.Call (.Attribute o m apos) (e :: es) [] pos) X.env = (do
      let ov ← eval o X.env
      standAt apos.atName
      let (f, first) ← holding [ov] (getMethod ov m pl)
      callWith pos f first (backTo pos (starEach (e :: es) X.env)) (backToKw pos (keywordEach [] X.env))) := by rfl) :
    PE X (.Call (.Attribute o m apos) (e :: es) [] pos) (tMeth D m sp [] E ta t) := by
  refine ⟨fun pins s σ H Q I h => ?_⟩
  refine PySem.W.methodCall_KW (pl := pl) (thn (he.run pins s σ H _ I h) fun u s1 ⟨x, H1, I1, rx, a, dx, fs, ex, ea, l, q⟩ => ?_) ht
  subst ex
  obtain rfl : u = Value.ref a := rx
  refine getmeth_ok I1 ea c hm l ?_
  refine PySem.W.callWith_K (first := [.ref a]) (h₀ := X.base) I.ok.mod.kin hm.kp (thn (ha.run pos pins s1 σ H1 _ I1 q) fun us s2 ⟨vs, H2, I2, r, q2⟩ => ⟨I2.kIn, ?_⟩) hst hpl
  have q2 : sp (V.ref a :: (vs ++ [])) H2 Q E := q2
  rw [List.append_nil] at q2
  exact run_fnG (us := .ref a :: us) (vs := .ref a :: vs) F hG hr hb hx I2 (.cons rfl r) q2
theorem pe_callGX {x : Str} (F : FnG X.prog X.w X.K X.mg X.base C k f fd ps sp) (hG : X.A.guards = some []) (hr : Room k X.A) (hg : Gl X x) (hm : X.mg x = some (.ref f)) (hk : PySem.W.keepIn X.K (.ref f) = true) (hb : Binds X.K fd ps []) (hx : Passes C X E) (ha : PA X (e :: es) t)
    (h1 : (x == ("__debug__" : Str)) = false := by decide) (h2 : starEach (e :: es) X.env = (false, eval e X.env) :: starEach es X.env := by rfl) (h3 : (backTo pos (starEach es X.env)).any (·.1) = false := by rfl) :
    PE X (.Call (.Name x p) (e :: es) [] pos) (tCall sp [] E t) := pe_callG F hG hr hg hm hk hb .nil hx ha h1 h2 h3
end
/-- C's __init__ puts what it is given into its field f -/
def spX1 (C : Addr) (f : Str) (ok : Hp → V → Prop) : Sp := fun vs H Q _ => ∃ a y, vs = [.ref a, y] ∧ ok H y ∧ H a = some (exo a C none) ∧
  ∀ dx, H dx = none → dx ≠ a → Q .non (upd (upd H dx (exd dx [(f, y)])) a (exo a C (some dx)))
/-- what comes of raise C(y) -/
theorem x1_made {C : Addr} {f : Str} {ok : Hp → V → Prop} {H : Hp} {y : V} {E : XK} (hy : ∀ H', Same H H' → ok H' y) (h : ∀ d H', Same H H' → H' d = some (.xd [(f, y)]) → E (.ref C) (some d) H') :
    ([y] : List V).length ≤ 1000 ∧ ∀ a, H a = none → spX1 C f ok (.ref a :: ([y] ++ [])) (upd H a (exo a C none))
      (fun v H2 => v = .non ∧ ∃ (d : Addr) (fs : List (Str × V)), H2 a = some (exo a C (some d)) ∧ H2 d = some (exd d fs) ∧ H d = none ∧ E (.ref C) (some d) (upd (del H2 a) d (.xd fs))) (fun _ _ _ => False) := by
  refine ⟨by show 1 ≤ 1000; decide, fun a ha => ⟨a, y, rfl, hy _ (fun b u q => by rw [upd_ne (ne_of_none q ha)]; exact q), upd_same, fun dx h1 h2 => ⟨rfl, dx, [(f, y)], upd_same, ?_, ?_, ?_⟩⟩⟩
  · rw [upd_ne h2]
    exact upd_same
  · rw [upd_ne h2] at h1
    exact h1
  · refine h dx _ (fun b o hb => ?_) upd_same
    have hbd : b ≠ dx := by
      rw [upd_ne h2] at h1
      exact ne_of_none hb h1
    have hba : b ≠ a := ne_of_none hb ha
    rw [upd_ne hbd, del_ne hba, upd_ne hba, upd_ne hbd, upd_ne hba]
    exact hb
/-- things whose text is not long -/
def Small (K : PySem.W.Frag) (H : Hp) (y : V) : Prop := ∃ z : Str, Shown K H y z ∧ z.length ≤ 2000
end Any
set_option pp.maxSteps 600
namespace PySem.SeqAt
open PySem
theorem dict_eq_declines_str (l : Addr) (es : Array DictEntry) (n : Nat) (dd : Option Addr) (sl : Array (Option Value)) (b : Str) (u : Tok) :
    Meets (Builtin.«dict.__eq__» ⟨[.ref l, .str b u], []⟩) (fun _ R s => s.heap.get? l = some { cls := .type "dict", dict := dd, data := .dict es n, slots := sl } ∧ R (.ok (.ret .notImplemented)) s) :=
  .of_wp fun prog w A R s h => by obtain ⟨hp, g, d, tk, os⟩ := s; obtain ⟨hl, h⟩ := h; have f1 := F.sub_str_dict; wp_walk using wpAny_loadPart' hl; exact ⟨_, rfl, h⟩
theorem str_eq_declines_dict (b : Str) (u : Tok) (l : Addr) (es : Array DictEntry) (n : Nat) (dd : Option Addr) (sl : Array (Option Value)) :
    Meets (Builtin.«str.__eq__» ⟨[.str b u, .ref l], []⟩) (fun _ R s => s.heap.get? l = some { cls := .type "dict", dict := dd, data := .dict es n, slots := sl } ∧ R (.ok (.ret .notImplemented)) s) :=
  .of_wp fun prog w A R s h => by obtain ⟨hp, g, d, tk, os⟩ := s; obtain ⟨hl, h⟩ := h; wp_walk using wpAny_loadPart' hl, wpAny_load hl; exact ⟨_, rfl, h⟩
theorem RcAt.str_dict {A : Around} {s : Shared} {l : Addr} {o : Obj} {es : Array DictEntry} {n : Nat} (b : Str) (u : Tok) (ho : s.heap.get? l = some o) (hc : o.cls = .type "dict") (hd : o.data = .dict es n) (hu : A.units < cLine) : RcAt A s (.str b u) (.ref l) false := fun prog w E Q h => by
  obtain ⟨cls, dd, data, sl⟩ := o
  simp only at hc hd
  subst hc hd
  exact rc_eq_decline_or (k := false) (typeIs_str s b u) ⟨_, ho, rfl⟩ (by decide) F.sub_dict_str F.slot_str_eq F.slot_dict_eq_refl
    (fun _ hq => call_meets F.slot_str_eq (typeIs_str s b u) F.entry_str_eq (F.args_str_eq_2 _ _) (str_eq_declines_dict b u l es n dd sl) ⟨ho, hq⟩)
    (fun _ hq => call_meets F.slot_dict_eq_refl ⟨_, ho, rfl⟩ F.entry_dict_eq (F.args_dict_eq_2 _ _) (dict_eq_declines_str l es n dd sl b u) ⟨ho, hq⟩)
    (fun _ hq => wpAny_of_eq (rfl : isSame (.str b u) (.ref l) = pure false) hq) (.inr hu) h
end PySem.SeqAt
namespace Any
open L2 PySem PySem.Spec PyProof.Rows LamX NdefX
/-- a text that is not this thing -/
def NeV (K : PySem.W.Frag) (H : Hp) (x : Str) (v : V) : Prop := (∃ d, Dp K H v d ∧ SeqAt.shaped (.str x) = true ∧ SeqAt.shaped d = true ∧ PyData.eqv (.str x) d = false) ∨ ∃ p kvs, v = .ref p ∧ H p = some (.dK kvs)
def rNeX (K : PySem.W.Frag) : R2 := fun x y H Q => ∃ z, x = .str z ∧ NeV K H z y ∧ Q (.bl false) H
theorem op_eqX {X : Cx} (hu : X.A.units + 64 < cLine) : OpR X (compareOp .Eq) (rNeX X.K) := by
  intro pins s σ H x y v u Q I rx ry h
  obtain ⟨z, rfl, h, q⟩ := h
  rcases h with ⟨d, h1, h2, h3, h4⟩ | ⟨p, kvs, rfl, hp⟩
  · refine op_eqD hu pins s σ H (.str z) y v u Q I rx ry ⟨.str z, d, .str z, h1, h2, h3, ?_⟩
    rw [h4]
    exact q
  · obtain ⟨t, rfl⟩ := rx
    cases (show u = Value.ref p from ry)
    obtain ⟨_, _, vs, rel, o, es, ep, e1, e2, e3, _⟩ := I.hok p _ hp
    exact SeqAt.RcAt.str_dict z t e1 e2.1 e3 (by omega) _ _ _ _ ⟨.bl false, H, I, rfl, q⟩
end Any
set_option pp.maxSteps 600
namespace Any
open L2 PySem PySem.Spec PyProof.Rows LamX NdefX
/-! ### NoRoom, room_of -/
abbrev sNR : Stmt := inClass (top 47) 0
theorem scNR : FnScope ["self", "name"] ["self", "name"] (defScope sNR) := ⟨rfl, rfl, rfl, by decide +kernel, rfl, by decide +kernel, by decide +kernel⟩
structure NoRoomC (K : PySem.W.Frag) (mg : Str → Option Value) (CN : Addr) : Prop where
  ox : OxC K CN "LookupError" "LookupError.__new__" "LookupError.__init__" tLookup
  no : PySem.W.findIn K (.ref CN) "name" = some none
  xf : XfC K CN
  ex : ExcC K CN
  le : PySem.W.kitOne K (.ref CN) (.type "LookupError") = some true
  me : PySem.W.exmOne K (.ref CN) (.ref CN) = some true
  mL : mg "LookupError" = none
  vL : PySem.W.findCls K (.type "LookupError") (.type "type") "__init__" = some (.val (.builtin "LookupError.__init__"))
  mN : mg "NoRoom" = some (.ref CN)
section
variable {P : Program} {w : World} {K : PySem.W.Frag} {mg : Str → Option Value} {base : Heap} {f C D CN : Addr} {fd : FuncData}
theorem ok_noroom (Z : NoRoomC K mg CN) (F : Fun K "__init__" "NoRoom.__init__" sNR f fd) : FnG P w K mg base CX0 1 f fd ["self", "name"] (spX1 CN "name" (Small K)) := by
  refine fun_g F scNR (fun vs H Q E h => ?_) (fun cdv A outer s H vs Q E hG hr h => ?_)
  · obtain ⟨a, y, rfl, _⟩ := h
    rfl
  obtain ⟨a, y, rfl, ⟨z, hz, hl⟩, ha, q⟩ := h
  have hG' : (A.deeper (envOfC "NoRoom.__init__" (defScope sNR) s.heap.objs.size f cdv)).guards = some [] := hG
  have hu : (A.deeper (envOfC "NoRoom.__init__" (defScope sNR) s.heap.objs.size f cdv)).units + 70 < cLine := by have := hr.un; omega
  have hs : sizeLine = 16777216 := sizeLine_eq
  refine ⟨_, PSs.nox (pss_cons (ps_expr (pe_xinit (Bs := "LookupError") (nw := "LookupError.__new__") (T := tLookup) rfl Z.mL Z.vL (pa_cons (pv 0) (pa_cons (pe_joined (.cons pe_str (.cons (pe_fmtA hG' hu (pv 1)) .nil))) pa_nil)))) (pss_one (ps_xset (B := "LookupError") (nw := "LookupError.__new__") (ini := "LookupError.__init__") (T := tLookup) (pv 0) (pv 1)))), ?_⟩
  have c0 : (Str.empty : Str).length = 0 := rfl
  have c1 : ("no room of the program is called " : Str).length = 33 := by decide +kernel
  refine ⟨_, rfl, ?_⟩
  refine ⟨_, rfl, by rw [Str.length_append, c0, c1]; omega, _, rfl, z, hz, by omega, ?_⟩
  refine ⟨_, rfl, by rw [Str.length_append, Str.length_append, c0, c1]; omega, ?_⟩
  refine ⟨a, CN, _, rfl, by show 1 ≤ 1000; decide, Z.ox, ha, ?_⟩
  exact ⟨_, rfl, _, rfl, a, CN, rfl, Z.ox, Z.no, .inl ⟨ha, fun dx h1 h2 => q dx h1 h2⟩⟩
end
/-- a program that holds these rooms -/
def HeldAt (D : Addr) (H : Hp) (x R : Addr) : Prop := ∃ dx v, H x = some (.ins D dx [("held", .ref R), ("drawn", v)])
theorem HeldAt.keep {D : Addr} {H H' : Hp} {x R : Addr} (h : HeldAt D H x R) (s : Same H H') : HeldAt D H' x R := by
  obtain ⟨dx, v, h1⟩ := h
  exact ⟨dx, v, s _ _ h1⟩
theorem pf_held {a b : V} : ([("held", a), ("drawn", b)] : List (Str × V)).lookup ("held" : Str) = some a := lk_hit
theorem pf_none {a b : V} {x : Str} (h1 : (x == ("held" : Str)) = false) (h2 : (x == ("drawn" : Str)) = false) : ([("held", a), ("drawn", b)] : List (Str × V)).lookup x = none := (lk_skip h1).trans ((lk_skip h2).trans rfl)
abbrev sRO : Stmt := inClass (top 65) 2
theorem scRO : FnScope ["self", "name", "room"] ["self", "name"] (defScope sRO) := ⟨rfl, rfl, rfl, by decide +kernel, rfl, by decide +kernel, by decide +kernel⟩
def spRO (C D : Addr) : Sp := fun vs H Q _ => ∃ (x R : Addr) (n : Str) (rs : List Rm) (i : Nat) (r : Rm), vs = [.ref x, .str n] ∧ HeldAt D H x R ∧ RsAt C H R rs ∧ rs[i]? = some r ∧ r.name = n ∧ (∀ j r', j < i → rs[j]? = some r' → r'.name ≠ n) ∧
  ∀ a, RmAt C H a r → Q (.ref a) H
/-- .. of a thing that is no room's name -/
def spROX (K : PySem.W.Frag) (C D CN : Addr) : Sp := fun vs H _ E => ∃ (x R : Addr) (v : V) (rs : List Rm), vs = [.ref x, v] ∧ HeldAt D H x R ∧ RsAt C H R rs ∧ (∀ r ∈ rs, NeV K H r.name v) ∧
  (∀ H', Same H H' → Small K H' v) ∧ ∀ b H', Same H H' → H' b = some (.xd [("name", v)]) → E (.ref CN) (some b) H'
/-- what is known of Program's held -/
structure HeldC (K : PySem.W.Frag) (D : Addr) : Prop where
  cl : Cls K D
  held : NoAttr K D "held"
section
variable {P : Program} {w : World} {K : PySem.W.Frag} {mg : Str → Option Value} {base : Heap} {f C D CN nf : Addr} {fd nd : FuncData}
theorem ok_ro (T : RoomC K C) (TP : HeldC K D) (F : Fun K "room_of" "Program.room_of" sRO f fd) : FnOk P w K mg base CX0 1 f fd ["self", "name"] (spRO C D) := by
  refine F.ok scRO (fun vs H Q E h => ?_) (fun cdv A outer s H vs Q E hr h => ?_)
  · obtain ⟨x, R, n, rs, i, r, rfl, _⟩ := h
    rfl
  obtain ⟨x, R, n, rs, i, r, rfl, ⟨dx, v, hx⟩, ⟨as, hR, hp⟩, hi, hn, hno, q⟩ := h
  have hl := paired_len hp
  have hlt : i < rs.length := (List.getElem?_eq_some_iff.mp hi).1
  refine ⟨_, pss_cons (ps_for PassesOwn.never rfl (pi_tup (pe_fld (pv 0) rfl)) (pg_name (i := 2) scRO.nd rfl (Or.inl rfl)) (pss_one (ps_if (pt_cmpR op_eq (pe_fld (pv 2) rfl) (pv 1) (nomark _)) (pss_one (ps_ret (pv 2))) pss_nil))) (pss_one ps_never), ?_⟩
  refine ⟨_, rfl, x, D, dx, _, _, rfl, hx, TP.cl, TP.held, pf_held, R, rfl, ⟨_, SqT.of hR⟩, ?_⟩
  refine for_tup (K := K) (a := R) (xs := as.map V.ref) (fun j σ Hc => ∃ y, σ = [some (.ref x), some (.str n), y] ∧ Hc = H ∧ j ≤ i) ⟨_, rfl, rfl, Nat.zero_le _⟩ ?_ ?_ ?_
  · rintro j σ Hc _ ⟨y, rfl, rfl, _⟩
    exact SqT.of hR
  · rintro j z σ Hc hz ⟨y, rfl, rfl, hj⟩
    obtain ⟨e, he, rfl⟩ := refs_at hz
    obtain ⟨r', hr', hat⟩ := paired_get hp he
    obtain ⟨dx', n', a', b', s'', k', t', p', y', h1', h2'⟩ := id hat
    have hn' := h2'.name
    subst hn'
    refine ⟨_, rfl, e, C, dx', _, _, rfl, h1', T.cl, T.n1, rf_name, _, rfl, rfl, _, rfl, itD (fun c => ?_) (fun c => ?_)⟩
    · have c := V.str.inj c
      by_cases hji : j = i
      · subst hji
        rw [hi] at hr'
        cases hr'
        exact ⟨_, rfl, q e hat⟩
      · exact absurd c (hno j r' (by omega) hr')
    · refine ⟨_, rfl, rfl, ?_⟩
      by_cases hji : j = i
      · subst hji
        rw [hi] at hr'
        cases hr'
        exact absurd (by rw [hn]) c
      · omega
  · rintro σ Hc ⟨y, rfl, rfl, hj⟩
    rw [List.length_map] at hj
    omega
theorem ok_rox (T : RoomC K C) (TP : HeldC K D) (Z : NoRoomC K mg CN) (iN : PySem.W.findIn K (.ref CN) "__init__" = some (some (.ref nf))) (tN : PySem.W.typeIn K (.ref nf) = some (.type "function")) (GN : FnG P w K mg base CX0 1 nf nd ["self", "name"] (spX1 CN "name" (Small K))) (bN : Binds K nd ["self", "name"] [])
    (F : Fun K "room_of" "Program.room_of" sRO f fd) : FnG P w K mg base (L2.CX P w) 3 f fd ["self", "name"] (spROX K C D CN) := by
  refine fun_gX F scRO (fun vs H Q E h => ?_) (fun cdv A outer s H vs Q E hG hr h => ?_)
  · obtain ⟨x, R, v, rs, rfl, _⟩ := h
    rfl
  obtain ⟨x, R, v, rs, rfl, ⟨dx, v2, hx⟩, ⟨as, hR, hp⟩, hne, hsm, q⟩ := h
  have hG' : (A.deeper (envOfC "Program.room_of" (defScope sRO) s.heap.objs.size f cdv)).guards = some [] := hG
  let X := cxOf (L2.CX P w) P w K mg base ["self", "name", "room"] "Program.room_of" (defScope sRO) f cdv A outer s H E
  have tk : Takes X (fun cls d _ H => E cls d H) := takes_of rfl rfl rfl rfl
  have hr2 : Room 2 X.A := hr
  refine ⟨_, pss_cons (ps_for (passes_of rfl) rfl (pi_tup (pe_fld (pv 0) rfl)) (pg_name (i := 2) scRO.nd rfl (Or.inl rfl)) (pss_one (ps_if (pt_cmpR (op_eqX hr.units) (pe_fld (pv 2) rfl) (pv 1) (nomark _)) (pss_one (ps_ret (pv 2))) pss_nil)))
    (pss_one (ps_raise rfl tk (pmk_xex Z.ox iN tN hG' GN hr2 bN pass0 rfl Z.mN (pa_cons (pv 1) pa_nil)))), ?_⟩
  refine ⟨_, rfl, x, D, dx, _, _, rfl, hx, TP.cl, TP.held, pf_held, R, rfl, ⟨_, SqT.of hR⟩, ?_⟩
  refine for_tup (K := K) (a := R) (xs := as.map V.ref) (fun j σ Hc => ∃ y, σ = [some (.ref x), some v, y] ∧ Hc = H) ⟨_, rfl, rfl⟩ ?_ ?_ ?_
  · rintro j σ Hc _ ⟨y, rfl, rfl⟩
    exact SqT.of hR
  · rintro j z σ Hc hz ⟨y, rfl, rfl⟩
    obtain ⟨e, he, rfl⟩ := refs_at hz
    obtain ⟨r', hr', hat⟩ := paired_get hp he
    obtain ⟨dx', n', a', b', s'', k', t', p', y', h1', h2'⟩ := id hat
    have hn' := h2'.name
    subst hn'
    refine ⟨_, rfl, e, C, dx', _, _, rfl, h1', T.cl, T.n1, rf_name, _, rfl, _, rfl, hne r' (List.mem_of_getElem? hr'), _, rfl, itF rfl ⟨_, rfl, rfl⟩⟩
  · rintro σ Hc ⟨y, rfl, rfl⟩
    exact ⟨_, rfl, x1_made hsm q⟩
end
end Any
set_option pp.maxSteps 600
namespace PySem.W
open PySem
/-- max(a list of ints, default=d) -/
theorem max_intsD {prog : Program} {w : World} {A : Around} {E : Value → Shared → Prop} {s : Shared} {l : Addr} {xs : Array (Int × Tok)} {d : Value} {Q : Value → Shared → Prop} (hh : A.handled = none) (hl : s.heap.IsList l (intItems xs))
    (h0 : xs.size = 0 → ∀ h' tk, (∀ b o, s.heap.get? b = some o → h'.get? b = some o) → Q d { s with heap := h', toks := tk })
    (h : 0 < xs.size → ∀ v h' tk, (intItems xs)[argBest (fun i j => decide (numAt xs i > numAt xs j)) (xs.size - 1)]? = some v → (∀ b o, s.heap.get? b = some o → h'.get? b = some o) → Q v { s with heap := h', toks := tk }) :
    wpAny (model prog w) A (call (.builtin "max") [.ref l] [(Str.ofString "default", d)]) Q E s := by
  have es : (intItems xs).size = xs.size := by simp [intItems]
  refine call_max_walkD (iter_listW (A := A.in1) hh hl fun s₂ e W st hfp hw hk => ?_)
  refine ⟨_, _, _, _, _, _, _, s.heap, (fun i j => decide (numAt xs i > numAt xs j)), rfl, W, st, hfp, hw, hk, fun hz s' m => ?_, fun hp => ⟨?_, fun v s' hP m => ?_⟩⟩
  · obtain ⟨h', tk, rfl, hk'⟩ := moved_old e rfl m
    exact h0 (by omega) h' tk hk'
  · intro i j vi vj s Q E _ h1 h2 h3
    exact CmpOf.ints_gt (numAt xs) (fun _ _ => intItems_at) i j vi vj s Q E h1 h2 h3
  · obtain ⟨h', tk, rfl, hk'⟩ := moved_old e rfl m
    rw [es] at hP hp
    exact h hp v h' tk hP hk'
end PySem.W
namespace Any
open L2 PySem PySem.Spec PyProof.Rows LamX NdefX
/-- max(xs, default=0), xs a list of ints -/
def rMaxD0 (K : PySem.W.Frag) : List V → List V → Hp → VK → Prop := fun vs zs H Q => ∃ (a : Addr) (ns : List Int) (d : Int), vs = [V.ref a] ∧ zs = [.int d] ∧ SqL K H a (ns.map V.int) ∧ (ns = [] → Q (.int d) H) ∧ ∀ m, m ∈ ns → (∀ y, y ∈ ns → y ≤ m) → Q (.int m) H
theorem cr_maxD0 {X : Cx} (hc : X.calm = true) : CallRK X (.builtin "max") [Str.ofString "default"] (rMaxD0 X.K) := by
  intro pins s σ H vs zs us ws Q I r rz h
  obtain ⟨a, ns, d, rfl, rfl, hs, q0, q⟩ := h
  obtain ⟨its, rv, hl, _⟩ := I.list hs
  rw [Vals.ref1 r]
  cases rz with
  | cons r1 r2 =>
  cases r2
  obtain ⟨t, rfl⟩ := r1
  have hi := rv.ints
  obtain ⟨xs, e⟩ := hi.allInts.items
  have hn : numsOf (intItems xs).toList = ns := by rw [← e]; exact hi.numsOf
  rw [nums_intItems] at hn
  subst hn
  have hl2 := hl.isList
  rw [e] at hl2
  refine PySem.W.max_intsD (I.ok.hd hc) hl2 (fun hz h' tk hk => ⟨.int _, H, I.kept hk, ⟨_, rfl⟩, q0 ?_⟩) fun hsz v h' tk hv hk => ?_
  · exact List.eq_nil_of_length_eq_zero (by rw [List.length_map, Array.length_toList]; exact hz)
  obtain ⟨t2, rfl⟩ := intItems_at hv
  obtain ⟨h1, h2⟩ := argBest_gt (numAt xs) (xs.size - 1)
  refine ⟨.int _, H, I.kept hk, ⟨_, rfl⟩, q _ ?_ fun y ha => ?_⟩
  · rw [numAt_eq]; exact PySem.getD_mem (by rw [List.length_map, Array.length_toList]; omega)
  · obtain ⟨j, hj, rfl⟩ := mem_getD ha
    rw [List.length_map, Array.length_toList] at hj
    rw [← numAt_eq]; exact h2 j (by omega)
end Any
set_option pp.maxSteps 600
namespace Any
open L2 PySem PySem.Spec PyProof.Rows LamX NdefX
/-! ### what bodies weigh (bounds.py) -/
def mx (i j : Int) : Int := if j > i then j else i
mutual
/-- W: what the bodies of the rooms weigh -/
def Sg.wt (W : Str → Int) : Sg → Int
  | .ifs _ a b => 1 + mx (a.wt W) (b.wt W)
  | .fors _ m a => 1 + (m + 1) * (1 + a.wt W)
  | .call _ r _ => 8 + 2 * (1 + W r)
  | .set _ _ => 1
  | .say _ _ => 1
  | .hear _ => 1
def Bd.wt (W : Str → Int) : Bd → Int
  | .nil => 0
  | .cons s b => s.wt W + b.wt W
end
theorem Bd.wt_eq (W : Str → Int) : ∀ b : Bd, b.wt W = (b.toL.map (Sg.wt W)).sum
  | .nil => by unfold Bd.wt Bd.toL; rfl
  | .cons s b => by
    unfold Bd.wt Bd.toL
    rw [List.map_cons, List.sum_cons, Bd.wt_eq W b]
theorem Bd.okm {xs ws rs : List Str} : ∀ {b : Bd} {s : Sg}, b.ok xs ws rs → s ∈ b.toL → s.ok xs ws rs
  | .nil, s, _, h => by unfold Bd.toL at h; cases h
  | .cons t b, s, h, m => by
    unfold Bd.ok at h
    unfold Bd.toL at m
    rcases List.mem_cons.mp m with e | m
    · rw [e]
      exact h.1
    · exact Bd.okm h.2 m
mutual
/-- what the rooms called weigh is all that matters -/
theorem Sg.wt_of {xs ws rs : List Str} {V W : Str → Int} (h : ∀ r ∈ rs, V r = W r) : ∀ s : Sg, s.ok xs ws rs → s.wt V = s.wt W
  | .ifs _ a b, ho => by
    unfold Sg.ok at ho
    unfold Sg.wt
    rw [Bd.wt_of h a ho.2.1.1, Bd.wt_of h b ho.2.2.1]
  | .fors _ _ a, ho => by
    unfold Sg.ok at ho
    unfold Sg.wt
    rw [Bd.wt_of h a ho.2.2.1]
  | .call _ r _, ho => by
    unfold Sg.ok at ho
    unfold Sg.wt
    rw [h r ho.2.1]
  | .set _ _, _ => by unfold Sg.wt; rfl
  | .say _ _, _ => by unfold Sg.wt; rfl
  | .hear _, _ => by unfold Sg.wt; rfl
theorem Bd.wt_of {xs ws rs : List Str} {V W : Str → Int} (h : ∀ r ∈ rs, V r = W r) : ∀ b : Bd, b.ok xs ws rs → b.wt V = b.wt W
  | .nil, _ => by unfold Bd.wt; rfl
  | .cons s b, ho => by
    unfold Bd.ok at ho
    unfold Bd.wt
    rw [Sg.wt_of h s ho.1, Bd.wt_of h b ho.2]
end
mutual
theorem Sg.wt_nn {xs ws rs : List Str} {W : Str → Int} (h : ∀ r ∈ rs, 0 ≤ W r) : ∀ s : Sg, s.ok xs ws rs → 0 ≤ s.wt W
  | .ifs _ a b, ho => by
    unfold Sg.ok at ho
    unfold Sg.wt mx
    have h1 := Bd.wt_nn h a ho.2.1.1
    have h2 := Bd.wt_nn h b ho.2.2.1
    split <;> omega
  | .fors _ m a, ho => by
    unfold Sg.ok at ho
    unfold Sg.wt
    have h1 := Bd.wt_nn h a ho.2.2.1
    have h2 : 0 ≤ (m + 1) * (1 + a.wt W) := Int.mul_nonneg (by omega) (by omega)
    omega
  | .call _ r _, ho => by
    unfold Sg.ok at ho
    unfold Sg.wt
    have := h r ho.2.1
    omega
  | .set _ _, _ => by unfold Sg.wt; decide
  | .say _ _, _ => by unfold Sg.wt; decide
  | .hear _, _ => by unfold Sg.wt; decide
theorem Bd.wt_nn {xs ws rs : List Str} {W : Str → Int} (h : ∀ r ∈ rs, 0 ≤ W r) : ∀ b : Bd, b.ok xs ws rs → 0 ≤ b.wt W
  | .nil, _ => by unfold Bd.wt; decide
  | .cons s b, ho => by
    unfold Bd.ok at ho
    unfold Bd.wt
    have h1 := Sg.wt_nn h s ho.1
    have h2 := Bd.wt_nn h b ho.2
    omega
end
/-- a name's number, 0 where it has none -/
def lk (kvs : List (Str × Int)) (x : Str) : Int := (look kvs x).getD 0
abbrev sBW : Stmt := top 41
abbrev sSW : Stmt := top 42
abbrev sTW : Stmt := top 43
abbrev sCW : Stmt := top 44
theorem scBW : FnScope ["body", "weights", "step"] ["body", "weights"] (defScope sBW) := ⟨rfl, rfl, rfl, by decide +kernel, rfl, by decide +kernel, by decide +kernel⟩
theorem scSW : FnScope ["step", "weights", "kind"] ["step", "weights"] (defScope sSW) := ⟨rfl, rfl, rfl, by decide +kernel, rfl, by decide +kernel, by decide +kernel⟩
theorem scTW : FnScope ["step", "weights"] ["step", "weights"] (defScope sTW) := ⟨rfl, rfl, rfl, by decide +kernel, rfl, by decide +kernel, by decide +kernel⟩
theorem scCW : FnScope ["weight"] ["weight"] (defScope sCW) := ⟨rfl, rfl, rfl, by decide +kernel, rfl, by decide +kernel, by decide +kernel⟩
/-- a dict of the weights of these rooms, at least -/
structure WtsAt (H : Hp) (D : Addr) (kvs : List (Str × Int)) (rs : List Str) : Prop where
  at_ : H D = some (.dK (bx kvs))
  all : ∀ r ∈ rs, ∃ n, look kvs r = some n
theorem WtsAt.keep {H H' : Hp} {D : Addr} {kvs : List (Str × Int)} {rs : List Str} (h : WtsAt H D kvs rs) (s : Same H H') : WtsAt H' D kvs rs := ⟨s _ _ h.at_, h.all⟩
def spSW (n : Nat) : Sp := fun vs H Q _ => ∃ (v : V) (s : Sg) (D : Addr) (kvs : List (Str × Int)) (xs ws rs : List Str), vs = [v, .ref D] ∧ SgAt H v s ∧ s.dp ≤ n ∧ s.ok xs ws rs ∧ WtsAt H D kvs rs ∧ ∀ H', Same H H' → Q (.int (s.wt (lk kvs))) H'
def spBW (n : Nat) : Sp := fun vs H Q _ => ∃ (a : Addr) (b : Bd) (D : Addr) (kvs : List (Str × Int)) (xs ws rs : List Str), vs = [.ref a, .ref D] ∧ BdAt H a b ∧ b.dp ≤ n ∧ b.ok xs ws rs ∧ b.len ≤ 12 ∧ WtsAt H D kvs rs ∧ ∀ H', Same H H' → Q (.int (b.wt (lk kvs))) H'
def spTW (n : Nat) : Sp := fun vs H Q _ => ∃ (v u : V) (m : Int) (p c : Addr) (a : Bd) (D : Addr) (kvs : List (Str × Int)) (xs ws rs : List Str), vs = [v, .ref D] ∧ v = .ref p ∧ H p = some (.tup [.str "for", u, .int m, .ref c]) ∧ BdAt H c a ∧ a.dp ≤ n ∧ a.ok xs ws rs ∧ a.len ≤ 12 ∧ WtsAt H D kvs rs ∧ ∀ H', Same H H' → Q (.int (1 + a.wt (lk kvs))) H'
def spCW : Sp := fun vs H Q _ => ∃ i : Int, vs = [.int i] ∧ Q (.int (8 + 2 * (1 + i))) H
section
variable {P : Program} {w : World} {K : PySem.W.Frag} {mg : Str → Option Value} {base : Heap} {f g : Addr} {fd gd : FuncData}
theorem ok_cw (F : Fun K "call_weight" "call_weight" sCW f fd) : FnOk P w K mg base CX0 1 f fd ["weight"] spCW := by
  refine F.ok scCW (fun vs H Q E h => ?_) (fun cdv A outer s H vs Q E hr h => ?_)
  · obtain ⟨i, rfl, _⟩ := h
    rfl
  obtain ⟨i, rfl, q⟩ := h
  refine ⟨_, pss_one (ps_ret (pe_op op_add pe_int (pe_op op_mul pe_int (pe_op op_add pe_int (pv 0))))), ?_⟩
  exact ⟨_, rfl, _, _, rfl, rfl, _, _, rfl, rfl, .inl ⟨by decide, by decide⟩, _, _, rfl, rfl, q⟩
theorem ok_tw {n k : Nat} (F : Fun K "turn_weight" "turn_weight" sTW f fd) (G : Df P w K mg base k "body_weight" ["body", "weights"] (spBW n)) : FnOk P w K mg base CX0 (k + 1) f fd ["step", "weights"] (spTW n) := by
  refine F.ok scTW (fun vs H Q E h => ?_) (fun cdv A outer s H vs Q E hr h => ?_)
  · obtain ⟨v, u, m, p, c, a, D, kvs, xs, ws, rs, rfl, _⟩ := h
    rfl
  obtain ⟨v, u, m, p, c, a, D, kvs, xs, ws, rs, rfl, rfl, hp, hc, hd, ho, hl, hD, q⟩ := h
  refine ⟨_, pss_one (ps_ret (pe_op op_add pe_int (pe_D G hr rfl (pa_cons (pe_ix ix_tup (pv 0) pe_int (fun _ _ => rfl)) (pa_cons (pv 1) pa_nil))))), ?_⟩
  exact ⟨_, rfl, _, _, _, _, rfl, rfl, SqT.of hp, atI_nat (j := 3) rfl, _, rfl, c, a, D, kvs, xs, ws, rs, rfl, hc, hd, ho, hl, hD, fun H2 s2 => ⟨_, _, rfl, rfl, q H2 s2⟩⟩
theorem no_sw {k : Nat} : FnOk P w K mg base CX0 k f fd ["step", "weights"] (spSW 0) := by
  have no : ∀ vs H Q E, ¬ spSW 0 vs H Q E := fun vs H Q E h => by
    obtain ⟨v, s, D, kvs, xs, ws, rs, _, _, hd, _⟩ := h
    exact absurd hd (Nat.not_le.mpr (Sg.dp_pos s))
  exact ⟨fun vs H Q E h => absurd h (no vs H Q E), fun A outer s H args us vs Q E _ _ _ _ h => absurd h (no vs H Q E)⟩
theorem ok_bw {n k : Nat} (O : Own mg) (F : Fun K "body_weight" "body_weight" sBW f fd) (G : Df P w K mg base k "step_weight" ["step", "weights"] (spSW n)) : FnOk P w K mg base CX0 (k + 1) f fd ["body", "weights"] (spBW n) := by
  refine F.ok scBW (fun vs H Q E h => ?_) (fun cdv A outer s H vs Q E hr h => ?_)
  · obtain ⟨a, b, D, kvs, xs, ws, rs, rfl, _⟩ := h
    rfl
  obtain ⟨a, b, D, kvs, xs, ws, rs, rfl, ⟨us, ha, hu⟩, hd, ho, hl, hD, q⟩ := h
  have hs : sizeLine = 16777216 := sizeLine_eq
  have hn := hu.len
  have hp := hu.paired
  refine ⟨_, pss_one (ps_ret (pe_callB (cr_sum rfl) rfl O.sum (by decide +kernel) (pa_cons (pe_lc (own := [("step", 2)]) (g := gName 2) (tt := tYes) rfl scBW.nd (pi_tup (pv 0)) (blkOk_by (N := ["body", "weights", "step"]) (sc := defScope sBW) (by decide +kernel))
    (fun _ _ _ _ _ => pg_name (i := 2) scBW.nd rfl (Or.inl rfl)) (fun _ _ _ _ _ => pts_nil) (fun _ _ _ _ _ => pe_D G hr rfl (pa_cons (pv 2) (pa_cons (pv 1) pa_nil)))) pa_nil))), ?_⟩
  refine ⟨_, rfl, a, rfl, ⟨_, SqT.of ha⟩, fun C hC => ?_⟩
  refine lc_tup (K := K) (a := a) (xs := us) (fun i Hc => Hc C = some (.lst ((((b.toL.take i).map (Sg.wt (lk kvs)))).map V.int)) ∧ Same H Hc) ⟨upd_same, same_new hC _⟩ (fun i Hc _ z => SqT.of (z.2 _ _ ha)) ?_ ?_
  · rintro i v Hc hv ⟨hc, sm⟩
    obtain ⟨st, hst, hat⟩ := paired_get hp hv
    have hi : i < us.length := (List.getElem?_eq_some_iff.mp hv).1
    have dn : st.dp ≤ n := Nat.le_trans (Bd.dp_mem (List.mem_of_getElem? hst)) hd
    have ok2 : st.ok xs ws rs := Bd.okm ho (List.mem_of_getElem? hst)
    refine ⟨rfl, _, rfl, _, rfl, v, st, D, kvs, xs, ws, rs, rfl, SgAt.keep (Same.tups sm) st hat, dn, ok2, hD.keep sm, fun H4 s4 => ⟨_, s4 _ _ hc, ?_, ?_, fun c o hco => ?_⟩⟩
    · rw [List.length_map, List.length_map, List.length_take]
      omega
    · rw [upd_same, List.take_add_one, hst, List.map_append, List.map_append]
      rfl
    · rw [upd_ne (ne_of_none hco hC)]
      exact s4 _ _ (sm _ _ hco)
  · rintro Hc ⟨hc, sm⟩
    have hl2 : us.length = b.toL.length := paired_len hp
    rw [hl2, List.take_length] at hc
    refine ⟨C, _, rfl, SqL.of hc, ?_⟩
    rw [← Bd.wt_eq]
    exact q Hc sm
theorem ok_sw {n k : Nat} (mm : mg "max" = none) (F : Fun K "step_weight" "step_weight" sSW f fd) (G : Df P w K mg base (k + 1) "body_weight" ["body", "weights"] (spBW n)) (GT : Df P w K mg base (k + 2) "turn_weight" ["step", "weights"] (spTW n)) (GC : Df P w K mg base 1 "call_weight" ["weight"] spCW) :
    FnOk P w K mg base CX0 (k + 3) f fd ["step", "weights"] (spSW (n + 1)) := by
  refine F.ok scSW (fun vs H Q E h => ?_) (fun cdv A outer s H vs Q E hr h => ?_)
  · obtain ⟨v, st, D, kvs, xs, ws, rs, rfl, _⟩ := h
    rfl
  obtain ⟨v, st, D, kvs, xs, ws, rs, rfl, hv, hd, ho, hD, q⟩ := h
  have hr1 := hr.mono (show k + 1 ≤ k + 2 by omega)
  have hr2 := hr.mono (show 1 ≤ k + 2 by omega)
  refine ⟨_, pss_cons (ps_set (i := 2) scSW.nd rfl (Or.inl rfl) (pe_ix ix_tup (pv 0) pe_int (fun _ _ => rfl)))
    (pss_cons (ps_if (pt_cmpR op_eq (pv 2) pe_str (nomark _)) (pss_one (ps_ret (pe_op op_add pe_int (pe_callB (call_max2 rfl) rfl mm (by decide +kernel) (pa_cons (pe_D G hr1 rfl (pa_cons (pe_ix ix_tup (pv 0) pe_int (fun _ _ => rfl)) (pa_cons (pv 1) pa_nil))) (pa_cons (pe_D G hr1 rfl (pa_cons (pe_ix ix_tup (pv 0) pe_int (fun _ _ => rfl)) (pa_cons (pv 1) pa_nil))) pa_nil)))))) pss_nil)
    (pss_cons (ps_if (pt_cmpR op_eq (pv 2) pe_str (nomark _)) (pss_one (ps_ret (pe_op op_add pe_int (pe_op op_mul (pe_op op_add (pe_ix ix_tup (pv 0) pe_int (fun _ _ => rfl)) pe_int) (pe_D GT hr rfl (pa_cons (pv 0) (pa_cons (pv 1) pa_nil))))))) pss_nil)
    (pss_cons (ps_if (pt_cmpR op_eq (pv 2) pe_str (nomark _)) (pss_one (ps_ret (pe_D GC hr2 rfl (pa_cons (pe_dget (Nat.lt_of_le_of_lt (Nat.add_le_add_left (show 1 ≤ 64 by decide) _) hr.units) (pv 1) (pe_ix ix_tup (pv 0) pe_int (fun _ _ => rfl)) (fun _ _ => rfl)) pa_nil)))) pss_nil) (pss_one (ps_ret pe_int))))), ?_⟩
  cases st with
  | ifs t a b =>
    unfold SgAt at hv
    unfold Sg.ok at ho
    unfold Sg.dp at hd
    obtain ⟨p, u, pb, pc, bs, cs, rfl, h1, h2, h3, h4, h5, h6⟩ := hv
    refine ⟨_, rfl, _, _, _, _, rfl, rfl, SqT.of h1, atI_nat (j := 0) rfl, _, rfl, rfl, _, rfl, itT eq_str ?_⟩
    refine ⟨_, rfl, _, _, _, _, rfl, rfl, SqT.of h1, atI_nat (j := 2) rfl, _, rfl, pb, a, D, kvs, xs, ws, rs, rfl, ⟨_, h3, h4⟩, by omega, ho.2.1.1, ho.2.1.2, hD, fun H2 s2 => ?_⟩
    refine ⟨_, rfl, _, _, _, _, rfl, rfl, SqT.of (s2 _ _ h1), atI_nat (j := 3) rfl, _, rfl, pc, b, D, kvs, xs, ws, rs, rfl, ⟨_, s2 _ _ h5, BdL.keep (Same.tups s2) b h6⟩, by omega, ho.2.2.1, ho.2.2.2, hD.keep s2, fun H3 s3 => ⟨_, _, rfl, _, _, rfl, rfl, ?_⟩⟩
    have z := q H3 (s2.trans s3)
    unfold Sg.wt mx at z
    exact z
  | fors e m a =>
    unfold SgAt at hv
    unfold Sg.ok at ho
    unfold Sg.dp at hd
    obtain ⟨p, u, pb, bs, rfl, h1, h2, h3, h4⟩ := hv
    refine ⟨_, rfl, _, _, _, _, rfl, rfl, SqT.of h1, atI_nat (j := 0) rfl, _, rfl, rfl, _, rfl, itF (ne_str (by decide)) ?_⟩
    refine ⟨_, rfl, rfl, _, rfl, itT eq_str ?_⟩
    refine ⟨_, rfl, _, _, _, _, rfl, rfl, SqT.of h1, atI_nat (j := 2) rfl, _, _, rfl, rfl, _, rfl, _, rfl, _, u, m, p, pb, a, D, kvs, xs, ws, rs, rfl, rfl, h1, ⟨_, h3, h4⟩, by omega, ho.2.2.1, ho.2.2.2, hD, fun H2 s2 => ⟨_, _, rfl, rfl, .inl ⟨by omega, by omega⟩, _, _, rfl, rfl, ?_⟩⟩
    have z := q H2 s2
    unfold Sg.wt at z
    exact z
  | call x r e =>
    unfold SgAt at hv
    unfold Sg.ok at ho
    obtain ⟨p, u, rfl, h1, h2⟩ := hv
    obtain ⟨i, hi⟩ := hD.all r ho.2.1
    refine ⟨_, rfl, _, _, _, _, rfl, rfl, SqT.of h1, atI_nat (j := 0) rfl, _, rfl, rfl, _, rfl, itF (ne_str (by decide)) ?_⟩
    refine ⟨_, rfl, rfl, _, rfl, itF (ne_str (by decide)) ⟨_, rfl, rfl, _, rfl, itT eq_str ?_⟩⟩
    refine ⟨_, rfl, _, rfl, _, _, _, _, rfl, rfl, SqT.of h1, atI_nat (j := 2) rfl, D, .int i, rfl, ?_, i, rfl, ?_⟩
    · have z := DGet.k (k := Sum.inr r) hD.at_
      rw [bx_val, hi] at z
      exact z
    have z := q H same_refl
    unfold Sg.wt lk at z
    rw [hi] at z
    exact z
  | set x e =>
    unfold SgAt at hv
    obtain ⟨p, u, rfl, h1, h2⟩ := hv
    refine ⟨_, rfl, _, _, _, _, rfl, rfl, SqT.of h1, atI_nat (j := 0) rfl, _, rfl, rfl, _, rfl, itF (ne_str (by decide)) ?_⟩
    refine ⟨_, rfl, rfl, _, rfl, itF (ne_str (by decide)) ⟨_, rfl, rfl, _, rfl, itF (ne_str (by decide)) ?_⟩⟩
    have z := q H same_refl
    unfold Sg.wt at z
    exact z
  | say x e =>
    unfold SgAt at hv
    obtain ⟨p, u, rfl, h1, h2⟩ := hv
    refine ⟨_, rfl, _, _, _, _, rfl, rfl, SqT.of h1, atI_nat (j := 0) rfl, _, rfl, rfl, _, rfl, itF (ne_str (by decide)) ?_⟩
    refine ⟨_, rfl, rfl, _, rfl, itF (ne_str (by decide)) ⟨_, rfl, rfl, _, rfl, itF (ne_str (by decide)) ?_⟩⟩
    have z := q H same_refl
    unfold Sg.wt at z
    exact z
  | hear x =>
    unfold SgAt at hv
    obtain ⟨p, rfl, h1⟩ := hv
    refine ⟨_, rfl, _, _, _, _, rfl, rfl, SqT.of h1, atI_nat (j := 0) rfl, _, rfl, rfl, _, rfl, itF (ne_str (by decide)) ?_⟩
    refine ⟨_, rfl, rfl, _, rfl, itF (ne_str (by decide)) ⟨_, rfl, rfl, _, rfl, itF (ne_str (by decide)) ?_⟩⟩
    have z := q H same_refl
    unfold Sg.wt at z
    exact z
/-- bodies n deep -/
theorem all_sw (O : Own mg) (mm : mg "max" = none) (NS : Nd K mg "step_weight" sSW ["step", "weights"]) (NB : Nd K mg "body_weight" sBW ["body", "weights"]) (NT : Nd K mg "turn_weight" sTW ["step", "weights"]) (GC : Df P w K mg base 1 "call_weight" ["weight"] spCW) :
    ∀ n : Nat, Df P w K mg base (3 * n) "step_weight" ["step", "weights"] (spSW n)
  | 0 => by
    obtain ⟨f, fd, h1, h2, h3⟩ := NS
    exact ⟨f, fd, h1, h2.kp, no_sw, h3⟩
  | n + 1 => by
    have S := all_sw O mm NS NB NT GC n
    have B : Df P w K mg base (3 * n + 1) "body_weight" ["body", "weights"] (spBW n) := by
      obtain ⟨f, fd, h1, h2, h3⟩ := NB
      exact ⟨f, fd, h1, h2.kp, ok_bw O h2 S, h3⟩
    have T : Df P w K mg base (3 * n + 2) "turn_weight" ["step", "weights"] (spTW n) := by
      obtain ⟨f, fd, h1, h2, h3⟩ := NT
      exact ⟨f, fd, h1, h2.kp, ok_tw h2 B, h3⟩
    obtain ⟨f, fd, h1, h2, h3⟩ := NS
    exact ⟨f, fd, h1, h2.kp, ok_sw mm h2 B T GC, h3⟩
end
end Any
set_option pp.maxSteps 600
namespace Any
open L2 PySem PySem.Spec PyProof.Rows LamX NdefX
/-! ### tables that are filled from behind -/
def tabF (g : Rm → List (Str × Int) → Int) (l : List Rm) : List (Str × Int) := l.foldl (fun kvs r => kvs ++ [(r.name, g r kvs)]) []
section
variable {g : Rm → List (Str × Int) → Int}
theorem tabF_snoc (l : List Rm) (r : Rm) : tabF g (l ++ [r]) = tabF g l ++ [(r.name, g r (tabF g l))] := by
  unfold tabF
  rw [List.foldl_append]
  rfl
theorem tabF_take {l : List Rm} {i : Nat} {r : Rm} (h : l[i]? = some r) : tabF g (l.take (i + 1)) = tabF g (l.take i) ++ [(r.name, g r (tabF g (l.take i)))] := by
  rw [List.take_add_one, h]
  exact tabF_snoc _ _
theorem tabF_app (l : List Rm) : ∀ m : List Rm, ∃ more, tabF g (l ++ m) = tabF g l ++ more := fun m => by
  induction m generalizing l with
  | nil => exact ⟨[], by rw [List.append_nil, List.append_nil]⟩
  | cons x m ih =>
    obtain ⟨more, e⟩ := ih (l ++ [x])
    rw [List.append_assoc] at e
    rw [tabF_snoc, List.append_assoc] at e
    exact ⟨_, e⟩
theorem tabF_keys : ∀ l : List Rm, (tabF g l).map (·.1) = l.map (·.name) := fun l => by
  have main : ∀ (m l : List Rm), (tabF g l).map (·.1) = l.map (·.name) → (tabF g (l ++ m)).map (·.1) = (l ++ m).map (·.name) := fun m => by
    induction m with
    | nil => intro l h; rw [List.append_nil]; exact h
    | cons x m ih =>
      intro l h
      have := ih (l ++ [x]) (by rw [tabF_snoc, List.map_append, List.map_append, h]; rfl)
      rw [List.append_assoc] at this
      exact this
  exact main l [] rfl
theorem look_app {kvs more : List (Str × Int)} {x : Str} {n : Int} (h : look kvs x = some n) : look (kvs ++ more) x = some n := by
  unfold look at h ⊢
  rw [List.find?_append]
  cases e : kvs.find? fun kv => decide (kv.1 = x) with
  | none => rw [e] at h; cases h
  | some p => rw [e] at h; exact h
theorem look_new {kvs : List (Str × Int)} {x : Str} {n : Int} (h : x ∉ kvs.map (·.1)) : look (kvs ++ [(x, n)]) x = some n := by
  unfold look
  rw [List.find?_append, List.find?_eq_none.mpr fun p hp z => h (List.mem_map.mpr ⟨p, hp, of_decide_eq_true z⟩)]
  rw [List.find?_cons, decide_eq_true rfl]
  rfl
theorem look_some : ∀ {kvs : List (Str × Int)} {x : Str}, x ∈ kvs.map (·.1) → ∃ n, look kvs x = some n
  | [], x, h => by cases h
  | p :: r, x, h => by
    unfold look
    rw [List.find?_cons]
    by_cases e : p.1 = x
    · rw [decide_eq_true e]
      exact ⟨_, rfl⟩
    · rw [decide_eq_false e]
      rcases List.mem_cons.mp h with z | z
      · exact absurd z.symm e
      · exact look_some z
theorem lk_none {kvs : List (Str × Int)} {x : Str} (h : x ∉ kvs.map (·.1)) : lk kvs x = 0 := by
  unfold lk look
  rw [List.find?_eq_none.mpr fun p hp z => h (List.mem_map.mpr ⟨p, hp, of_decide_eq_true z⟩)]
  rfl
/-- what was found stays -/
theorem look_take {l : List Rm} {i : Nat} {x : Str} {n : Int} (h : look (tabF g (l.take i)) x = some n) : look (tabF g l) x = some n := by
  obtain ⟨more, e⟩ := tabF_app (g := g) (l.take i) (l.drop i)
  rw [List.take_append_drop] at e
  rw [e]
  exact look_app h
theorem tab_at {l : List Rm} {i : Nat} {r : Rm} (nd : (l.map (·.name)).Nodup) (h : l[i]? = some r) : look (tabF g l) r.name = some (g r (tabF g (l.take i))) := by
  have h2 : (l.map (·.name))[i]? = some r.name := by rw [List.getElem?_map, h]; rfl
  refine look_take (i := i + 1) ?_
  rw [tabF_take h]
  refine look_new ?_
  rw [tabF_keys, List.map_take]
  exact nd_take nd h2
end
/-! ### a right program's rooms from behind -/
theorem ben_behind {rs : List Rm} (h : Right rs) {i : Nat} {r : Rm} (hi : rs[i]? = some r) {n : Str} (hn : n ∈ ben rs r.name) : ∃ k o, i < k ∧ rs[k]? = some o ∧ o.name = n := by
  unfold ben at hn
  obtain ⟨o, h1, rfl⟩ := List.mem_map.mp hn
  obtain ⟨h2, h3⟩ := List.mem_filter.mp h1
  obtain ⟨k, hk⟩ := List.getElem?_of_mem h2
  have z := h.all k o hk
  have ha : o.above = r.name := of_decide_eq_true h3
  have ne : k ≠ 0 := fun e => by
    have e1 := z.above.1 e
    have e2 := (h.all i r hi).name.lo
    rw [← ha, e1] at e2
    exact absurd e2 (by decide)
  obtain ⟨q, hq, eq⟩ := List.mem_map.mp (z.above.2 ne).1
  obtain ⟨j, hj⟩ := List.getElem?_of_mem hq
  rw [List.getElem?_take] at hj
  by_cases jk : j < k
  · rw [if_pos jk] at hj
    rw [ha] at eq
    have e : i = j := by
      rcases Nat.lt_trichotomy i j with z1 | z1 | z1
      · exfalso
        refine (h.all j q hj).one ?_
        rw [eq]
        exact List.mem_map_of_mem (List.mem_of_getElem? (by rw [List.getElem?_take, if_pos z1]; exact hi))
      · exact z1
      · exfalso
        refine (h.all i r hi).one ?_
        rw [← eq]
        exact List.mem_map_of_mem (List.mem_of_getElem? (by rw [List.getElem?_take, if_pos z1]; exact hj))
    exact ⟨k, o, by omega, hk, rfl⟩
  · rw [if_neg jk] at hj
    cases hj
theorem right_nd {rs : List Rm} (h : Right rs) : (rs.map (·.name)).Nodup := by
  rw [List.nodup_iff_pairwise_ne, List.pairwise_iff_getElem]
  intro i j hi hj hij e
  rw [List.length_map] at hi hj
  rw [List.getElem_map, List.getElem_map] at e
  refine (h.all j rs[j] (List.getElem?_eq_getElem hj)).one ?_
  rw [← e]
  exact List.mem_map_of_mem (List.mem_of_getElem? (i := i) (by rw [List.getElem?_take, if_pos hij]; exact List.getElem?_eq_getElem hi))
theorem rev_at {rs : List Rm} {i : Nat} {r : Rm} (h : rs[i]? = some r) : rs.reverse[rs.length - 1 - i]? = some r := by
  have hi := (List.getElem?_eq_some_iff.mp h).1
  rw [List.getElem?_reverse (by omega), show rs.length - 1 - (rs.length - 1 - i) = i by omega]
  exact h
theorem at_rev {rs : List Rm} {i : Nat} {r : Rm} (h : rs.reverse[i]? = some r) : rs[rs.length - 1 - i]? = some r := by
  have hi := (List.getElem?_eq_some_iff.mp h).1
  rw [List.length_reverse] at hi
  rw [List.getElem?_reverse hi] at h
  exact h
theorem rev_nd {rs : List Rm} (h : Right rs) : (rs.reverse.map (·.name)).Nodup := by
  rw [List.map_reverse]
  exact (List.reverse_perm _).nodup_iff.mpr (right_nd h)
/-- the rooms beneath have been there, from behind -/
theorem ben_take {g : Rm → List (Str × Int) → Int} {rs : List Rm} (h : Right rs) {i : Nat} {r : Rm} (hi : rs.reverse[i]? = some r) {n : Str} (hn : n ∈ ben rs r.name) : ∃ v, look (tabF g (rs.reverse.take i)) n = some v := by
  have il := (List.getElem?_eq_some_iff.mp hi).1
  rw [List.length_reverse] at il
  obtain ⟨k, o, h1, h2, rfl⟩ := ben_behind h (at_rev hi) hn
  refine look_some ?_
  rw [tabF_keys]
  have h3 := rev_at h2
  have kl := (List.getElem?_eq_some_iff.mp h2).1
  exact List.mem_map_of_mem (List.mem_of_getElem? (i := rs.length - 1 - k) (by rw [List.getElem?_take, if_pos (by omega)]; exact h3))
theorem lk_take {g : Rm → List (Str × Int) → Int} {rs : List Rm} (h : Right rs) {i : Nat} {r : Rm} (hi : rs.reverse[i]? = some r) {n : Str} (hn : n ∈ ben rs r.name) : lk (tabF g (rs.reverse.take i)) n = lk (tabF g rs.reverse) n := by
  obtain ⟨v, hv⟩ := ben_take (g := g) h hi hn
  unfold lk
  rw [hv, look_take hv]
theorem body_of {rs : List Rm} (h : Right rs) {i : Nat} {r : Rm} (hi : rs[i]? = some r) : ∃ ws, r.body.right r.bn ws (ben rs r.name) := by
  have z := h.all i r hi
  by_cases c : i = 0
  · exact ⟨_, (z.first c).2⟩
  · exact ⟨_, (z.other c).2⟩
/-! ### weights -/
def gW : Rm → List (Str × Int) → Int := fun r kvs => r.body.wt (lk kvs)
def Wt (rs : List Rm) : Str → Int := lk (tabF gW rs.reverse)
theorem wt_take {rs : List Rm} (h : Right rs) {i : Nat} {r : Rm} (hi : rs.reverse[i]? = some r) : r.body.wt (lk (tabF gW (rs.reverse.take i))) = r.body.wt (Wt rs) := by
  obtain ⟨ws, b1, _⟩ := body_of h (at_rev hi)
  exact Bd.wt_of (fun n hn => lk_take h hi hn) _ b1
theorem wt_at {rs : List Rm} (h : Right rs) {i : Nat} {r : Rm} (hi : rs[i]? = some r) : Wt rs r.name = r.body.wt (Wt rs) := by
  rw [← wt_take h (rev_at hi)]
  unfold Wt lk
  rw [tab_at (rev_nd h) (rev_at hi)]
  rfl
theorem wt_nn {rs : List Rm} (h : Right rs) (n : Str) : 0 ≤ Wt rs n := by
  have main : ∀ i, i ≤ rs.length → ∀ n, 0 ≤ lk (tabF gW (rs.reverse.take i)) n := fun i => by
    induction i with
    | zero => intro _ n; exact Int.le_refl 0
    | succ i ih =>
      intro hi n
      obtain ⟨r, hr⟩ : ∃ r, rs.reverse[i]? = some r := ⟨_, List.getElem?_eq_getElem (by rw [List.length_reverse]; omega)⟩
      have z := ih (by omega)
      obtain ⟨ws, b1, _⟩ := body_of h (at_rev hr)
      have nn : 0 ≤ r.body.wt (lk (tabF gW (rs.reverse.take i))) := Bd.wt_nn (fun x _ => z x) _ b1
      rw [tabF_take hr]
      by_cases m : n ∈ (tabF gW (rs.reverse.take i)).map (·.1)
      · obtain ⟨v, hv⟩ := look_some m
        have z2 := z n
        unfold lk at z2 ⊢
        rw [hv] at z2
        rw [look_app hv]
        exact z2
      · by_cases e : r.name = n
        · subst e
          unfold lk
          rw [look_new m]
          exact nn
        · rw [lk_none]
          · exact Int.le_refl 0
          · rw [List.map_append]
            intro q
            rcases List.mem_append.mp q with q | q
            · exact m q
            · exact e (List.mem_singleton.mp q).symm
  have z := main rs.length (Nat.le_refl _) n
  rw [List.take_of_length_le (by rw [List.length_reverse]; exact Nat.le_refl _)] at z
  exact z
/-! ### beats to home, to right -/
def Rm.home (W : Str → Int) (r : Rm) : Int := (if r.above = "" then 1 else 4) + r.body.wt W
def gR (rs : List Rm) : Rm → List (Str × Int) → Int := fun r kvs => ((ben rs r.name).map (lk kvs)).foldl mx 0 + r.home (Wt rs)
def Rt (rs : List Rm) : Str → Int := lk (tabF (gR rs) rs.reverse)
theorem rt_take {rs : List Rm} (h : Right rs) {i : Nat} {r : Rm} (hi : rs.reverse[i]? = some r) : (ben rs r.name).map (lk (tabF (gR rs) (rs.reverse.take i))) = (ben rs r.name).map (Rt rs) := List.map_congr_left fun n hn => lk_take h hi hn
theorem rt_at {rs : List Rm} (h : Right rs) {i : Nat} {r : Rm} (hi : rs[i]? = some r) : Rt rs r.name = ((ben rs r.name).map (Rt rs)).foldl mx 0 + r.home (Wt rs) := by
  rw [← rt_take h (rev_at hi)]
  show (look (tabF (gR rs) rs.reverse) r.name).getD 0 = _
  rw [tab_at (rev_nd h) (rev_at hi)]
  rfl
theorem fold_mx : ∀ (l : List Int) (a : Int), a ≤ l.foldl mx a ∧ (∀ y ∈ l, y ≤ l.foldl mx a) ∧ (l.foldl mx a = a ∨ l.foldl mx a ∈ l)
  | [], a => ⟨Int.le_refl _, (fun y h => by cases h), .inl rfl⟩
  | x :: r, a => by
    obtain ⟨h1, h2, h3⟩ := fold_mx r (mx a x)
    have m : a ≤ mx a x ∧ x ≤ mx a x ∧ (mx a x = a ∨ mx a x = x) := by
      unfold mx
      split
      · exact ⟨by omega, by omega, .inr rfl⟩
      · exact ⟨by omega, by omega, .inl rfl⟩
    refine ⟨Int.le_trans m.1 h1, fun y hy => ?_, ?_⟩
    · rcases List.mem_cons.mp hy with e | e
      · rw [e]
        exact Int.le_trans m.2.1 h1
      · exact h2 y e
    · show (r.foldl mx (mx a x) = a ∨ r.foldl mx (mx a x) ∈ x :: r)
      rcases h3 with e | e
      · rw [e]
        rcases m.2.2 with e2 | e2
        · exact .inl e2
        · exact .inr (by rw [e2]; exact List.mem_cons_self)
      · exact .inr (List.mem_cons_of_mem _ e)
/-- a greatest one of numbers of 0 or more -/
theorem fold_is {l : List Int} {m : Int} (hm : m ∈ l) (h : ∀ y ∈ l, y ≤ m) (h0 : ∀ y ∈ l, 0 ≤ y) : l.foldl mx 0 = m := by
  obtain ⟨h1, h2, h3⟩ := fold_mx l 0
  have a1 := h2 m hm
  have a2 := h0 m hm
  rcases h3 with e | e
  · omega
  · have := h _ e
    omega
theorem home_nn {rs : List Rm} (h : Right rs) {i : Nat} {r : Rm} (hi : rs[i]? = some r) : 0 ≤ r.home (Wt rs) := by
  obtain ⟨ws, b1, _⟩ := body_of h hi
  have := Bd.wt_nn (fun n _ => wt_nn h n) _ b1
  unfold Rm.home
  split <;> omega
/-- each number found is 0 or more -/
theorem rt_nn {rs : List Rm} (h : Right rs) : ∀ i, i ≤ rs.length → ∀ n, 0 ≤ lk (tabF (gR rs) (rs.reverse.take i)) n
  | 0, _, n => Int.le_refl 0
  | i + 1, hi, n => by
    obtain ⟨r, hr⟩ : ∃ r, rs.reverse[i]? = some r := ⟨_, List.getElem?_eq_getElem (by rw [List.length_reverse]; omega)⟩
    have z := rt_nn h i (by omega)
    have nn : 0 ≤ gR rs r (tabF (gR rs) (rs.reverse.take i)) := by
      have a := (fold_mx ((ben rs r.name).map (lk (tabF (gR rs) (rs.reverse.take i)))) 0).1
      have b := home_nn h (at_rev hr)
      unfold gR at *
      omega
    rw [tabF_take hr]
    by_cases m : n ∈ (tabF (gR rs) (rs.reverse.take i)).map (·.1)
    · obtain ⟨v, hv⟩ := look_some m
      have z2 := z n
      unfold lk at z2 ⊢
      rw [hv] at z2
      rw [look_app hv]
      exact z2
    · by_cases e : r.name = n
      · subst e
        unfold lk
        rw [look_new m]
        exact nn
      · rw [lk_none]
        · exact Int.le_refl 0
        · rw [List.map_append]
          intro q
          rcases List.mem_append.mp q with q | q
          · exact m q
          · exact e (List.mem_singleton.mp q).symm
end Any
set_option pp.maxSteps 600
set_option maxHeartbeats 1000000
namespace Any
open L2 PySem PySem.Spec PyProof.Rows
/-! ### a tuple from behind: xs[::-1] -/
theorem fm_all {α β : Type} (f : α → Option β) : ∀ l : List α, (∀ a ∈ l, (f a).isSome = true) → (l.filterMap f).map some = l.map f
  | [], _ => rfl
  | x :: r, h => by
    have h1 := h x List.mem_cons_self
    cases e : f x with
    | none => rw [e] at h1; cases h1
    | some y =>
      rw [List.filterMap_cons, e]
      show some y :: _ = _
      rw [fm_all f r fun a ha => h a (List.mem_cons_of_mem _ ha), List.map_cons, e]
theorem somes_inj {β : Type} {a b : List β} (h : a.map some = b.map some) : a = b := by
  have := congrArg (List.filterMap id) h
  rwa [List.filterMap_map, List.filterMap_map, show (id ∘ some : β → Option β) = some from rfl, List.filterMap_some, List.filterMap_some] at this
theorem pick_rev (xs : Array Value) : ((List.range xs.size).filterMap fun (m : Nat) => xs[(((xs.size : Int) - 1) + (m : Int) * (-1)).toNat]?) = xs.toList.reverse := by
  refine somes_inj ?_
  rw [fm_all]
  · refine List.ext_getElem? fun i => ?_
    rw [List.getElem?_map, List.getElem?_map]
    by_cases hi : i < xs.size
    · rw [List.getElem?_range hi, List.getElem?_reverse (by rw [Array.length_toList]; exact hi), Array.length_toList, Array.getElem?_toList]
      show some (xs[_]?) = _
      rw [show (((xs.size : Int) - 1) + (i : Int) * (-1)).toNat = xs.size - 1 - i by omega, Array.getElem?_eq_getElem (show xs.size - 1 - i < xs.size by omega)]
      rfl
    · rw [List.getElem?_eq_none (by rw [List.length_range]; omega), List.getElem?_eq_none (by rw [List.length_reverse, Array.length_toList]; omega)]
      rfl
  · intro m hm
    have hm : m < xs.size := List.mem_range.mp hm
    rw [show (((xs.size : Int) - 1) + (m : Int) * (-1)).toNat = xs.size - 1 - m by omega, Array.getElem?_eq_getElem (show xs.size - 1 - m < xs.size by omega)]
    rfl
section
variable {prog : Program} {w : World} {A : Around} {E : Value → Shared → Prop} {s : Shared}
theorem rev_places (n : Nat) (h : 0 < n) : Builtin.Slice.slicePlaces ((n : Int) - 1) (-1) (-1) = n := by
  unfold Builtin.Slice.slicePlaces
  rw [if_neg (by decide), if_pos (by omega)]
  have : ((n : Int) - 1 - -1 - 1) / (- -1) + 1 = n := by
    rw [show (- -1 : Int) = 1 by decide, Int.ediv_one]
    omega
  rw [this]
  rfl
theorem getItem_tuple_rev {t sl : Addr} {items : Array Value} {vk : Value} {Q : Value → Shared → Prop} (ht : IsTup s.heap t items) (hs : s.heap.IsSliceOf sl .none .none vk) (pk : IsPart vk (some (-1))) (hn : 1 ≤ items.size)
    (h : Q (.ref s.heap.objs.size) { s with heap := s.heap.push { cls := .type "tuple", data := .seq items.toList.reverse.toArray } }) (hsz : items.size ≤ sizeLine) : wpAny (model prog w) A (getItem (.ref t) (.ref sl)) Q E s := by
  have htake : sizeOk (.seq items.toList.reverse.toArray) := by
    show items.toList.reverse.toArray.size ≤ sizeLine
    rw [List.size_toArray, List.length_reverse, Array.length_toList]
    exact hsz
  obtain ⟨os, hos, hcs, hds⟩ := id hs
  have hTs : s.TypeIs (.ref sl) "slice" := ⟨os, hos, hcs⟩
  have app : ∀ {A : Around} {E : Value → Shared → Prop} {Q : Int × Int × Nat → Shared → Prop}, Q ((items.size : Int) - 1, -1, items.size) s → wpAny (model prog w) A (Builtin.Slice.sliceApplied (.ref sl) (pure (items.size : Int))) Q E s := fun {A E Q} h => by
    unfold Builtin.Slice.sliceApplied Builtin.Slice.sliceFields
    refine wpAny_bind (wpAny_bind (wpAny_field hos hds (x := .none) rfl (wpAny_bind (wpAny_field hos hds (x := .none) rfl (wpAny_bind (wpAny_field hos hds (x := vk) rfl (wpAny_pure ?_)))))))
    refine wpAny_bind (HT.slicePart_ pk ?_)
    show wpAny _ _ (if ((-1 : Int) == 0) = true then _ else _) _ _ s
    rw [if_neg (by decide)]
    refine wpAny_bind (slicePart_none (wpAny_bind (slicePart_none (wpAny_bind (wpAny_pure ?_)))))
    show wpAny _ _ (pure ((items.size : Int) - 1, (-1 : Int), Builtin.Slice.slicePlaces ((items.size : Int) - 1) (-1) (-1))) _ _ s
    rw [rev_places _ (by omega)]
    exact wpAny_pure h
  unfold getItem
  try with_reducible refine wpAny_holding ?_
  first | refine wpAny_bind (wpAny_pure ?_) | skip
  refine wpAny_bind (wpAny_sequenceKey ht.typeIs (by decide) ?_)
  refine wpAny_bind (wpAny_callSpecial?_slot (name := Str.ofString "__getitem__") ht.typeIs PyProof.Rows.slot_tuple_getitem
    (wpAny_call_entry PyProof.Rows.slot_tuple_getitem ht.typeIs entry_tuple_getitem ?_ (args_tuple_getitem _ _)))
  show wpAny _ _ (Builtin.Tuple.tupleItemsOf (.ref t) >>= _) _ _ s
  refine wpAny_bind (tupleItemsOf_ ht ?_)
  refine wpAny_bind (wpAny_typeOf hTs ?_)
  rw [if_pos (by decide)]
  refine wpAny_bind (app ?_)
  show wpAny _ _ (if (((items.size : Int) - 1) == 0 && (-1 : Int) == 1 && items.size == items.size) = true then _ else _) _ _ s
  rw [if_neg (by simp), pick_rev]
  first
    | exact wpAny_bind (m := Builtin.Tuple.tupleExact _) (wpAny_newObj_type (wpAny_pure ⟨_, rfl, wpAny_pure h⟩) htake)
    | exact wpAny_bind (m := Builtin.Tuple.tupleExact _) (wpAny_newObj_type (wpAny_bind (wpAny_pure (wpAny_pure ⟨_, rfl, wpAny_pure h⟩))) htake)
    | exact wpAny_bind (wpAny_bind (m := Builtin.Tuple.tupleExact _) (wpAny_newObj_type (wpAny_pure (wpAny_pure ⟨_, rfl, wpAny_pure h⟩)) htake))
    | exact wpAny_bind (wpAny_bind (m := Builtin.Tuple.tupleExact _) (wpAny_newObj_type (wpAny_pure ⟨_, rfl, wpAny_pure h⟩) htake))
end
/-- of a tuple of one thing at least -/
def tRevT (K : PySem.W.Frag) (te ts : TE) : TE := fun σ H Q => te σ H fun x H1 => ts σ H1 fun y H2 => ∃ a xs, x = .ref a ∧ SqT K H2 a xs ∧ 1 ≤ xs.length ∧ y = .int (-1) ∧ ∀ p, H2 p = none → Q (.ref p) (upd H2 p (.tup xs.reverse))
theorem pe_revT {X : Cx} {e st : Expr} {te ts : TE} {p3 pos : Pos} (he : PE X e te) (hst : PE X st ts) : PE X (.Subscript e (.Slice none none (some st) p3) pos) (tRevT X.K te ts) := by
  refine ⟨fun pins s σ H Q I h => ?_⟩
  refine Subscript_ (thn (he.run pins s σ H _ I h) fun v s1 ⟨x, H1, I1, r1, q1⟩ => ?_)
  refine wpAny_Slice (thn (po_none.run pins s1 σ H1 (fun o H2 => o = none ∧ H2 = H1) I1 ⟨rfl, rfl⟩) fun vl s2 ⟨l, H2, I2, pl, el, e2⟩ => ?_)
  subst el e2
  refine thn (po_none.run pins s2 σ H2 (fun o H3 => o = none ∧ H3 = H2) I2 ⟨rfl, rfl⟩) fun vu s3 ⟨u, H3, I3, pu, eu, e3⟩ => ?_
  subst eu e3
  rw [evalPart_some]
  refine thn (hst.run pins s3 σ H3 _ I3 q1) fun vs s4 ⟨y, H4, I4, r4, a, xs, ex, hx, hl, ey, q⟩ => ?_
  subst ex
  cases r1
  cases pl
  cases pu
  subst ey
  obtain ⟨t, rfl⟩ := (show ∃ t, vs = Value.int (-1) t from r4)
  have I5 : Inv X pins σ H4 { s4 with heap := s4.heap.push { cls := .type "slice", data := .fields #[.none, .none, .int (-1) t] } } := I4.kept (t' := s4.toks) fun b ob q => Heap.get?_push_of_some _ q
  obtain ⟨its, r, ht, hz⟩ := I5.tuple hx
  have hlen := r.length
  show wpAny (model X.prog X.w) X.A (subscriptTail e (.Slice none none (some st) p3) (.ref a) (.ref s4.heap.objs.size)) (EP X pins σ Q) X.xe _
  refine tail_any (ops := [.ref a, .ref s4.heap.objs.size]) ht.typeIs (PyProof.Rows.slot_tuple_getitem.lookup) ?_ (by with_unfolding_all rfl)
  refine getItem_tuple_rev ht (Heap.IsSliceOf.new _ .none .none (.int (-1) t)) (IsPart.int (-1) t) (by rw [List.size_toArray]; omega) ?_ (by rw [List.size_toArray]; omega)
  refine ⟨.ref _, _, I5.laid (t' := s4.toks) (o := .tup xs.reverse) (fun b ob q => Heap.get?_push_of_some _ q) (Nat.le_refl _) ?_, rfl, q _ (I5.hok.fresh (Nat.le_refl _))⟩
  exact ⟨by rw [List.length_reverse]; exact hz, its.reverse, r.reverse, ⟨_, Heap.get?_push_size _ rfl, rfl, _, rfl⟩⟩
end Any
set_option pp.maxSteps 600
namespace Any
open L2 PySem PySem.Spec PyProof.Rows LamX NdefX
/-! ### a program's rooms, and those beneath one; home_beats, body_weights -/
theorem pe_Mz {X : Cx} {k : Nat} {m : Str} {C : Addr} {sp : Sp} {pos apos : Pos} {o : Expr} {ta : TE} {pl : Sem Bool} (D : Mf X.prog X.w X.K X.mg X.base C k m ["self"] sp) (c : Cls X.K C) (he : PE X o ta) (hr : Room k X.A)
    (ht : eval (.Call (.Attribute o m apos) [] [] pos) X.env = (do
      let ov ← eval o X.env
      standAt apos.atName
      let (f, first) ← holding [ov] (getMethod ov m pl)
      callWith pos f first (backTo pos (starEach [] X.env)) (backToKw pos (keywordEach [] X.env))) := by rfl) :
    PE X (.Call (.Attribute o m apos) [] [] pos) (tMeth C m sp [] E0 ta tNil) := by
  obtain ⟨f, fd, hm, F, hb⟩ := D
  exact pe_meth0 he c hm F hr hb .nil pass0 ht
abbrev sRms : Stmt := inClass (top 65) 1
abbrev sBen : Stmt := inClass (top 65) 3
abbrev sHB : Stmt := top 38
abbrev sBWs : Stmt := top 40
theorem scRms : FnScope ["self"] ["self"] (defScope sRms) := ⟨rfl, rfl, rfl, by decide +kernel, rfl, by decide +kernel, by decide +kernel⟩
theorem scBen : FnScope ["self", "name", "above", "room"] ["self", "name"] (defScope sBen) := ⟨rfl, rfl, rfl, by decide +kernel, rfl, by decide +kernel, by decide +kernel⟩
theorem scHB : FnScope ["room", "weights"] ["room", "weights"] (defScope sHB) := ⟨rfl, rfl, rfl, by decide +kernel, rfl, by decide +kernel, by decide +kernel⟩
theorem scBWs : FnScope ["program", "found", "room"] ["program"] (defScope sBWs) := ⟨rfl, rfl, rfl, by decide +kernel, rfl, by decide +kernel, by decide +kernel⟩
/-- a program of these rooms -/
def PgOk (C D : Addr) (H : Hp) (x : Addr) (rs : List Rm) : Prop := ∃ R, HeldAt D H x R ∧ RsAt C H R rs
theorem RsAt.keepS {C : Addr} {H H' : Hp} (s : Same H H') {R : Addr} {rs : List Rm} (h : RsAt C H R rs) : RsAt C H' R rs := by
  obtain ⟨as, h1, h2⟩ := h
  exact ⟨as, s _ _ h1, paired_imp (fun _ _ q => q.keep s) h2⟩
theorem PgOk.keep {C D : Addr} {H H' : Hp} {x : Addr} {rs : List Rm} (h : PgOk C D H x rs) (s : Same H H') : PgOk C D H' x rs := by
  obtain ⟨R, h1, h2⟩ := h
  exact ⟨R, h1.keep s, h2.keepS s⟩
def spRms (D : Addr) : Sp := fun vs H Q _ => ∃ x R : Addr, vs = [.ref x] ∧ HeldAt D H x R ∧ Q (.ref R) H
def spBen (C D : Addr) : Sp := fun vs H Q _ => ∃ (x : Addr) (rs : List Rm) (i : Nat) (r : Rm), vs = [.ref x, .str r.name] ∧ PgOk C D H x rs ∧ Right rs ∧ rs[i]? = some r ∧
  ∀ p H', H p = none → Same H H' → H' p = some (.lst ((ben rs r.name).map V.str)) → Q (.ref p) H'
def spHB (C : Addr) : Sp := fun vs H Q _ => ∃ (a W : Addr) (r : Rm) (kvs : List (Str × Int)) (n : Int), vs = [.ref a, .ref W] ∧ RmAt C H a r ∧ H W = some (.dK (bx kvs)) ∧ look kvs r.name = some n ∧ Q (.int ((if r.above = "" then 1 else 4) + n)) H
def spBWs (C D : Addr) : Sp := fun vs H Q _ => ∃ (x : Addr) (rs : List Rm), vs = [.ref x] ∧ PgOk C D H x rs ∧ Right rs ∧ ∀ p H', H p = none → Same H H' → H' p = some (.dK (bx (tabF gW rs.reverse))) → Q (.ref p) H'
theorem right_uno {rs : List Rm} (h : Right rs) {i : Nat} {r : Rm} (hi : rs[i]? = some r) : ∀ (j : Nat) (r' : Rm), j < i → rs[j]? = some r' → r'.name ≠ r.name := fun j r' hj h' e => by
  refine (h.all i r hi).one ?_
  rw [← e]
  exact List.mem_map_of_mem (List.mem_of_getElem? (by rw [List.getElem?_take, if_pos hj]; exact h'))
section
variable {P : Program} {w : World} {K : PySem.W.Frag} {mg : Str → Option Value} {base : Heap} {f C D : Addr} {fd : FuncData}
theorem ok_rms (TP : HeldC K D) (F : Fun K "rooms" "Program.rooms" sRms f fd) : FnOk P w K mg base CX0 1 f fd ["self"] (spRms D) := by
  refine F.ok scRms (fun vs H Q E h => ?_) (fun cdv A outer s H vs Q E hr h => ?_)
  · obtain ⟨x, R, rfl, _⟩ := h
    rfl
  obtain ⟨x, R, rfl, ⟨dx, v, hx⟩, q⟩ := h
  exact ⟨_, pss_one (ps_ret (pe_fld (pv 0) rfl)), _, rfl, x, D, dx, _, _, rfl, hx, TP.cl, TP.held, pf_held, q⟩
theorem ok_ben (T : RoomC K C) (TP : HeldC K D) (MO : Mf P w K mg base D 1 "room_of" ["self", "name"] (spRO C D)) (F : Fun K "beneath" "Program.beneath" sBen f fd) : FnOk P w K mg base CX0 2 f fd ["self", "name"] (spBen C D) := by
  refine F.ok scBen (fun vs H Q E h => ?_) (fun cdv A outer s H vs Q E hr h => ?_)
  · obtain ⟨x, rs, i, r, rfl, _⟩ := h
    rfl
  obtain ⟨x, rs, i, r, rfl, ⟨R, ⟨dx, v, hx⟩, as, hR, hp⟩, ok, hi, q⟩ := h
  have hs : sizeLine = 16777216 := sizeLine_eq
  have hl := paired_len hp
  have z8 := ok.hi
  refine ⟨_, pss_cons (ps_set (i := 2) scBen.nd rfl (Or.inr rfl) (pe_M MO TP.cl (pv 0) hr (pa_cons (pv 1) pa_nil)))
    (pss_one (ps_ret (pe_lc (own := [("room", 3)]) (g := gName 3) (tt := tTest (tOp rEq (tFld K (tVar 3) "above") (tFld K (tVar 2) "name"))) (te := tFld K (tVar 3) "name") rfl scBen.nd (pi_tup (pe_fld (pv 0) rfl)) (blkOk_by (N := ["self", "name", "above", "room"]) (sc := defScope sBen) (by decide +kernel))
          (fun _ _ _ _ _ => pg_name (i := 3) scBen.nd rfl (Or.inl rfl)) (fun _ _ _ _ _ => pts_one (pt_cmpR op_eq (pe_fld (pv 3) rfl) (pe_fld (pv 2) rfl) (nomark _))) (fun _ _ _ _ _ => pe_fld (pv 3) rfl)))), ?_⟩
  refine ⟨_, rfl, x, dx, _, rfl, hx, pf_none (by decide +kernel) (by decide +kernel), _, rfl, x, R, r.name, rs, i, r, rfl, ⟨dx, v, hx⟩, ⟨as, hR, hp⟩, hi, rfl, right_uno ok hi, fun e hat => ?_⟩
  obtain ⟨dy, n, a, b, s', k, t, p, y, h1, h2⟩ := hat
  have hn := h2.name
  subst hn
  refine ⟨_, rfl, x, D, dx, _, _, rfl, hx, TP.cl, TP.held, pf_held, R, rfl, ⟨_, SqT.of hR⟩, fun L hL => ?_⟩
  refine turns_tup (K := K) (a := R) (xs := as.map V.ref) (rs.map fun o => if o.above = r.name then some (V.str o.name) else none) hL (fun Hc sm => SqT.of (sm _ _ hR)) (by rw [List.length_map, List.length_map]; exact hl.symm) (by rw [List.length_map]; omega) ?_ ?_
  · intro j z o Hc Y N hz2 ho sm hY hN
    obtain ⟨e', he', rfl⟩ := refs_at hz2
    obtain ⟨r', hr', dx', n', a', b', s'', k', t', p', y', h1', h2'⟩ := paired_get hp he'
    rw [List.getElem?_map, hr'] at ho
    have ho : o = if r'.above = r.name then some (V.str r'.name) else none := (Option.some.inj ho).symm
    have hn' := h2'.name
    have ha' := h2'.above
    subst hn' ha'
    refine ⟨rfl, _, rfl, e', C, dx', _, _, rfl, sm _ _ h1', T.cl, T.n2, rf_above, _, rfl, e, C, dy, _, _, rfl, sm _ _ h1, T.cl, T.n1, rf_name, rfl, _, rfl, ite2 (fun c1 => ?_) (fun c1 => ?_)⟩
    · have e9 : r'.above = r.name := V.str.inj (of_decide_eq_true c1)
      rw [if_pos e9] at ho
      exact ⟨_, rfl, e', C, dx', _, _, rfl, sm _ _ h1', T.cl, T.n1, rf_name, hY _ ho Hc same_refl⟩
    · have e9 : ¬ r'.above = r.name := fun z => c1 (decide_eq_true (by rw [z]))
      rw [if_neg e9] at ho
      exact hN ho Hc same_refl
  · intro Hc hc2 sm
    rw [fm_ben] at hc2
    exact q L Hc hL sm hc2
theorem ok_hb (T : RoomC K C) (F : Fun K "home_beats" "home_beats" sHB f fd) : FnOk P w K mg base CX0 1 f fd ["room", "weights"] (spHB C) := by
  refine F.ok scHB (fun vs H Q E h => ?_) (fun cdv A outer s H vs Q E hr h => ?_)
  · obtain ⟨a, W, r, kvs, n, rfl, _⟩ := h
    rfl
  obtain ⟨a, W, r, kvs, n, rfl, hat, hW, hl, q⟩ := h
  obtain ⟨dy, n', a', b, s', k, t, p, y, h1, h2⟩ := hat
  have hn := h2.name
  have ha := h2.above
  subst hn ha
  refine ⟨_, pss_one (ps_ret (pe_op op_add (pe_ifExp (pt_cmpR op_eq (pe_fld (pv 0) rfl) pe_str (nomark _)) pe_int pe_int)
    (pe_dget (Nat.lt_of_le_of_lt (Nat.add_le_add_left (show 1 ≤ 64 by decide) _) hr.units) (pv 1) (pe_fld (pv 0) rfl) (fun _ _ => rfl)))), ?_⟩
  have g : DGet H W (.str r.name) (some (.int n)) := by
    have z := DGet.k (k := Sum.inr r.name) hW
    rw [bx_val, hl] at z
    exact z
  refine ⟨_, rfl, a, C, dy, _, _, rfl, h1, T.cl, T.n2, rf_above, rfl, _, rfl, ite2 (fun c1 => ?_) (fun c1 => ?_)⟩
  · have e9 : r.above = "" := V.str.inj (of_decide_eq_true c1)
    rw [if_pos e9] at q
    exact ⟨_, rfl, _, rfl, a, C, dy, _, _, rfl, h1, T.cl, T.n1, rf_name, W, _, rfl, g, _, _, rfl, rfl, q⟩
  · have e9 : ¬ r.above = "" := fun z => c1 (decide_eq_true (by rw [z]))
    rw [if_neg e9] at q
    exact ⟨_, rfl, _, rfl, a, C, dy, _, _, rfl, h1, T.cl, T.n1, rf_name, W, _, rfl, g, _, _, rfl, rfl, q⟩
theorem same_put {H H1 : Hp} {p : Addr} {o : HO} (s : Same H H1) (n : H p = none) : Same H (upd H1 p o) := fun a ob ha => by
  rw [upd_ne (ne_of_none ha n)]
  exact s a ob ha
theorem ok_bws (T : RoomC K C) (TP : HeldC K D) (MR : Mf P w K mg base D 1 "rooms" ["self"] (spRms D)) (B : Df P w K mg base 13 "body_weight" ["body", "weights"] (spBW 4)) (F : Fun K "body_weights" "body_weights" sBWs f fd) : FnOk P w K mg base CX0 14 f fd ["program"] (spBWs C D) := by
  refine F.ok scBWs (fun vs H Q E h => ?_) (fun cdv A outer s H vs Q E hr h => ?_)
  · obtain ⟨x, rs, rfl, _⟩ := h
    rfl
  obtain ⟨x, rs, rfl, ⟨R, ⟨dx, v, hx⟩, as, hR, hp⟩, ok, q⟩ := h
  have hs : sizeLine = 16777216 := sizeLine_eq
  have hl := paired_len hp
  have z1 := ok.lo
  have z8 := ok.hi
  have hr1 := hr.mono (show 1 ≤ 13 by decide)
  have hu := Nat.lt_of_le_of_lt (Nat.add_le_add_left (show 1 ≤ 64 by decide) _) hr.units
  have hpr : Paired (RmAt C H) as.reverse rs.reverse := by
    have z := paired_rev hp .nil
    rw [List.append_nil, List.append_nil] at z
    exact z
  refine ⟨_, pss_cons (ps_set (i := 1) scBWs.nd rfl (Or.inl rfl) pe_dnewK)
    (pss_cons (ps_for PassesOwn.never rfl (pi_tup (pe_revT (pe_Mz MR TP.cl (pv 0) hr1) (pe_un un_neg pe_int))) (pg_name (i := 2) scBWs.nd rfl (Or.inl rfl))
      (pss_one (ps_asg (pe_D B hr rfl (pa_cons (pe_fld (pv 2) rfl) (pa_cons (pv 1) pa_nil))) (pg_sub (pv 1) (pe_fld (pv 2) rfl) (set_dict hu)))))
    (pss_one (ps_ret (pv 1)))), ?_⟩
  refine fun L hL => ?_
  have s1 := same_new hL (.dK [])
  refine ⟨_, rfl, x, dx, _, rfl, s1 _ _ hx, pf_none (by decide +kernel) (by decide +kernel), x, R, rfl, ⟨dx, v, s1 _ _ hx⟩, ?_⟩
  refine ⟨_, rfl, R, as.map V.ref, rfl, SqT.of (s1 _ _ hR), by rw [List.length_map]; omega, rfl, fun p2 hp2 => ?_⟩
  have Lp : L ≠ p2 := ne_of_none upd_same hp2
  refine ⟨p2, rfl, ⟨_, SqT.of upd_same⟩, ?_⟩
  have erev : (as.map V.ref).reverse = as.reverse.map V.ref := List.map_reverse.symm
  rw [erev]
  have s2 := s1.trans (same_new hp2 (.tup (as.reverse.map V.ref)))
  refine for_tup (K := K) (a := p2) (xs := as.reverse.map V.ref) (fun i σ Hc => ∃ y, σ = [some (.ref x), some (.ref L), y] ∧ Same H Hc ∧ Hc p2 = some (.tup (as.reverse.map V.ref)) ∧ Hc L = some (.dK (bx (tabF gW (rs.reverse.take i))))) ⟨_, rfl, s2, upd_same, by rw [upd_ne Lp]; exact upd_same⟩ ?_ ?_ ?_
  · rintro i σ Hc _ ⟨y, rfl, sm, hp3, hL3⟩
    exact SqT.of hp3
  · rintro i z σ Hc hz ⟨y, rfl, sm, hp3, hL3⟩
    obtain ⟨e, he, rfl⟩ := refs_at hz
    obtain ⟨r, hir, hat⟩ := paired_get hpr he
    obtain ⟨dy, n, a, b, s', k, t, p, bd, h1, h2⟩ := hat
    obtain ⟨c, rfl, hc⟩ := h2.body
    have hn := h2.name
    subst hn
    obtain ⟨ws, b1, b2, b3, b4⟩ := body_of ok (at_rev hir)
    refine ⟨_, rfl, e, C, dy, _, _, rfl, sm _ _ h1, T.cl, T.n8, rf_body, _, rfl, c, r.body, L, _, r.bn, ws, ben rs r.name, rfl, hc.keep (Same.tups sm), b3, b1, b2, ⟨hL3, fun n hn => ben_take ok hir hn⟩, fun H4 s4 => ?_⟩
    have hL4 := s4 _ _ hL3
    refine ⟨_, rfl, _, rfl, e, C, dy, _, _, rfl, s4 _ _ (sm _ _ h1), T.cl, T.n1, rf_name, L, _, rfl, DPut.k (k := Sum.inr r.name) hL4 ?_, ?_⟩
    · unfold bx
      have e1 := congrArg List.length (tabF_keys (g := gW) (rs.reverse.take i))
      rw [List.length_map, List.length_map, List.length_take] at e1
      rw [List.length_map, e1]
      rw [List.length_reverse]
      omega
    have nk : r.name ∉ (tabF gW (rs.reverse.take i)).map (·.1) := by
      rw [tabF_keys, List.map_take]
      exact nd_take (rev_nd ok) (by rw [List.getElem?_map, hir]; rfl)
    refine ⟨_, rfl, same_put (sm.trans s4) hL, by rw [upd_ne Lp.symm]; exact s4 _ _ hp3, ?_⟩
    rw [upd_same, bx_new nk, tabF_take hir]
    rfl
  · rintro σ Hc ⟨y, rfl, sm, hp3, hL3⟩
    rw [List.length_map, List.length_reverse, hl, ← List.length_reverse, List.take_length] at hL3
    exact ⟨_, rfl, q L Hc hL sm hL3⟩
end
end Any
set_option pp.maxSteps 600
namespace Any
open L2 PySem PySem.Spec PyProof.Rows LamX NdefX
/-! ### right_beats, beats_home, beats_right, beats_of -/
abbrev sRB : Stmt := top 39
abbrev sBH : Stmt := top 35
abbrev sBR : Stmt := top 36
abbrev sBO : Stmt := top 37
abbrev nmRB : List Str := ["program", "weights", "found", "room", "beneath", "name"]
theorem scRB : FnScope nmRB ["program"] (defScope sRB) := ⟨rfl, rfl, rfl, by decide +kernel, rfl, by decide +kernel, by decide +kernel⟩
theorem scBH : FnScope ["program", "name", "room"] ["program", "name"] (defScope sBH) := ⟨rfl, rfl, rfl, by decide +kernel, rfl, by decide +kernel, by decide +kernel⟩
theorem scBR : FnScope ["program", "name", "room"] ["program", "name"] (defScope sBR) := ⟨rfl, rfl, rfl, by decide +kernel, rfl, by decide +kernel, by decide +kernel⟩
theorem scBO : FnScope ["program"] ["program"] (defScope sBO) := ⟨rfl, rfl, rfl, by decide +kernel, rfl, by decide +kernel, by decide +kernel⟩
def spRB (C D : Addr) : Sp := fun vs H Q _ => ∃ (x : Addr) (rs : List Rm), vs = [.ref x] ∧ PgOk C D H x rs ∧ Right rs ∧ ∀ p H', H p = none → Same H H' → H' p = some (.dK (bx (tabF (gR rs) rs.reverse))) → Q (.ref p) H'
def spBt (val : List Rm → Rm → Int) (C D : Addr) : Sp := fun vs H Q _ => ∃ (x : Addr) (rs : List Rm) (i : Nat) (r : Rm), vs = [.ref x, .str r.name] ∧ PgOk C D H x rs ∧ Right rs ∧ rs[i]? = some r ∧ ∀ H', Same H H' → Q (.int (val rs r)) H'
def vHome (rs : List Rm) (r : Rm) : Int := r.home (Wt rs)
def vRight (rs : List Rm) (r : Rm) : Int := Rt rs r.name
def spBO (C D : Addr) : Sp := fun vs H Q _ => ∃ (x : Addr) (rs : List Rm) (r : Rm), vs = [.ref x] ∧ PgOk C D H x rs ∧ Right rs ∧ rs[0]? = some r ∧ ∀ H', Same H H' → Q (.int (Rt rs r.name)) H'
theorem look_wt {rs : List Rm} (h : Right rs) {i : Nat} {r : Rm} (hi : rs[i]? = some r) : look (tabF gW rs.reverse) r.name = some (r.body.wt (Wt rs)) := by
  rw [← wt_take h (rev_at hi)]
  exact tab_at (rev_nd h) (rev_at hi)
theorem look_rt {rs : List Rm} (h : Right rs) {i : Nat} {r : Rm} (hi : rs[i]? = some r) : look (tabF (gR rs) rs.reverse) r.name = some (Rt rs r.name) := by
  show _ = some (lk (tabF (gR rs) rs.reverse) r.name)
  unfold lk
  rw [tab_at (rev_nd h) (rev_at hi)]
  rfl
theorem get_str {H : Hp} {L : Addr} {kvs : List (Str × Int)} {x : Str} {n : Int} (h : H L = some (.dK (bx kvs))) (e : look kvs x = some n) : DGet H L (.str x) (some (.int n)) := by
  have z := DGet.k (k := Sum.inr x) h
  rw [bx_val, e] at z
  exact z
theorem maxD0_of {K : PySem.W.Frag} {a : Addr} {ns : List Int} {H : Hp} {Q : VK} (h : SqL K H a (ns.map V.int)) (nn : ∀ y ∈ ns, 0 ≤ y) (q : Q (.int (ns.foldl mx 0)) H) : rMaxD0 K [.ref a] [.int 0] H Q :=
  ⟨a, ns, 0, rfl, rfl, h, fun e => by rw [e] at q; exact q, fun m hm hx => by rw [fold_is hm hx nn] at q; exact q⟩
section
variable {P : Program} {w : World} {K : PySem.W.Frag} {mg : Str → Option Value} {base : Heap} {f C D CN : Addr} {fd : FuncData}
theorem ok_rb (T : RoomC K C) (TP : HeldC K D) (mm : mg "max" = none) (MR : Mf P w K mg base D 1 "rooms" ["self"] (spRms D)) (MB : Mf P w K mg base D 2 "beneath" ["self", "name"] (spBen C D))
    (BW : Df P w K mg base 14 "body_weights" ["program"] (spBWs C D)) (HB : Df P w K mg base 1 "home_beats" ["room", "weights"] (spHB C)) (F : Fun K "right_beats" "right_beats" sRB f fd) : FnOk P w K mg base CX0 15 f fd ["program"] (spRB C D) := by
  refine F.ok scRB (fun vs H Q E h => ?_) (fun cdv A outer s H vs Q E hr h => ?_)
  · obtain ⟨x, rs, rfl, _⟩ := h
    rfl
  obtain ⟨x, rs, rfl, ⟨R, ⟨dx, v, hx⟩, as, hR, hp⟩, ok, q⟩ := h
  have hs : sizeLine = 16777216 := sizeLine_eq
  have hl := paired_len hp
  have z1 := ok.lo
  have z8 := ok.hi
  have hr1 := hr.mono (show 1 ≤ 14 by decide)
  have hr2 := hr.mono (show 2 ≤ 14 by decide)
  have hu := Nat.lt_of_le_of_lt (Nat.add_le_add_left (show 1 ≤ 64 by decide) _) hr.units
  have hpr : Paired (RmAt C H) as.reverse rs.reverse := by
    have z := paired_rev hp .nil
    rw [List.append_nil, List.append_nil] at z
    exact z
  have hpg : PgOk C D H x rs := ⟨R, ⟨dx, v, hx⟩, as, hR, hp⟩
  refine ⟨_, pss_cons (ps_set (i := 1) scRB.nd rfl (Or.inl rfl) (pe_D BW hr rfl (pa_cons (pv 0) pa_nil)))
    (pss_cons (ps_set (i := 2) scRB.nd rfl (Or.inr rfl) pe_dnewK)
    (pss_cons (ps_for PassesOwn.never rfl (pi_tup (pe_revT (pe_Mz MR TP.cl (pv 0) hr1) (pe_un un_neg pe_int))) (pg_name (i := 3) scRB.nd rfl (Or.inl rfl))
      (pss_cons (ps_setLc (i := 4) (own := [("name", 5)]) (g := gName 5) (tt := tYes) (te := tDGet (tVar 2) (tVar 5)) (by rfl) scRB.nd rfl rfl (sw_true rfl rfl rfl (by decide +kernel)) (pi_list (pe_M MB TP.cl (pv 0) hr2 (pa_cons (pe_fld (pv 3) rfl) pa_nil))) (blkOk_by (N := nmRB) (sc := defScope sRB) (by decide +kernel))
          (fun _ _ _ _ _ => pg_name (i := 5) scRB.nd rfl (Or.inl rfl)) (fun _ _ _ _ _ => pts_nil) (fun _ _ _ _ _ => pe_dget hu (pv 2) (pv 5) (fun _ _ => rfl)))
      (pss_one (ps_asg (pe_op op_add (pe_callBK (cr_maxD0 rfl) rfl mm (by decide +kernel) (pa_cons (pv 4) pa_nil) (pk_cons pe_int pk_nil)) (pe_D HB hr1 rfl (pa_cons (pv 3) (pa_cons (pv 1) pa_nil)))) (pg_sub (pv 2) (pe_fld (pv 3) rfl) (set_dict hu))))))
    (pss_one (ps_ret (pv 2))))), ?_⟩
  refine ⟨_, rfl, x, rs, rfl, hpg, ok, fun W H1 hW s1 hW1 => fun L hL => ?_⟩
  have WL : W ≠ L := ne_of_none hW1 hL
  have s1' := s1.trans (same_new hL (.dK []))
  have hLn : H L = none := by
    cases e : H L with
    | none => rfl
    | some o => rw [s1 _ _ e] at hL; cases hL
  refine ⟨_, rfl, x, dx, _, rfl, s1' _ _ hx, pf_none (by decide +kernel) (by decide +kernel), x, R, rfl, ⟨dx, v, s1' _ _ hx⟩, ?_⟩
  refine ⟨_, rfl, R, as.map V.ref, rfl, SqT.of (s1' _ _ hR), by rw [List.length_map]; omega, rfl, fun p2 hp2 => ?_⟩
  have Lp : L ≠ p2 := ne_of_none upd_same hp2
  refine ⟨p2, rfl, ⟨_, SqT.of upd_same⟩, ?_⟩
  have erev : (as.map V.ref).reverse = as.reverse.map V.ref := List.map_reverse.symm
  rw [erev]
  have s2 := s1'.trans (same_new hp2 (.tup (as.reverse.map V.ref)))
  have hW2 := same_new hp2 (.tup (as.reverse.map V.ref)) _ _ (same_new hL (.dK []) _ _ hW1)
  refine for_tup (K := K) (a := p2) (xs := as.reverse.map V.ref) (fun i σ Hc => ∃ y z u, σ = [some (.ref x), some (.ref W), some (.ref L), y, z, u] ∧ Same H Hc ∧ Hc p2 = some (.tup (as.reverse.map V.ref)) ∧ Hc W = some (.dK (bx (tabF gW rs.reverse))) ∧ Hc L = some (.dK (bx (tabF (gR rs) (rs.reverse.take i))))) ⟨_, _, _, rfl, s2, upd_same, hW2, by rw [upd_ne Lp]; exact upd_same⟩ ?_ ?_ ?_
  · rintro i σ Hc _ ⟨y, z, u, rfl, sm, hp3, hW3, hL3⟩
    exact SqT.of hp3
  · rintro i z σ Hc hz ⟨y, y1, u, rfl, sm, hp3, hW3, hL3⟩
    obtain ⟨e, he, rfl⟩ := refs_at hz
    obtain ⟨r, hir, hat⟩ := paired_get hpr he
    have il := (List.getElem?_eq_some_iff.mp hir).1
    rw [List.length_reverse] at il
    obtain ⟨dy, n, a, b, s', k, t, p, bd, h1, h2⟩ := id hat
    have hn := h2.name
    subst hn
    refine ⟨_, rfl, x, dx, _, rfl, sm _ _ hx, pf_none (by decide +kernel) (by decide +kernel), _, rfl, e, C, dy, _, _, rfl, sm _ _ h1, T.cl, T.n1, rf_name, x, rs, _, r, rfl, hpg.keep sm, ok, at_rev hir, fun b1 H4 hb1 s4 hB1 => ?_⟩
    refine ⟨b1, rfl, ⟨_, SqL.of hB1⟩, fun c1 hc1 => ?_⟩
    have len : ((ben rs r.name).map V.str).length ≤ 8 := by
      rw [List.length_map]
      unfold ben
      rw [List.length_map]
      exact Nat.le_trans (List.length_filter_le ..) ok.hi
    refine turns_list (K := K) (a := b1) (xs := (ben rs r.name).map V.str) ((ben rs r.name).map fun n => some (V.int (lk (tabF (gR rs) (rs.reverse.take i)) n))) hc1 (fun H s => SqL.of (s _ _ hB1)) (by rw [List.length_map, List.length_map]) (by omega) ?_ ?_
    · intro j z o Hd Y N hz2 ho sm2 hY hN
      rw [List.getElem?_map] at hz2 ho
      obtain ⟨m, hm, rfl⟩ : ∃ m, (ben rs r.name)[j]? = some m ∧ z = .str m := by
        cases q : (ben rs r.name)[j]? with
        | none => rw [q] at hz2; cases hz2
        | some e => rw [q] at hz2; exact ⟨e, rfl, (Option.some.inj hz2).symm⟩
      rw [hm] at ho
      obtain ⟨vv, hv⟩ := ben_take (g := gR rs) ok hir (List.mem_of_getElem? hm)
      have ev : lk (tabF (gR rs) (rs.reverse.take i)) m = vv := by unfold lk; rw [hv]; rfl
      refine ⟨rfl, _, rfl, _, rfl, L, .int vv, rfl, get_str (sm2 _ _ (s4 _ _ hL3)) hv, ?_⟩
      refine hY _ ?_ Hd same_refl
      rw [← Option.some.inj ho]
      show some (V.int (lk _ m)) = _
      rw [ev]
    · intro Hd hd2 sm2
      rw [fm_some (fun n : Str => V.int (lk (tabF (gR rs) (rs.reverse.take i)) n))] at hd2
      have e3 : (ben rs r.name).map (fun n : Str => V.int (lk (tabF (gR rs) (rs.reverse.take i)) n)) = ((ben rs r.name).map (lk (tabF (gR rs) (rs.reverse.take i)))).map V.int := by rw [List.map_map]; rfl
      rw [e3] at hd2
      have s5 := s4.trans sm2
      have hL5 := s5 _ _ hL3
      have hW5 := s5 _ _ hW3
      have nk : r.name ∉ (tabF (gR rs) (rs.reverse.take i)).map (·.1) := by
        rw [tabF_keys, List.map_take]
        exact nd_take (rev_nd ok) (by rw [List.getElem?_map, hir]; rfl)
      refine ⟨_, rfl, ?_⟩
      dsimp only [tNil, tCons, tC]
      refine maxD0_of (SqL.of hd2) (fun y hy => ?_) ?_
      · obtain ⟨m, _, rfl⟩ := List.mem_map.mp hy
        exact rt_nn ok i (by omega) m
      refine ⟨_, rfl, _, rfl, e, W, r, _, _, rfl, hat.keep (sm.trans s5), hW5, look_wt ok (at_rev hir), _, _, rfl, rfl, ?_⟩
      refine ⟨_, rfl, _, rfl, e, C, dy, _, _, rfl, s5 _ _ (sm _ _ h1), T.cl, T.n1, rf_name, L, _, rfl, DPut.k (k := Sum.inr r.name) hL5 ?_, ?_⟩
      · unfold bx
        have e1 := congrArg List.length (tabF_keys (g := gR rs) (rs.reverse.take i))
        rw [List.length_map, List.length_map, List.length_take] at e1
        rw [List.length_map, e1]
        rw [List.length_reverse]
        omega
      refine ⟨_, _, _, rfl, same_put (sm.trans s5) hLn, by rw [upd_ne (ne_of hp3 hL3 (by intro z; cases z))]; exact s5 _ _ hp3, by rw [upd_ne WL]; exact hW5, ?_⟩
      rw [upd_same, bx_new nk, tabF_take hir]
      rfl
  · rintro σ Hc ⟨y, z, u, rfl, sm, hp3, hW3, hL3⟩
    rw [List.length_map, List.length_reverse, hl, ← List.length_reverse, List.take_length] at hL3
    exact ⟨_, rfl, q L Hc hLn sm hL3⟩
theorem ok_bh (TP : HeldC K D) (MO : Mf P w K mg base D 1 "room_of" ["self", "name"] (spRO C D)) (BW : Df P w K mg base 14 "body_weights" ["program"] (spBWs C D)) (HB : Df P w K mg base 1 "home_beats" ["room", "weights"] (spHB C)) (F : Fun K "beats_home" "beats_home" sBH f fd) :
    FnOk P w K mg base CX0 15 f fd ["program", "name"] (spBt vHome C D) := by
  refine F.ok scBH (fun vs H Q E h => ?_) (fun cdv A outer s H vs Q E hr h => ?_)
  · obtain ⟨x, rs, i, r, rfl, _⟩ := h
    rfl
  obtain ⟨x, rs, i, r, rfl, hpg, ok, hi, q⟩ := h
  obtain ⟨R, ⟨dx, v, hx⟩, hR⟩ := id hpg
  have hr1 := hr.mono (show 1 ≤ 14 by decide)
  refine ⟨_, pss_cons (ps_set (i := 2) scBH.nd rfl (Or.inl rfl) (pe_M MO TP.cl (pv 0) hr1 (pa_cons (pv 1) pa_nil)))
    (pss_one (ps_ret (pe_D HB hr1 rfl (pa_cons (pv 2) (pa_cons (pe_D BW hr rfl (pa_cons (pv 0) pa_nil)) pa_nil))))), ?_⟩
  refine ⟨_, rfl, x, dx, _, rfl, hx, pf_none (by decide +kernel) (by decide +kernel), _, rfl, x, R, r.name, rs, i, r, rfl, ⟨dx, v, hx⟩, hR, hi, rfl, right_uno ok hi, fun a hat => ?_⟩
  refine ⟨_, rfl, _, rfl, x, rs, rfl, hpg, ok, fun W H1 hW s1 hW1 => ?_⟩
  exact ⟨a, W, r, _, _, rfl, hat.keep s1, hW1, look_wt ok hi, q H1 s1⟩
theorem ok_br (T : RoomC K C) (TP : HeldC K D) (MO : Mf P w K mg base D 1 "room_of" ["self", "name"] (spRO C D)) (RB : Df P w K mg base 15 "right_beats" ["program"] (spRB C D)) (F : Fun K "beats_right" "beats_right" sBR f fd) :
    FnOk P w K mg base CX0 16 f fd ["program", "name"] (spBt vRight C D) := by
  refine F.ok scBR (fun vs H Q E h => ?_) (fun cdv A outer s H vs Q E hr h => ?_)
  · obtain ⟨x, rs, i, r, rfl, _⟩ := h
    rfl
  obtain ⟨x, rs, i, r, rfl, hpg, ok, hi, q⟩ := h
  obtain ⟨R, ⟨dx, v, hx⟩, hR⟩ := id hpg
  have hr1 := hr.mono (show 1 ≤ 15 by decide)
  have hu := Nat.lt_of_le_of_lt (Nat.add_le_add_left (show 1 ≤ 64 by decide) _) hr.units
  refine ⟨_, pss_cons (ps_set (i := 2) scBR.nd rfl (Or.inl rfl) (pe_M MO TP.cl (pv 0) hr1 (pa_cons (pv 1) pa_nil)))
    (pss_one (ps_ret (pe_dget hu (pe_D RB hr rfl (pa_cons (pv 0) pa_nil)) (pe_fld (pv 2) rfl) (fun _ _ => rfl)))), ?_⟩
  refine ⟨_, rfl, x, dx, _, rfl, hx, pf_none (by decide +kernel) (by decide +kernel), _, rfl, x, R, r.name, rs, i, r, rfl, ⟨dx, v, hx⟩, hR, hi, rfl, right_uno ok hi, fun a hat => ?_⟩
  refine ⟨_, rfl, x, rs, rfl, hpg, ok, fun W H1 hW s1 hW1 => ?_⟩
  obtain ⟨dy, n, a', b, s', k, t, p, bd, h1, h2⟩ := hat
  have hn := h2.name
  subst hn
  exact ⟨_, rfl, a, C, dy, _, _, rfl, s1 _ _ h1, T.cl, T.n1, rf_name, W, _, rfl, get_str hW1 (look_rt ok hi), q H1 s1⟩
theorem ok_bo (T : RoomC K C) (TP : HeldC K D) (MR : Mf P w K mg base D 1 "rooms" ["self"] (spRms D)) (RB : Df P w K mg base 15 "right_beats" ["program"] (spRB C D)) (F : Fun K "beats_of" "beats_of" sBO f fd) :
    FnOk P w K mg base CX0 16 f fd ["program"] (spBO C D) := by
  refine F.ok scBO (fun vs H Q E h => ?_) (fun cdv A outer s H vs Q E hr h => ?_)
  · obtain ⟨x, rs, r, rfl, _⟩ := h
    rfl
  obtain ⟨x, rs, r, rfl, hpg, ok, hi, q⟩ := h
  obtain ⟨R, ⟨dx, v, hx⟩, as, hR, hp⟩ := id hpg
  have hr1 := hr.mono (show 1 ≤ 15 by decide)
  have hu := Nat.lt_of_le_of_lt (Nat.add_le_add_left (show 1 ≤ 64 by decide) _) hr.units
  refine ⟨_, pss_one (ps_ret (pe_dget hu (pe_D RB hr rfl (pa_cons (pv 0) pa_nil)) (pe_fld (pe_ix ix_tup (pe_Mz MR TP.cl (pv 0) hr1) pe_int (fun _ _ => rfl)) rfl) (fun _ _ => rfl))), ?_⟩
  refine ⟨_, rfl, x, rs, rfl, hpg, ok, fun W H1 hW s1 hW1 => ?_⟩
  obtain ⟨e, he, hat⟩ := paired_put hp hi
  obtain ⟨dy, n, a', b, s', k, t, p, bd, h1, h2⟩ := hat
  have hn := h2.name
  subst hn
  refine ⟨_, rfl, x, dx, _, rfl, s1 _ _ hx, pf_none (by decide +kernel) (by decide +kernel), x, R, rfl, ⟨dx, v, s1 _ _ hx⟩, ?_⟩
  refine ⟨R, _, 0, _, rfl, rfl, SqT.of (s1 _ _ hR), atI_nat (j := 0) (by rw [List.getElem?_map, he]; rfl), ?_⟩
  exact ⟨e, C, dy, _, _, rfl, s1 _ _ h1, T.cl, T.n1, rf_name, W, _, rfl, get_str hW1 (look_rt ok hi), q H1 s1⟩
/-! .. of a thing that is no room's name -/
theorem ok_bhx {df : Addr} {dd : FuncData} (TP : HeldC K D) (BW : Df P w K mg base 14 "body_weights" ["program"] (spBWs C D)) (HB : Df P w K mg base 1 "home_beats" ["room", "weights"] (spHB C)) (hm : Meth K D "room_of" df) (G : FnG P w K mg base (L2.CX P w) 3 df dd ["self", "name"] (spROX K C D CN)) (bG : Binds K dd ["self", "name"] [])
    (F : Fun K "beats_home" "beats_home" sBH f fd) : FnG P w K mg base (L2.CX P w) 15 f fd ["program", "name"] (spROX K C D CN) := by
  refine fun_gX F scBH (fun vs H Q E h => ?_) (fun cdv A outer s H vs Q E hG hr h => ?_)
  · obtain ⟨x, R, v, rs, rfl, _⟩ := h
    rfl
  obtain ⟨x, R, v, rs, rfl, hx, r⟩ := h
  obtain ⟨dx, v2, hx'⟩ := id hx
  let X := cxOf (L2.CX P w) P w K mg base ["program", "name", "room"] "beats_home" (defScope sBH) f cdv A outer s H E
  have tk : Takes X (fun cls d _ H => E cls d H) := takes_of rfl rfl rfl rfl
  have hG' : X.A.guards = some [] := hG
  have hr' : Room 14 X.A := hr
  have hr1 := hr'.mono (show 1 ≤ 14 by decide)
  refine ⟨_, pss_cons (ps_set (i := 2) scBH.nd rfl (Or.inl rfl) (pe_methG (X := X) (E := E) (pv 0) TP.cl hm G hG' (hr'.mono (by decide)) bG (passes_call tk fun cls d σ H h => h) (pa_cons (pv 1) pa_nil)))
    (pss_one (ps_ret (pe_D HB hr1 rfl (pa_cons (pv 2) (pa_cons (pe_D BW hr' rfl (pa_cons (pv 0) pa_nil)) pa_nil))))), ?_⟩
  exact ⟨_, rfl, x, dx, _, rfl, hx', pf_none (by decide +kernel) (by decide +kernel), _, rfl, x, R, v, rs, rfl, hx, r⟩
theorem ok_brx {df : Addr} {dd : FuncData} (TP : HeldC K D) (RB : Df P w K mg base 15 "right_beats" ["program"] (spRB C D)) (hm : Meth K D "room_of" df) (G : FnG P w K mg base (L2.CX P w) 3 df dd ["self", "name"] (spROX K C D CN)) (bG : Binds K dd ["self", "name"] [])
    (F : Fun K "beats_right" "beats_right" sBR f fd) : FnG P w K mg base (L2.CX P w) 16 f fd ["program", "name"] (spROX K C D CN) := by
  refine fun_gX F scBR (fun vs H Q E h => ?_) (fun cdv A outer s H vs Q E hG hr h => ?_)
  · obtain ⟨x, R, v, rs, rfl, _⟩ := h
    rfl
  obtain ⟨x, R, v, rs, rfl, hx, r⟩ := h
  obtain ⟨dx, v2, hx'⟩ := id hx
  let X := cxOf (L2.CX P w) P w K mg base ["program", "name", "room"] "beats_right" (defScope sBR) f cdv A outer s H E
  have tk : Takes X (fun cls d _ H => E cls d H) := takes_of rfl rfl rfl rfl
  have hG' : X.A.guards = some [] := hG
  have hr' : Room 15 X.A := hr
  have hu := Nat.lt_of_le_of_lt (Nat.add_le_add_left (show 1 ≤ 64 by decide) _) hr'.units
  refine ⟨_, pss_cons (ps_set (i := 2) scBR.nd rfl (Or.inl rfl) (pe_methG (X := X) (E := E) (pv 0) TP.cl hm G hG' (hr'.mono (by decide)) bG (passes_call tk fun cls d σ H h => h) (pa_cons (pv 1) pa_nil)))
    (pss_one (ps_ret (pe_dget hu (pe_D RB hr' rfl (pa_cons (pv 0) pa_nil)) (pe_fld (pv 2) rfl) (fun _ _ => rfl)))), ?_⟩
  exact ⟨_, rfl, x, dx, _, rfl, hx', pf_none (by decide +kernel) (by decide +kernel), _, rfl, x, R, v, rs, rfl, hx, r⟩
end
end Any
set_option pp.maxSteps 600
namespace Any
open L2 PySem PySem.Spec PyProof.Rows LamX NdefX
/-! ### drawn names -/
theorem s_ext {x y : Str} (h : x.cps.toList = y.cps.toList) : x = y := by
  cases x; cases y
  congr
  exact Array.toList_inj.mp h
theorem s_app (a b : Str) : (a ++ b).cps.toList = a.cps.toList ++ b.cps.toList := cps_toList_append a b
theorem s_len (a : Str) : a.length = a.cps.toList.length := by show a.cps.size = _; simp
theorem s_lapp (a b : Str) : (a ++ b).length = a.length + b.length := by rw [s_len, s_len, s_len, s_app, List.length_append]
/-- at most so many small letters -/
def Lt (n : Nat) (x : Str) : Prop := (∀ c ∈ x.cps.toList, 97 ≤ c ∧ c ≤ 122) ∧ x.cps.toList.length ≤ n
theorem sum_ones : ∀ (l : List Str), (∀ y ∈ l, ∃ c, y = ⟨#[c]⟩ ∧ 97 ≤ c ∧ c ≤ 122) → (l.map (·.length)).sum = l.length := by
  intro l
  induction l with
  | nil => intro _; rfl
  | cons a r ih =>
    intro hh
    obtain ⟨c, rfl, _⟩ := hh a List.mem_cons_self
    rw [List.map_cons, List.sum_cons, ih (fun y hy => hh y (List.mem_cons_of_mem _ hy)), List.length_cons]
    show 1 + r.length = r.length + 1
    omega
theorem glue_to {k : Nat} {ys : List Str} (h : ∀ y ∈ ys, ∃ c, y = ⟨#[c]⟩ ∧ 97 ≤ c ∧ c ≤ 122) (hl : ys.length ≤ k) : Lt k (Txt.join "" ys) := by
  have e : Txt.join "" ys = Str.join "" ys := StrLaws.glued_eq_join "" ys
  refine ⟨fun c hc => ?_, ?_⟩
  · rw [e] at hc
    rcases (mem_join "" c ys).mp hc with ⟨t, ht, hc⟩ | ⟨_, hc⟩
    · obtain ⟨d, rfl, hd⟩ := h t ht
      have : c = d := by simpa using hc
      rw [this]; exact hd
    · cases hc
  · have z := size_glued "" ys
    have z2 : (Txt.join "" ys).cps.toList.length = (ys.map (·.length)).sum + (ys.length - 1) * ("" : Str).length := by rw [← z, ← s_len]; rfl
    have z3 : ("" : Str).length = 0 := rfl
    rw [z2, z3, Nat.mul_zero, Nat.add_zero]
    rw [sum_ones ys h]
    exact hl
/-- the k-th letter from d on -/
def ltr (d : Int) (k : Nat) : Nat := 97 + ((d + 7 * (k : Int)) % 26).toNat
theorem ltr_lc (d : Int) (k : Nat) : 97 ≤ ltr d k ∧ ltr d k ≤ 122 := by
  have h1 := Int.emod_lt_of_pos (d + 7 * (k : Int)) (show (0 : Int) < 26 by decide)
  unfold ltr
  omega
theorem ltr_inj {d : Int} {k j : Nat} (hk : k < 9) (hj : j < 9) (e : ltr d k = ltr d j) : k = j := by
  have h0 := Int.emod_nonneg (d + 7 * (k : Int)) (show (26 : Int) ≠ 0 by decide)
  have h1 := Int.emod_nonneg (d + 7 * (j : Int)) (show (26 : Int) ≠ 0 by decide)
  unfold ltr at e
  omega
theorem abc_at {r : Int} (h0 : 0 ≤ r) (h1 : r < 26) : atI letters.cps.toList r = some (97 + r.toNat) := by
  have all : ∀ i : Fin 26, atI letters.cps.toList ((i.val : Nat) : Int) = some (97 + i.val) := by decide +kernel
  have z := all ⟨r.toNat, by omega⟩
  rw [show (((⟨r.toNat, by omega⟩ : Fin 26).val : Nat) : Int) = r by show ((r.toNat : Nat) : Int) = r; omega] at z
  exact z
/-- a name: letters before, the letter that differs, letters behind -/
def nk (fr bh : Str) (d : Int) (k : Nat) : Str := (fr ++ ⟨#[ltr d k]⟩) ++ bh
theorem nk_l (fr bh : Str) (d : Int) (k : Nat) : (nk fr bh d k).cps.toList = fr.cps.toList ++ ltr d k :: bh.cps.toList := by
  unfold nk
  rw [s_app, s_app, List.append_assoc]
  rfl
theorem nk_inj {fr bh : Str} {d : Int} {k j : Nat} (hk : k < 9) (hj : j < 9) (e : nk fr bh d k = nk fr bh d j) : k = j := by
  have z : (nk fr bh d k).cps.toList = (nk fr bh d j).cps.toList := by rw [e]
  rw [nk_l, nk_l] at z
  exact ltr_inj hk hj (List.cons.inj (List.append_cancel_left z)).1
theorem nk_nm {fr bh : Str} {d : Int} {k : Nat} (h1 : Lt 4 fr) (h2 : Lt 2 bh) (h3 : nk fr bh d k ∉ keptWords) : Nm (nk fr bh d k) := by
  have l : (nk fr bh d k).length = fr.cps.toList.length + (bh.cps.toList.length + 1) := by rw [s_len, nk_l, List.length_append, List.length_cons]
  have a := h1.2
  have b := h2.2
  refine ⟨by omega, by omega, h3, fun c hc => ?_⟩
  rw [nk_l] at hc
  rcases List.mem_append.mp hc with hc | hc
  · exact h1.1 c hc
  · rcases List.mem_cons.mp hc with rfl | hc
    · exact ltr_lc d k
    · exact h2.1 c hc
abbrev k5l : List (List Nat) := [[97, 115, 107, 101, 100], [116, 111, 108, 100], [110, 111, 116], [97, 110, 100], [111, 114]]
theorem kept_l {x : Str} (h : x ∈ keptWords) : x.cps.toList ∈ k5l := by
  have all : ∀ y ∈ keptWords, y.cps.toList ∈ k5l := by decide +kernel
  exact all x h
theorem two_l {F B : List Nat} {a c : Nat} (ne : a ≠ c) {w v : List Nat} (hw : w ∈ k5l) (hv : v ∈ k5l) (h1 : F ++ a :: B = w) (h2 : F ++ c :: B = v) : False := by
  have l1 := congrArg List.length h1
  have l2 := congrArg List.length h2
  rw [List.length_append, List.length_cons] at l1 l2
  have same : w = v → False := fun e => ne (List.cons.inj (List.append_cancel_left (h1.trans (e.trans h2.symm)))).1
  have hd : ∀ (x y : Nat) (r t : List Nat), x ≠ y → r.getD 0 0 ≠ t.getD 0 0 → w = x :: r → v = y :: t → False := fun x y r t n1 n2 e1 e2 => by
    subst e1 e2
    cases F with
    | nil =>
      have b1 := (List.cons.inj h1).2
      have b2 := (List.cons.inj h2).2
      exact n2 (by rw [← b1, ← b2])
    | cons z F => exact n1 ((List.cons.inj h1).1.symm.trans (List.cons.inj h2).1)
  simp only [k5l, List.mem_cons, List.not_mem_nil, or_false] at hw hv
  rcases hw with e1 | e1 | e1 | e1 | e1 <;> rcases hv with e2 | e2 | e2 | e2 | e2 <;>
    first
    | exact same (e1.trans e2.symm)
    | (rw [e1] at l1; rw [e2] at l2; simp only [List.length_cons, List.length_nil] at l1 l2; omega)
    | exact hd _ _ _ _ (by decide) (by decide) e1 e2
/-- not both of two of them are kept words -/
theorem one_free {fr bh : Str} {d : Int} : nk fr bh d 0 ∉ keptWords ∨ nk fr bh d 1 ∉ keptWords := by
  by_cases h : nk fr bh d 0 ∈ keptWords
  · refine .inr fun g => ?_
    have z1 := kept_l h
    have z2 := kept_l g
    exact two_l (F := fr.cps.toList) (B := bh.cps.toList) (a := ltr d 0) (c := ltr d 1) (fun e => absurd (ltr_inj (by decide) (by decide) e) (by decide)) z1 z2 (nk_l ..).symm (nk_l ..).symm
  · exact .inl h
def nicksL (fr bh : Str) (d : Int) (m : Nat) : List Str := (((List.range (m + 1)).map (nk fr bh d)).filter fun x => decide (x ∉ keptWords)).take m
theorem fm_free : ∀ ys : List Str, (ys.map fun y => if y ∈ keptWords then none else some (V.str y)).filterMap id = (ys.filter fun x => decide (x ∉ keptWords)).map V.str
  | [] => rfl
  | y :: r => by
    have ih := fm_free r
    have h : (y :: r).filter (fun x => decide (x ∉ keptWords)) = if decide (y ∉ keptWords) = true then y :: r.filter (fun x => decide (x ∉ keptWords)) else r.filter (fun x => decide (x ∉ keptWords)) := List.filter_cons
    rw [List.map_cons, h]
    by_cases e : y ∈ keptWords
    · rw [if_pos e, if_neg (fun z => absurd e (of_decide_eq_true z)), ← ih]
      rfl
    · rw [if_neg e, if_pos (decide_eq_true e), List.map_cons, ← ih]
      rfl
/-- names: one at least, all of them right, none twice -/
structure Nicks (m : Nat) (xs : List Str) : Prop where
  lo : 1 ≤ xs.length
  hi : xs.length ≤ m
  nd : xs.Nodup
  nm : ∀ x ∈ xs, Nm x
theorem nicks_ok {fr bh : Str} {d : Int} {m : Nat} (h1 : Lt 4 fr) (h2 : Lt 2 bh) (m1 : 1 ≤ m) (m8 : m ≤ 8) : Nicks m (nicksL fr bh d m) := by
  have sub : ∀ x ∈ nicksL fr bh d m, x ∈ ((List.range (m + 1)).map (nk fr bh d)).filter fun x => decide (x ∉ keptWords) := fun x hx => List.mem_of_mem_take hx
  have nd0 : ((List.range (m + 1)).map (nk fr bh d)).Nodup := by
    rw [List.nodup_iff_pairwise_ne, List.pairwise_map]
    refine List.Pairwise.imp_of_mem ?_ (List.nodup_iff_pairwise_ne.mp List.nodup_range)
    intro a b ha hb ne e
    have ha := List.mem_range.mp ha
    have hb := List.mem_range.mp hb
    exact ne (nk_inj (by omega) (by omega) e)
  refine ⟨?_, ?_, ?_, fun x hx => ?_⟩
  · have one : 1 ≤ (((List.range (m + 1)).map (nk fr bh d)).filter fun x => decide (x ∉ keptWords)).length := by
      rcases one_free (fr := fr) (bh := bh) (d := d) with h | h
      · exact List.length_pos_of_mem (a := nk fr bh d 0) (List.mem_filter.mpr ⟨List.mem_map_of_mem (List.mem_range.mpr (by omega)), decide_eq_true h⟩)
      · exact List.length_pos_of_mem (a := nk fr bh d 1) (List.mem_filter.mpr ⟨List.mem_map_of_mem (List.mem_range.mpr (by omega)), decide_eq_true h⟩)
    unfold nicksL
    rw [List.length_take]
    omega
  · unfold nicksL
    rw [List.length_take]
    omega
  · exact (nd0.filter _).sublist (List.take_sublist ..)
  · obtain ⟨g1, g2⟩ := List.mem_filter.mp (sub x hx)
    obtain ⟨k, hk, rfl⟩ := List.mem_map.mp g1
    exact nk_nm h1 h2 (of_decide_eq_true g2)
abbrev sNicks : Stmt := top 82
abbrev nmNicks : List Str := ["_law_bag_here", "_law_many", "_law_letters", "_law_front", "_law_rear", "_law_first", "_law_found", "_law_k", "_law_one"]
abbrev psTk : List Str := ["_law_bag_here", "_law_many"]
theorem scNicks : FnScope nmNicks psTk (defScope sNicks) := ⟨rfl, rfl, rfl, by decide +kernel, rfl, by decide +kernel, by decide +kernel⟩
def spNicks : Sp := fun vs H Q _ => ∃ (b : Addr) (m n : Nat), vs = [.ref b, .int m] ∧ Bag H b (n + 9) ∧ 1 ≤ m ∧ m ≤ 8 ∧
  ∀ (p : Addr) (xs : List Str) (H' : Hp), H p = none → Kept b H H' → Bag H' b n → H' p = some (.lst (xs.map V.str)) → Nicks m xs → Q (.ref p) H'
theorem kept_none {b p : Addr} {H H' : Hp} {n : Nat} (h : Bag H b n) (k : Kept b H H') (z : H' p = none) (hb : ∃ xs, H' b = some (.lst xs)) : H p = none := by
  cases e : H p with
  | none => rfl
  | some o =>
    by_cases pb : p = b
    · obtain ⟨xs, h2⟩ := hb
      rw [pb, h2] at z
      cases z
    · rw [k _ _ pb e] at z
      cases z
section
variable {P : Program} {w : World} {K : PySem.W.Frag} {mg : Str → Option Value} {base : Heap} {f : Addr} {fd : FuncData}
theorem ok_nicks (mr : mg "range" = none) (F : Fun K "_law_nicks" "_law_nicks" sNicks f fd) (DT : Df P w K mg base 1 "_law_take" psTk spTake) : FnOk P w K mg base CX0 2 f fd psTk spNicks := by
  refine F.ok scNicks (fun vs H Q E h => ?_) (fun cdv A outer s H vs Q E hr h => ?_)
  · obtain ⟨b, m, n, rfl, _⟩ := h
    rfl
  obtain ⟨b, m, n, rfl, hB, m1, m8, q⟩ := h
  refine ⟨_, pss_cons (ps_set (i := 2) scNicks.nd rfl (Or.inr rfl) pe_str)
    (pss_cons (ps_set (i := 3) scNicks.nd rfl (Or.inr rfl) (pe_join pe_str (pe_lc (own := [("_law_k", 7)]) (g := gName 7) (tt := tYes) rfl scNicks.nd (pi_range1 rfl mr (pa_cons (pe_D DT hr rfl (pa_cons (pv 0) (pa_cons pe_int pa_nil))) pa_nil)) (blkOk_by (N := nmNicks) (sc := defScope sNicks) (by decide +kernel))
        (fun _ _ _ _ _ => pg_name (i := 7) scNicks.nd rfl (Or.inl rfl)) (fun _ _ _ _ _ => pts_nil) (fun _ _ _ _ _ => pe_ix ix_str (pv 2) (pe_D DT hr rfl (pa_cons (pv 0) (pa_cons pe_int pa_nil))) (fun _ _ => rfl)))))
    (pss_cons (ps_set (i := 4) scNicks.nd rfl (Or.inr rfl) (pe_join pe_str (pe_lc (own := [("_law_k", 7)]) (g := gName 7) (tt := tYes) rfl scNicks.nd (pi_range1 rfl mr (pa_cons (pe_D DT hr rfl (pa_cons (pv 0) (pa_cons pe_int pa_nil))) pa_nil)) (blkOk_by (N := nmNicks) (sc := defScope sNicks) (by decide +kernel))
        (fun _ _ _ _ _ => pg_name (i := 7) scNicks.nd rfl (Or.inl rfl)) (fun _ _ _ _ _ => pts_nil) (fun _ _ _ _ _ => pe_ix ix_str (pv 2) (pe_D DT hr rfl (pa_cons (pv 0) (pa_cons pe_int pa_nil))) (fun _ _ => rfl)))))
    (pss_cons (ps_set (i := 5) scNicks.nd rfl (Or.inr rfl) (pe_D DT hr rfl (pa_cons (pv 0) (pa_cons pe_int pa_nil))))
    (pss_cons (ps_setLc (i := 6) (own := [("_law_k", 7)]) (g := gName 7) (tt := tYes) (by rfl) scNicks.nd rfl rfl (sw_true rfl rfl rfl (by decide +kernel)) (pi_range1 rfl mr (pa_cons (pe_op op_add (pv 1) pe_int) pa_nil)) (blkOk_by (N := nmNicks) (sc := defScope sNicks) (by decide +kernel))
        (fun _ _ _ _ _ => pg_name (i := 7) scNicks.nd rfl (Or.inl rfl)) (fun _ _ _ _ _ => pts_nil) (fun _ _ _ _ _ => pe_op op_add_str (pe_op op_add_str (pv 3) (pe_ix ix_str (pv 2) (pe_op op_mod (pe_op op_add (pv 5) (pe_op op_mul pe_int (pv 7))) pe_int) (fun _ _ => rfl))) (pv 4)))
    (pss_one (ps_ret (pe_slice sl_list (pe_lc (own := [("_law_one", 8)]) (g := gName 8) (te := tVar 8) rfl scNicks.nd (pi_list (pv 6)) (blkOk_by (N := nmNicks) (sc := defScope sNicks) (by decide +kernel))
        (fun _ _ _ _ _ => pg_name (i := 8) scNicks.nd rfl (Or.inl rfl)) (fun _ _ _ _ _ => pts_one (pt_cmpR (show OpR _ (compareOp .NotIn) (rIn K true) from op_notIn_seq) (pv 8) (pe_tup (pa_cons pe_str (pa_cons pe_str (pa_cons pe_str (pa_cons pe_str (pa_cons pe_str pa_nil)))))) (by rfl))) (fun _ _ _ _ _ => pv 8)) po_none (po_some (pv 1))))))))), ?_⟩
  refine ⟨⟨_, rfl⟩, _, rfl, b, 5, n + 8, rfl, hB, by decide, by decide, fun d1 H1 k1 B1 d10 d11 => ⟨d1, rfl, by omega, by omega, fun C1 hC1 => ?_⟩⟩
  have b26 : ∀ {d : Int} {m0 : Nat}, 0 ≤ d → d < 26 → ∃ c, atI letters.cps.toList d = some c ∧ 97 ≤ c ∧ c ≤ 122 := fun {d m0} h0 h1 => ⟨_, abc_at h0 h1, by omega, by omega⟩
  refine lc_range (lo := 0) (n := d1.toNat) (fun i Hc => ∃ ys : List Str, Hc C1 = some (.lst (ys.map V.str)) ∧ ys.length = i ∧ (∀ y ∈ ys, ∃ c, y = ⟨#[c]⟩ ∧ 97 ≤ c ∧ c ≤ 122) ∧ Bag Hc b (n + 8 - i) ∧ Kept b H1 Hc)
    ⟨[], upd_same, rfl, (fun y hy => by cases hy), B1.keep (same_new hC1 _), Kept.new hC1 _⟩ ?_ ?_
  · rintro i Hc hi ⟨ys, y1, y2, y3, y4, y5⟩
    have nC := B1.ne hC1
    refine ⟨rfl, _, rfl, _, rfl, b, 26, n + 8 - (i + 1), rfl, y4.less (by omega), by decide, by decide, fun d H' k' B' h0 h1 => ?_⟩
    obtain ⟨c, ec, hc⟩ := b26 (m0 := 0) h0 h1
    refine ⟨letters, d, c, rfl, rfl, by decide, ec, _, k' _ _ nC y1, by rw [List.length_map]; exact small1000 (by omega), ys ++ [⟨#[c]⟩], by rw [upd_same, List.map_append]; rfl, by rw [List.length_append, y2]; rfl, fun y hy => ?_, B'.put nC.symm, fun a u na ha => ?_⟩
    · rcases List.mem_append.mp hy with hy | hy
      · exact y3 y hy
      · rw [List.mem_singleton.mp hy]
        exact ⟨c, rfl, hc⟩
    · rw [upd_ne (ne_of_none ha hC1)]
      exact k' _ _ na (y5 _ _ na ha)
  rintro HHa ⟨ys1, y11, y21, y31, y41, y51⟩
  have g1 := glue_to (k := 4) y31 (by omega)
  refine ⟨_, C1, ys1, rfl, rfl, .inl (SqL.of y11), by rw [sum_ones _ y31]; show ys1.length + ys1.length * 0 ≤ _; omega, ?_⟩
  have B1' := y41.less (show n + 4 ≤ n + 8 - d1.toNat by omega)
  refine ⟨⟨_, rfl⟩, _, rfl, b, 3, n + 3, rfl, B1', by decide, by decide, fun d2 H2 k2 B2 d20 d21 => ⟨d2, rfl, by omega, by omega, fun C2 hC2 => ?_⟩⟩
  refine lc_range (lo := 0) (n := d2.toNat) (fun i Hc => ∃ ys : List Str, Hc C2 = some (.lst (ys.map V.str)) ∧ ys.length = i ∧ (∀ y ∈ ys, ∃ c, y = ⟨#[c]⟩ ∧ 97 ≤ c ∧ c ≤ 122) ∧ Bag Hc b (n + 3 - i) ∧ Kept b H2 Hc)
    ⟨[], upd_same, rfl, (fun y hy => by cases hy), B2.keep (same_new hC2 _), Kept.new hC2 _⟩ ?_ ?_
  · rintro i Hc hi ⟨ys, y1, y2, y3, y4, y5⟩
    have nC := B2.ne hC2
    refine ⟨rfl, _, rfl, _, rfl, b, 26, n + 3 - (i + 1), rfl, y4.less (by omega), by decide, by decide, fun d H' k' B' h0 h1 => ?_⟩
    obtain ⟨c, ec, hc⟩ := b26 (m0 := 0) h0 h1
    refine ⟨letters, d, c, rfl, rfl, by decide, ec, _, k' _ _ nC y1, by rw [List.length_map]; exact small1000 (by omega), ys ++ [⟨#[c]⟩], by rw [upd_same, List.map_append]; rfl, by rw [List.length_append, y2]; rfl, fun y hy => ?_, B'.put nC.symm, fun a u na ha => ?_⟩
    · rcases List.mem_append.mp hy with hy | hy
      · exact y3 y hy
      · rw [List.mem_singleton.mp hy]
        exact ⟨c, rfl, hc⟩
    · rw [upd_ne (ne_of_none ha hC2)]
      exact k' _ _ na (y5 _ _ na ha)
  rintro HHb ⟨ys2, y12, y22, y32, y42, y52⟩
  have g2 := glue_to (k := 2) y32 (by omega)
  refine ⟨_, C2, ys2, rfl, rfl, .inl (SqL.of y12), by rw [sum_ones _ y32]; show ys2.length + ys2.length * 0 ≤ _; omega, ?_⟩
  have B2' := y42.less (show n + 1 ≤ n + 3 - d2.toNat by omega)
  refine ⟨_, rfl, b, 26, n, rfl, B2', by decide, by decide, fun d3 H3 k3 B3 d30 d31 => ?_⟩
  have kk3 : Kept b H H3 := k1.trans (y51.trans (k2.trans (y52.trans k3)))
  generalize Txt.join "" ys1 = fr at *
  generalize Txt.join "" ys2 = bh at *
  refine ⟨_, rfl, _, _, rfl, rfl, _, rfl, by omega, by omega, fun C4 hC4 => ?_⟩
  refine lc_range (lo := 0) (n := m + 1) (fun i Hc => Hc C4 = some (.lst (((List.range i).map (nk fr bh d3)).map V.str)) ∧ Same H3 Hc)
    ⟨upd_same, same_new hC4 _⟩ ?_ ?_
  · rintro i Hc hi ⟨y1, y4⟩
    have ec := abc_at (Int.emod_nonneg (d3 + 7 * (i : Int)) (show (26 : Int) ≠ 0 by decide)) (Int.emod_lt_of_pos (d3 + 7 * (i : Int)) (show (0 : Int) < 26 by decide))
    have lf : fr.length ≤ 4 := by rw [s_len]; exact g1.2
    have lb : bh.length ≤ 2 := by rw [s_len]; exact g2.2
    have sl : sizeLine = 16777216 := sizeLine_eq
    have l1 : (⟨#[ltr d3 i]⟩ : Str).length = 1 := rfl
    refine ⟨rfl, _, rfl, _, rfl, _, rfl, _, rfl, _, _, rfl, rfl, .inl ⟨by decide, by decide⟩, _, _, rfl, rfl, _, _, rfl, rfl, (by show (0 : Int) < 26; decide), letters, _, ltr d3 i, rfl, rfl, by decide, by rw [Int.zero_add]; exact ec, ?_⟩
    refine ⟨_, _, rfl, rfl, by omega, _, rfl, _, _, rfl, rfl, by rw [s_lapp]; omega, ?_⟩
    refine ⟨_, y1, by rw [List.length_map, List.length_map, List.length_range]; exact small1000 (by omega), ?_, fun a u ha => ?_⟩
    · rw [upd_same, List.range_succ, List.map_append, List.map_append]
      rfl
    · rw [upd_ne (ne_of_none ha hC4)]
      exact y4 _ _ ha
  rintro H5 ⟨u1, u4⟩
  refine ⟨_, rfl, C4, rfl, ⟨_, SqL.of u1⟩, fun C6 hC6 => ?_⟩
  refine turns_list (K := K) (a := C4) (xs := ((List.range (m + 1)).map (nk fr bh d3)).map V.str) (((List.range (m + 1)).map (nk fr bh d3)).map fun y => if y ∈ keptWords then none else some (V.str y)) hC6 (fun Hc s => SqL.of (s _ _ u1)) (by simp only [List.length_map]) (by rw [List.length_map, List.length_map, List.length_range]; exact Nat.le_of_lt (small1000 (by omega))) ?_ ?_
  · intro i z o Hc Y N hz ho sm hY hN
    rw [List.getElem?_map] at hz ho
    obtain ⟨y, hy, rfl⟩ := Option.map_eq_some_iff.mp hz
    rw [hy] at ho
    have ho : o = if y ∈ keptWords then none else some (V.str y) := (Option.some.inj ho).symm
    refine ⟨rfl, _, rfl, (by show 5 ≤ sizeLine; decide), fun p hp => ⟨p, _, rfl, .inr (SqT.of upd_same), rfl, rfl, _, rfl, ?_⟩⟩
    have ein : inV (.str y) (keptWords.map V.str) = decide (y ∈ keptWords) := in_strs
    by_cases e : y ∈ keptWords
    · rw [if_pos e] at ho
      refine itF ?_ (hN ho _ (same_new hp _))
      show (!inV (.str y) (keptWords.map V.str)) = false
      rw [ein, decide_eq_true e]
      rfl
    · rw [if_neg e] at ho
      refine itT ?_ ⟨_, rfl, hY _ ho _ (same_new hp _)⟩
      show (!inV (.str y) (keptWords.map V.str)) = true
      rw [ein, decide_eq_false e]
      rfl
  · intro H6 h6 s6
    rw [fm_free] at h6
    refine ⟨_, rfl, (m : Int), rfl, C6, _, rfl, SqL.of h6, fun p hp => ?_⟩
    have s7 := (u4.trans s6).trans (same_new hp (.lst (cutV ((((List.range (m + 1)).map (nk fr bh d3)).filter fun x => decide (x ∉ keptWords)).map V.str) none (some (m : Int)))))
    have ecut : ∀ (xs : List V) (i : Nat), cutV xs none (some (i : Int)) = xs.take i := fun xs i => by
      unfold cutV
      rw [HT.sIx_none, HT.sIx_nat, List.drop_zero, Nat.sub_zero]
      rcases Nat.le_total i xs.length with h | h
      · rw [Nat.min_eq_left h]
      · rw [Nat.min_eq_right h, List.take_of_length_le h, List.take_of_length_le (Nat.le_refl _)]
    refine q p (nicksL fr bh d3 m) _ ?_ (kk3.trans (.of s7)) (B3.keep s7) ?_ (nicks_ok g1 g2 m1 m8)
    · exact kept_none hB (kk3.trans (.of (u4.trans s6))) hp (B3.keep (u4.trans s6)).lst
    · rw [upd_same, ecut]
      unfold nicksL
      rw [List.map_take]
end
end Any
set_option pp.maxSteps 600
namespace Any
open L2 PySem PySem.Spec PyProof.Rows LamX NdefX
/-! ### drawn expressions -/
/-- what a room's draws are told: its boxes, whether it is the first, the rooms beneath, two sizes -/
structure InfoAt (H : Hp) (b i : Addr) (xs : List Str) (fst : Bool) (low : List Str) (mo tu : Int) (l lw : Addr) : Prop where
  at_ : H i = some (.tup [.ref l, .bl fst, .ref lw, .int mo, .int tu])
  own : H l = some (.lst (xs.map V.str))
  nl : l ≠ b
  below : H lw = some (.lst (low.map V.str))
  nw : lw ≠ b
  lo : 1 ≤ xs.length
  hi : xs.length ≤ 8
  lows : low.length ≤ 8
theorem Kept.tupsB {b : Addr} {H H' : Hp} {n : Nat} (k : Kept b H H') (B : Bag H b n) : Tups H H' := B.tups k
theorem InfoAt.kept {H H' : Hp} {b i l lw : Addr} {xs low : List Str} {fst : Bool} {mo tu : Int} {n : Nat} (h : InfoAt H b i xs fst low mo tu l lw) (B : Bag H b n) (k : Kept b H H') : InfoAt H' b i xs fst low mo tu l lw :=
  ⟨B.tups k _ _ h.at_, k _ _ h.nl h.own, h.nl, k _ _ h.nw h.below, h.nw, h.lo, h.hi, h.lows⟩
abbrev sExpr : Stmt := top 83
abbrev nmExpr : List Str := ["_law_bag_here", "_law_info", "_law_deep", "_law_nicks_here", "_law_is_first", "_law_kind", "_law_deed"]
abbrev psE : List Str := ["_law_bag_here", "_law_info", "_law_deep"]
theorem scExpr : FnScope nmExpr psE (defScope sExpr) := ⟨rfl, rfl, rfl, by decide +kernel, rfl, by decide +kernel, by decide +kernel⟩
def ce : Nat → Nat
  | 0 => 2
  | n + 1 => 2 * ce n + 2
theorem ce_pos (n : Nat) : 2 ≤ ce n := by
  cases n with
  | zero => exact Nat.le_refl _
  | succ n => show 2 ≤ 2 * ce n + 2; omega
def wsOf (fst : Bool) : List Str := if fst = true then [] else ["asked"]
def spExpr (n : Nat) : Sp := fun vs H Q _ => ∃ (b i l lw : Addr) (d m : Nat) (xs low : List Str) (fst : Bool) (mo tu : Int), vs = [.ref b, .ref i, .int d] ∧ d < n ∧ Bag H b (m + ce d) ∧ InfoAt H b i xs fst low mo tu l lw ∧
  ∀ (v : V) (e : Ex) (H' : Hp), Kept b H H' → Bag H' b m → ExAt H' v e → e.deep ≤ d + 1 → e.fit xs (wsOf fst) → Q v H'
theorem word5 {r : Int} (h0 : 0 ≤ r) (h1 : r < 5) : ∃ d : Dd, atI [V.str "plus", V.str "less", V.str "times", V.str "over", V.str "rest"] r = some (.str d.word) := by
  have : r = 0 ∨ r = 1 ∨ r = 2 ∨ r = 3 ∨ r = 4 := by omega
  rcases this with rfl | rfl | rfl | rfl | rfl
  · exact ⟨.plus, rfl⟩
  · exact ⟨.less, rfl⟩
  · exact ⟨.times, rfl⟩
  · exact ⟨.over, rfl⟩
  · exact ⟨.rest, rfl⟩
theorem str_at {xs : List Str} {r : Int} (h0 : 0 ≤ r) (h1 : r < (xs.length : Int)) : ∃ x ∈ xs, atI (xs.map V.str) r = some (.str x) := by
  have hk : r.toNat < xs.length := by omega
  refine ⟨xs[r.toNat], List.getElem_mem hk, ?_⟩
  have z : atI (xs.map V.str) ((r.toNat : Nat) : Int) = some (.str xs[r.toNat]) := atI_nat (by rw [List.getElem?_map, List.getElem?_eq_getElem hk]; rfl)
  rw [show ((r.toNat : Nat) : Int) = r by omega] at z
  exact z
section
variable {P : Program} {w : World} {K : PySem.W.Frag} {mg : Str → Option Value} {base : Heap} {f : Addr} {fd : FuncData}
theorem no_expr {k : Nat} : FnOk P w K mg base CX0 k f fd psE (spExpr 0) := by
  have no : ∀ vs H Q E, ¬ spExpr 0 vs H Q E := fun vs H Q E h => by
    obtain ⟨b, i, l, lw, d, m, xs, low, fst, mo, tu, _, hd, _⟩ := h
    omega
  exact ⟨fun vs H Q E h => absurd h (no vs H Q E), fun A outer s H args us vs Q E _ _ _ _ h => absurd h (no vs H Q E)⟩
theorem ok_expr {n : Nat} (ml : mg "len" = none) (F : Fun K "_law_expression" "_law_expression" sExpr f fd) (DT : Df P w K mg base 1 "_law_take" psTk spTake) (G : Df P w K mg base (n + 1) "_law_expression" psE (spExpr n)) : FnOk P w K mg base CX0 (n + 2) f fd psE (spExpr (n + 1)) := by
  refine F.ok scExpr (fun vs H Q E h => ?_) (fun cdv A outer s H vs Q E hr h => ?_)
  · obtain ⟨b, i, l, lw, d, m, xs, low, fst, mo, tu, rfl, _⟩ := h
    rfl
  obtain ⟨b, i, l, lw, d, m, xs, low, fst, mo, tu, rfl, hd, hB, hI, q⟩ := h
  have hr1 := hr.mono (show 1 ≤ n + 1 by omega)
  have cp := ce_pos d
  obtain ⟨t2, ht2, tail⟩ : ∃ t2, PSs (cxOf CX0 P w K mg base nmExpr "_law_expression" (defScope sExpr) f cdv A outer s H E).nox ((defBody sExpr).drop 3) t2 ∧
      ∀ (D : Ends) (H1 : Hp) (d1 : Int), D.rt = Q → Kept b H H1 → Bag H1 b (m + 1) → InfoAt H1 b i xs fst low mo tu l lw → 0 ≤ d1 → t2 D [some (.ref b), some (.ref i), some (.int d), some (.ref l), some (.bl fst), some (.int d1), none] H1 := by
    refine ⟨_, pss_cons (ps_if (PW.pt (pw_and (pt_cmpR op_eq (pv 5) pe_int (nomark _)) (pw_and1 (pt_not (pt_val (pv 4)))))) (pss_one (ps_ret (pe_tup (pa_cons pe_str pa_nil)))) pss_nil)
    (pss_one (ps_ret (pe_ifExp (pt_cmpR op_lt (pv 5) pe_int (nomark _)) (pe_tup (pa_cons pe_str (pa_cons (pe_ix ix_list (pv 3) (pe_D DT hr1 rfl (pa_cons (pv 0) (pa_cons (pe_callB call_len_seq rfl ml PySem.boot_len (pa_cons (pv 3) pa_nil)) pa_nil))) (fun _ _ => rfl)) pa_nil)))
      (pe_tup (pa_cons pe_str (pa_cons (pe_D DT hr1 rfl (pa_cons (pv 0) (pa_cons pe_int pa_nil))) pa_nil)))))), ?_⟩
    intro D H1 d1 eD k1 B1 I1 d10
    have asked : fst = false → ∀ p, H1 p = none → Q (.ref p) (upd H1 p (.tup [.str "asked"])) := fun ef p hp => by
      have s1 := same_new hp (.tup [.str "asked"])
      refine q _ .asked _ (k1.trans (.of s1)) ((B1.keep s1).less (by omega)) (.asked upd_same) (by show 1 ≤ d + 1; omega) ?_
      show ("asked" : Str) ∈ wsOf fst
      rw [ef]
      exact List.mem_singleton.mpr rfl
    have box : ∀ (z : Int) (H2 : Hp), Kept b H1 H2 → Bag H2 b m → 0 ≤ z → z < (xs.length : Int) → ∃ v, atI (xs.map V.str) z = some v ∧ ∀ p, H2 p = none → Q (.ref p) (upd H2 p (.tup [.str "box", v])) := fun z H2 k2 B2 z0 z1 => by
      obtain ⟨x, hx, ex⟩ := str_at z0 z1
      refine ⟨_, ex, fun p hp => ?_⟩
      have s1 := same_new hp (.tup [.str "box", .str x])
      exact q _ (.box x) _ (k1.trans (k2.trans (.of s1))) (B2.keep s1) (.box upd_same) (by show 1 ≤ d + 1; omega) hx
    have num : ∀ (z : Int) (H2 : Hp), Kept b H1 H2 → Bag H2 b m → 0 ≤ z → z < 1000 → ∀ p, H2 p = none → Q (.ref p) (upd H2 p (.tup [.str "number", .int z])) := fun z H2 k2 B2 z0 z1 p hp => by
      have s1 := same_new hp (.tup [.str "number", .int z])
      exact q _ (.num z) _ (k1.trans (k2.trans (.of s1))) (B2.keep s1) (.num upd_same) (by show 1 ≤ d + 1; omega) ⟨z0, by omega⟩
    refine ⟨_, rfl, rfl, _, rfl, ?_⟩
    by_cases c0 : d1 = 0
    · refine itT (decide_eq_true (by rw [c0])) ⟨_, rfl, _, rfl, ?_⟩
      cases fst with
      | false => exact itT rfl ⟨(by show 1 ≤ sizeLine; decide), fun p hp => by rw [eD]; exact asked rfl p hp⟩
      | true =>
        refine itF rfl ⟨_, rfl, _, _, rfl, rfl, _, rfl, itT (decide_eq_true (by omega)) ?_⟩
        refine ⟨_, rfl, _, rfl, _, rfl, l, _, rfl, .inl (SqL.of I1.own), b, (xs.length : Int), m, ?_, B1, ?_, ?_, fun z H2 k2 B2 z0 z1 => ?_⟩
        · rw [List.length_map]; rfl
        · have := I1.lo; omega
        · have := I1.hi; omega
        obtain ⟨v, ev, qq⟩ := box z H2 k2 B2 z0 z1
        exact ⟨l, _, _, _, rfl, rfl, SqL.of (k2 _ _ I1.nl I1.own), ev, (by show 2 ≤ sizeLine; decide), fun p hp => by rw [eD]; exact qq p hp⟩
    · refine itF (decide_eq_false fun z => c0 (V.int.inj z)) ⟨_, rfl, _, _, rfl, rfl, _, rfl, itD (fun c4 => ?_) (fun c4 => ?_)⟩
      · refine ⟨_, rfl, _, rfl, _, rfl, l, _, rfl, .inl (SqL.of I1.own), b, (xs.length : Int), m, ?_, B1, ?_, ?_, fun z H2 k2 B2 z0 z1 => ?_⟩
        · rw [List.length_map]; rfl
        · have := I1.lo; omega
        · have := I1.hi; omega
        obtain ⟨v, ev, qq⟩ := box z H2 k2 B2 z0 z1
        exact ⟨l, _, _, _, rfl, rfl, SqL.of (k2 _ _ I1.nl I1.own), ev, (by show 2 ≤ sizeLine; decide), fun p hp => by rw [eD]; exact qq p hp⟩
      · exact ⟨_, rfl, b, 1000, m, rfl, B1, by decide, by decide, fun z H2 k2 B2 z0 z1 => ⟨(by show 2 ≤ sizeLine; decide), fun p hp => by rw [eD]; exact num z H2 k2 B2 z0 z1 p hp⟩⟩
  refine ⟨_, pss_cons (ps_par (i := 3) (j := 4) (by rfl) scExpr.nd rfl rfl (by decide) rfl rfl (pa_cons (pe_ix ix_tup (pv 1) pe_int (fun _ _ => rfl)) (pa_cons (pe_ix ix_tup (pv 1) pe_int (fun _ _ => rfl)) pa_nil)) (by rfl))
    (pss_cons (ps_set (i := 5) scExpr.nd rfl (Or.inl rfl) (pe_D DT hr1 rfl (pa_cons (pv 0) (pa_cons pe_int pa_nil))))
    (pss_cons (ps_if (PW.pt (pw_and (pt_cmpR op_gt (pv 2) pe_int (nomark _)) (pw_and1 (pt_cmpR op_gt (pv 5) pe_int (nomark _)))))
      (pss_cons (ps_set (i := 6) scExpr.nd rfl (Or.inl rfl) (pe_ix ix_list (pe_lst (pa_cons pe_str (pa_cons pe_str (pa_cons pe_str (pa_cons pe_str (pa_cons pe_str pa_nil)))))) (pe_D DT hr1 rfl (pa_cons (pv 0) (pa_cons pe_int pa_nil))) (fun _ _ => rfl)))
      (pss_one (ps_ret (pe_tup (pa_cons (pv 6) (pa_cons (pe_D G hr rfl (pa_cons (pv 0) (pa_cons (pv 1) (pa_cons (pe_op op_sub (pv 2) pe_int) pa_nil)))) (pa_cons (pe_D G hr rfl (pa_cons (pv 0) (pa_cons (pv 1) (pa_cons (pe_op op_sub (pv 2) pe_int) pa_nil)))) pa_nil))))))) pss_nil)
    ht2)), ?_⟩
  have hI1 := hI.at_
  refine ⟨_, rfl, _, _, _, _, rfl, rfl, SqT.of hI1, atI_nat (j := 0) rfl, _, rfl, _, _, _, _, rfl, rfl, SqT.of hI1, atI_nat (j := 1) rfl, _, _, rfl, ?_⟩
  refine ⟨_, rfl, b, 8, m + (ce d - 1), rfl, hB.less (by omega), by decide, by decide, fun d1 H1 k1 B1 d10 d11 => ?_⟩
  have I1 := hI.kept hB k1
  refine ⟨_, rfl, _, _, rfl, rfl, _, rfl, itD (fun c1 => ?_) (fun c1 => ?_)⟩
  · refine ⟨_, rfl, _, _, rfl, rfl, _, rfl, itD (fun c2 => ?_) (fun c2 => ?_)⟩
    · obtain ⟨e, rfl⟩ : ∃ e, d = e + 1 := ⟨d - 1, by omega⟩
      have cee : ce (e + 1) = 2 * ce e + 2 := rfl
      have i1 : (((e + 1 : Nat) : Int)) - 1 = ((e : Nat) : Int) := by omega
      refine ⟨(by show 5 ≤ sizeLine; decide), fun p1 hp1 => ?_⟩
      refine ⟨_, rfl, b, 5, m + (ce e + ce e), rfl, (B1.keep (same_new hp1 _)).less (by omega), by decide, by decide, fun d2 H2 k2 B2 d20 d21 => ?_⟩
      obtain ⟨dd, ed⟩ := word5 d20 d21
      refine ⟨p1, _, _, _, rfl, rfl, SqL.of (k2 _ _ (B1.ne hp1) upd_same), ed, ?_⟩
      have kk2 : Kept b H1 H2 := (Kept.new hp1 _).trans k2
      have I2 := I1.kept B1 kk2
      refine ⟨_, rfl, _, rfl, _, rfl, _, rfl, _, _, rfl, rfl, b, i, l, lw, e, m + ce e, xs, low, fst, mo, tu, (by rw [← i1]; rfl), by omega, B2.less (by omega), I2, fun v1 x1 H3 k3 B3 a1 a2 a3 => ?_⟩
      refine ⟨_, rfl, _, rfl, _, rfl, _, _, rfl, rfl, b, i, l, lw, e, m, xs, low, fst, mo, tu, (by rw [← i1]; rfl), by omega, B3, I2.kept B2 k3, fun v2 x2 H4 k4 B4 b1 b2 b3 => ?_⟩
      refine ⟨(by show 3 ≤ sizeLine; decide), fun p5 hp5 => ?_⟩
      have s5 := same_new hp5 (.tup [.str dd.word, v1, v2])
      have a1 := a1.keep (B3.tups k4)
      refine q _ (.op dd x1 x2) _ (k1.trans (kk2.trans (k3.trans (k4.trans (.of s5))))) (B4.keep s5) (.op upd_same (a1.keep (Same.tups s5)) (b1.keep (Same.tups s5))) ?_ ⟨a3, b3⟩
      show max x1.deep x2.deep + 1 ≤ e + 1 + 1
      omega
    · exact tail _ H1 d1 rfl k1 (B1.less (by omega)) I1 d10
  · exact tail _ H1 d1 rfl k1 (B1.less (by omega)) I1 d10
theorem all_expr (ml : mg "len" = none) (N : Nd K mg "_law_expression" sExpr psE) (DT : Df P w K mg base 1 "_law_take" psTk spTake) : ∀ n : Nat, Df P w K mg base (n + 1) "_law_expression" psE (spExpr n)
  | 0 => by
    obtain ⟨f, fd, h1, h2, h3⟩ := N
    exact ⟨f, fd, h1, h2.kp, no_expr, h3⟩
  | n + 1 => by
    have G := all_expr ml N DT n
    obtain ⟨f, fd, h1, h2, h3⟩ := N
    exact ⟨f, fd, h1, h2.kp, ok_expr ml h2 DT G, h3⟩
end
end Any
set_option pp.maxSteps 600
namespace Any
open L2 PySem PySem.Spec PyProof.Rows LamX NdefX
/-! ### drawn tests -/
abbrev sTest : Stmt := top 84
abbrev nmTest : List Str := ["_law_bag_here", "_law_info", "_law_deep", "_law_kind"]
theorem scTest : FnScope nmTest psE (defScope sTest) := ⟨rfl, rfl, rfl, by decide +kernel, rfl, by decide +kernel, by decide +kernel⟩
def ct : Nat → Nat
  | 0 => 13
  | n + 1 => 2 * ct n + 1
theorem ct_pos (n : Nat) : 13 ≤ ct n := by
  induction n with
  | zero => exact Nat.le_refl _
  | succ n ih => show 13 ≤ 2 * ct n + 1; omega
def spTest (n : Nat) : Sp := fun vs H Q _ => ∃ (b i l lw : Addr) (d m : Nat) (xs low : List Str) (fst : Bool) (mo tu : Int), vs = [.ref b, .ref i, .int d] ∧ d < n ∧ Bag H b (m + ct d) ∧ InfoAt H b i xs fst low mo tu l lw ∧
  ∀ (v : V) (e : Ts) (H' : Hp), Kept b H H' → Bag H' b m → TsAt H' v e → e.dp ≤ d + 3 → e.fit xs (wsOf fst) → Q v H'
theorem two_at {x y : V} {r : Int} (h0 : 0 ≤ r) (h1 : r < 2) : (atI [x, y] r = some x) ∨ (atI [x, y] r = some y) := by
  have : r = 0 ∨ r = 1 := by omega
  rcases this with rfl | rfl
  · exact .inl rfl
  · exact .inr rfl
section
variable {P : Program} {w : World} {K : PySem.W.Frag} {mg : Str → Option Value} {base : Heap} {f : Addr} {fd : FuncData}
theorem no_test {k : Nat} : FnOk P w K mg base CX0 k f fd psE (spTest 0) := by
  have no : ∀ vs H Q E, ¬ spTest 0 vs H Q E := fun vs H Q E h => by
    obtain ⟨b, i, l, lw, d, m, xs, low, fst, mo, tu, _, hd, _⟩ := h
    omega
  exact ⟨fun vs H Q E h => absurd h (no vs H Q E), fun A outer s H args us vs Q E _ _ _ _ h => absurd h (no vs H Q E)⟩
theorem ok_test {n : Nat} (F : Fun K "_law_test" "_law_test" sTest f fd) (DT : Df P w K mg base 1 "_law_take" psTk spTake) (DX : Df P w K mg base 3 "_law_expression" psE (spExpr 2)) (G : Df P w K mg base (n + 3) "_law_test" psE (spTest n)) : FnOk P w K mg base CX0 (n + 4) f fd psE (spTest (n + 1)) := by
  refine F.ok scTest (fun vs H Q E h => ?_) (fun cdv A outer s H vs Q E hr h => ?_)
  · obtain ⟨b, i, l, lw, d, m, xs, low, fst, mo, tu, rfl, _⟩ := h
    rfl
  obtain ⟨b, i, l, lw, d, m, xs, low, fst, mo, tu, rfl, hd, hB, hI, q⟩ := h
  have hr1 := hr.mono (show 1 ≤ n + 3 by omega)
  have hr3 := hr.mono (show 3 ≤ n + 3 by omega)
  have cp := ct_pos d
  have c1 : ce 1 = 6 := rfl
  obtain ⟨t2, ht2, tail⟩ : ∃ t2, PSs (cxOf CX0 P w K mg base nmTest "_law_test" (defScope sTest) f cdv A outer s H E).nox ((defBody sTest).drop 3) t2 ∧
      ∀ (D : Ends) (H1 : Hp) (d1 : Int), D.rt = Q → Kept b H H1 → Bag H1 b (m + 12) → InfoAt H1 b i xs fst low mo tu l lw → t2 D [some (.ref b), some (.ref i), some (.int d), some (.int d1)] H1 := by
    refine ⟨_, pss_one (ps_ret (pe_tup (pa_cons (pe_ix ix_list (pe_lst (pa_cons pe_str (pa_cons pe_str pa_nil))) (pe_op op_mod (pv 3) pe_int) (fun _ _ => rfl)) (pa_cons (pe_D DX hr3 rfl (pa_cons (pv 0) (pa_cons (pv 1) (pa_cons pe_int pa_nil)))) (pa_cons (pe_D DX hr3 rfl (pa_cons (pv 0) (pa_cons (pv 1) (pa_cons pe_int pa_nil)))) pa_nil))))), ?_⟩
    intro D H1 d1 eD k1 B1 I1
    have m0 := Int.emod_nonneg d1 (show (2 : Int) ≠ 0 by decide)
    have m1 := Int.emod_lt_of_pos d1 (show (0 : Int) < 2 by decide)
    refine ⟨(by show 2 ≤ sizeLine; decide), fun p1 hp1 => ?_⟩
    have s1 := same_new hp1 (.lst [.str "is", .str "below"])
    have I2 := I1.kept B1 (.of s1)
    have B2 := B1.keep s1
    have go : ∀ (wd : Str) (mk : Ex → Ex → Ts), (∀ (H' : Hp) (a : Addr) (u v : V) (x y : Ex), H' a = some (.tup [.str wd, u, v]) → ExAt H' u x → ExAt H' v y → TsAt H' (.ref a) (mk x y)) → (∀ x y, (mk x y).dp = max x.deep y.deep + 1) → (∀ x y ws, Ex.fit xs ws x → Ex.fit xs ws y → (mk x y).fit xs ws) →
        (∃ (b' i' l' lw' : Addr) (d' m' : Nat) (xs' low' : List Str) (fst' : Bool) (mo' tu' : Int), [V.ref b, .ref i, .int 1] = [.ref b', .ref i', .int (d' : Int)] ∧ d' < 2 ∧ Bag (upd H1 p1 (.lst [.str "is", .str "below"])) b' (m' + ce d') ∧ InfoAt (upd H1 p1 (.lst [.str "is", .str "below"])) b' i' xs' fst' low' mo' tu' l' lw' ∧
          ∀ (v : V) (e : Ex) (H' : Hp), Kept b' (upd H1 p1 (.lst [.str "is", .str "below"])) H' → Bag H' b' m' → ExAt H' v e → e.deep ≤ d' + 1 → e.fit xs' (wsOf fst') →
          ∃ (b2 i2 l2 lw2 : Addr) (d2 m2 : Nat) (xs2 low2 : List Str) (fst2 : Bool) (mo2 tu2 : Int), [V.ref b, .ref i, .int 1] = [.ref b2, .ref i2, .int (d2 : Int)] ∧ d2 < 2 ∧ Bag H' b2 (m2 + ce d2) ∧ InfoAt H' b2 i2 xs2 fst2 low2 mo2 tu2 l2 lw2 ∧
          ∀ (v2 : V) (e2 : Ex) (H2 : Hp), Kept b2 H' H2 → Bag H2 b2 m2 → ExAt H2 v2 e2 → e2.deep ≤ d2 + 1 → e2.fit xs2 (wsOf fst2) → 3 ≤ sizeLine ∧ ∀ p, H2 p = none → D.rt (.ref p) (upd H2 p (.tup [.str wd, v, v2]))) := fun wd mk at_ dp fit => by
      refine ⟨b, i, l, lw, 1, m + 6, xs, low, fst, mo, tu, rfl, by decide, B2, I2, fun v1 x1 H3 k3 B3 a1 a2 a3 => ?_⟩
      refine ⟨b, i, l, lw, 1, m, xs, low, fst, mo, tu, rfl, by decide, B3, I2.kept B2 k3, fun v2 x2 H4 k4 B4 b1 b2 b3 => ⟨(by decide), fun p hp => ?_⟩⟩
      rw [eD]
      have s5 := same_new hp (.tup [.str wd, v1, v2])
      have a1 := a1.keep (B3.tups k4)
      refine q _ (mk x1 x2) _ (k1.trans ((Kept.of s1).trans (k3.trans (k4.trans (.of s5))))) (B4.keep s5) (at_ _ _ _ _ _ _ upd_same (a1.keep (Same.tups s5)) (b1.keep (Same.tups s5))) ?_ (fit _ _ _ a3 b3)
      rw [dp]
      omega
    rcases two_at (x := V.str "is") (y := V.str "below") m0 m1 with ei | ei
    · obtain ⟨a1, a2, a3, a4, a5, a6, a7, a8, a9, a10, a11, g1, g2, g3, g4, g5⟩ := go "is" .is (fun _ _ _ _ _ _ h x y => .is h x y) (fun _ _ => rfl) (fun _ _ _ h g => ⟨h, g⟩)
      refine ⟨_, rfl, _, _, rfl, rfl, (by show (0 : Int) < 2; decide), p1, _, _, _, rfl, rfl, SqL.of upd_same, ei, ?_⟩
      refine ⟨_, rfl, _, rfl, a1, a2, a3, a4, a5, a6, a7, a8, a9, a10, a11, g1, g2, g3, g4, fun v e H' k B x1 x2 x3 => ?_⟩
      obtain ⟨c1, c2, c3, c4, c5, c6, c7, c8, c9, c10, c11, f1, f2, f3, f4, f5⟩ := g5 v e H' k B x1 x2 x3
      exact ⟨_, rfl, _, rfl, c1, c2, c3, c4, c5, c6, c7, c8, c9, c10, c11, f1, f2, f3, f4, f5⟩
    · obtain ⟨a1, a2, a3, a4, a5, a6, a7, a8, a9, a10, a11, g1, g2, g3, g4, g5⟩ := go "below" .bel (fun _ _ _ _ _ _ h x y => .bel h x y) (fun _ _ => rfl) (fun _ _ _ h g => ⟨h, g⟩)
      refine ⟨_, rfl, _, _, rfl, rfl, (by show (0 : Int) < 2; decide), p1, _, _, _, rfl, rfl, SqL.of upd_same, ei, ?_⟩
      refine ⟨_, rfl, _, rfl, a1, a2, a3, a4, a5, a6, a7, a8, a9, a10, a11, g1, g2, g3, g4, fun v e H' k B x1 x2 x3 => ?_⟩
      obtain ⟨c1, c2, c3, c4, c5, c6, c7, c8, c9, c10, c11, f1, f2, f3, f4, f5⟩ := g5 v e H' k B x1 x2 x3
      exact ⟨_, rfl, _, rfl, c1, c2, c3, c4, c5, c6, c7, c8, c9, c10, c11, f1, f2, f3, f4, f5⟩
  refine ⟨_, pss_cons (ps_set (i := 3) scTest.nd rfl (Or.inl rfl) (pe_D DT hr1 rfl (pa_cons (pv 0) (pa_cons pe_int pa_nil))))
    (pss_cons (ps_if (PW.pt (pw_and (pt_cmpR op_gt (pv 2) pe_int (nomark _)) (pw_and1 (pt_cmpR op_eq (pv 3) pe_int (nomark _))))) (pss_one (ps_ret (pe_tup (pa_cons pe_str (pa_cons (pe_D G hr rfl (pa_cons (pv 0) (pa_cons (pv 1) (pa_cons (pe_op op_sub (pv 2) pe_int) pa_nil)))) pa_nil))))) pss_nil)
    (pss_cons (ps_if (PW.pt (pw_and (pt_cmpR op_gt (pv 2) pe_int (nomark _)) (pw_and1 (pt_cmpR op_lt (pv 3) pe_int (nomark _)))))
      (pss_one (ps_ret (pe_tup (pa_cons (pe_ix ix_list (pe_lst (pa_cons pe_str (pa_cons pe_str pa_nil))) (pe_op op_sub (pv 3) pe_int) (fun _ _ => rfl)) (pa_cons (pe_D G hr rfl (pa_cons (pv 0) (pa_cons (pv 1) (pa_cons (pe_op op_sub (pv 2) pe_int) pa_nil)))) (pa_cons (pe_D G hr rfl (pa_cons (pv 0) (pa_cons (pv 1) (pa_cons (pe_op op_sub (pv 2) pe_int) pa_nil)))) pa_nil)))))) pss_nil)
    ht2)), ?_⟩
  refine ⟨_, rfl, b, 6, m + (ct d - 1), rfl, hB.less (by omega), by decide, by decide, fun d1 H1 k1 B1 d10 d11 => ?_⟩
  have I1 := hI.kept hB k1
  have more : ∀ D : Ends, D.rt = Q → t2 D [some (.ref b), some (.ref i), some (.int d), some (.int d1)] H1 := fun D eD => tail D H1 d1 eD k1 (B1.less (by omega)) I1
  refine ⟨_, rfl, _, _, rfl, rfl, _, rfl, itD (fun c1 => ?_) (fun c1 => ?_)⟩
  · obtain ⟨e, rfl⟩ : ∃ e, d = e + 1 := ⟨d - 1, by omega⟩
    have cee : ct (e + 1) = 2 * ct e + 1 := rfl
    have i1 : (((e + 1 : Nat) : Int)) - 1 = ((e : Nat) : Int) := by omega
    refine ⟨_, rfl, rfl, _, rfl, itEq (fun c2 => ?_) (fun c2 => ?_)⟩
    · refine ⟨_, rfl, _, rfl, _, rfl, _, _, rfl, rfl, b, i, l, lw, e, m, xs, low, fst, mo, tu, (by rw [← i1]; rfl), by omega, B1.less (by omega), I1, fun v1 x1 H3 k3 B3 a1 a2 a3 => ⟨(by show 2 ≤ sizeLine; decide), fun p5 hp5 => ?_⟩⟩
      have s5 := same_new hp5 (.tup [.str "not", v1])
      exact q _ (.nt x1) _ (k1.trans (k3.trans (.of s5))) (B3.keep s5) (.nt upd_same (a1.keep (Same.tups s5))) (by show x1.dp + 1 ≤ e + 1 + 3; omega) a3
    · refine ⟨_, rfl, _, _, rfl, rfl, _, rfl, itD (fun c1 => ?_) (fun c1 => ?_)⟩
      · refine ⟨_, rfl, _, _, rfl, rfl, _, rfl, itD (fun c3 => ?_) (fun c3 => ?_)⟩
        · refine ⟨(by show 2 ≤ sizeLine; decide), fun p1 hp1 => ?_⟩
          have s1 := same_new hp1 (.lst [.str "both", .str "either"])
          have I2 := I1.kept B1 (.of s1)
          have B2 := B1.keep s1
          rcases two_at (x := V.str "both") (y := V.str "either") (r := d1 - 1) (by omega) (by omega) with ei | ei
          · refine ⟨_, rfl, _, _, rfl, rfl, p1, _, _, _, rfl, rfl, SqL.of upd_same, ei, ?_⟩
            refine ⟨_, rfl, _, rfl, _, rfl, _, _, rfl, rfl, b, i, l, lw, e, m + ct e, xs, low, fst, mo, tu, (by rw [← i1]; rfl), by omega, B2.less (by omega), I2, fun v1 x1 H3 k3 B3 a1 a2 a3 => ?_⟩
            refine ⟨_, rfl, _, rfl, _, rfl, _, _, rfl, rfl, b, i, l, lw, e, m, xs, low, fst, mo, tu, (by rw [← i1]; rfl), by omega, B3, I2.kept B2 k3, fun v2 x2 H4 k4 B4 b1 b2 b3 => ⟨(by show 3 ≤ sizeLine; decide), fun p5 hp5 => ?_⟩⟩
            have s5 := same_new hp5 (.tup [.str "both", v1, v2])
            have a1 := a1.keep (B3.tups k4)
            exact q _ (.both x1 x2) _ (k1.trans ((Kept.of s1).trans (k3.trans (k4.trans (.of s5))))) (B4.keep s5) (.both upd_same (a1.keep (Same.tups s5)) (b1.keep (Same.tups s5))) (by show max x1.dp x2.dp + 1 ≤ e + 1 + 3; omega) ⟨a3, b3⟩
          · refine ⟨_, rfl, _, _, rfl, rfl, p1, _, _, _, rfl, rfl, SqL.of upd_same, ei, ?_⟩
            refine ⟨_, rfl, _, rfl, _, rfl, _, _, rfl, rfl, b, i, l, lw, e, m + ct e, xs, low, fst, mo, tu, (by rw [← i1]; rfl), by omega, B2.less (by omega), I2, fun v1 x1 H3 k3 B3 a1 a2 a3 => ?_⟩
            refine ⟨_, rfl, _, rfl, _, rfl, _, _, rfl, rfl, b, i, l, lw, e, m, xs, low, fst, mo, tu, (by rw [← i1]; rfl), by omega, B3, I2.kept B2 k3, fun v2 x2 H4 k4 B4 b1 b2 b3 => ⟨(by show 3 ≤ sizeLine; decide), fun p5 hp5 => ?_⟩⟩
            have s5 := same_new hp5 (.tup [.str "either", v1, v2])
            have a1 := a1.keep (B3.tups k4)
            exact q _ (.either x1 x2) _ (k1.trans ((Kept.of s1).trans (k3.trans (k4.trans (.of s5))))) (B4.keep s5) (.either upd_same (a1.keep (Same.tups s5)) (b1.keep (Same.tups s5))) (by show max x1.dp x2.dp + 1 ≤ e + 1 + 3; omega) ⟨a3, b3⟩
        · exact more _ rfl
      · exact more _ rfl
  · exact ⟨_, rfl, _, _, rfl, rfl, _, rfl, itF (decide_eq_false c1) (more _ rfl)⟩
theorem all_test (N : Nd K mg "_law_test" sTest psE) (DT : Df P w K mg base 1 "_law_take" psTk spTake) (DX : Df P w K mg base 3 "_law_expression" psE (spExpr 2)) : ∀ n : Nat, Df P w K mg base (n + 3) "_law_test" psE (spTest n)
  | 0 => by
    obtain ⟨f, fd, h1, h2, h3⟩ := N
    exact ⟨f, fd, h1, h2.kp, no_test, h3⟩
  | n + 1 => by
    have G := all_test N DT DX n
    obtain ⟨f, fd, h1, h2, h3⟩ := N
    exact ⟨f, fd, h1, h2.kp, ok_test h2 DT DX G, h3⟩
end
/-! ### small ones are few -/
theorem Ex.cnt_two : ∀ e : Ex, e.cnt + 1 ≤ 2 ^ e.deep
  | .num _ => Nat.le_refl _
  | .box _ => Nat.le_refl _
  | .asked => Nat.le_refl _
  | .told => Nat.le_refl _
  | .op _ l r => by
    have h1 := l.cnt_two
    have h2 := r.cnt_two
    have h3 : 2 ^ l.deep ≤ 2 ^ max l.deep r.deep := Nat.pow_le_pow_right (by decide) (Nat.le_max_left ..)
    have h4 : 2 ^ r.deep ≤ 2 ^ max l.deep r.deep := Nat.pow_le_pow_right (by decide) (Nat.le_max_right ..)
    show 1 + (l.cnt + r.cnt) + 1 ≤ 2 ^ (max l.deep r.deep + 1)
    rw [Nat.pow_succ]
    omega
theorem Ts.cnt_two : ∀ e : Ts, e.cnt + 1 ≤ 2 ^ e.dp
  | .is l r => by
    have h1 := l.cnt_two
    have h2 := r.cnt_two
    have h3 : 2 ^ l.deep ≤ 2 ^ max l.deep r.deep := Nat.pow_le_pow_right (by decide) (Nat.le_max_left ..)
    have h4 : 2 ^ r.deep ≤ 2 ^ max l.deep r.deep := Nat.pow_le_pow_right (by decide) (Nat.le_max_right ..)
    show 1 + (l.cnt + r.cnt) + 1 ≤ 2 ^ (max l.deep r.deep + 1)
    rw [Nat.pow_succ]
    omega
  | .bel l r => by
    have h1 := l.cnt_two
    have h2 := r.cnt_two
    have h3 : 2 ^ l.deep ≤ 2 ^ max l.deep r.deep := Nat.pow_le_pow_right (by decide) (Nat.le_max_left ..)
    have h4 : 2 ^ r.deep ≤ 2 ^ max l.deep r.deep := Nat.pow_le_pow_right (by decide) (Nat.le_max_right ..)
    show 1 + (l.cnt + r.cnt) + 1 ≤ 2 ^ (max l.deep r.deep + 1)
    rw [Nat.pow_succ]
    omega
  | .nt t => by
    have h1 := t.cnt_two
    have h2 : 0 < 2 ^ t.dp := Nat.pow_pos (by decide)
    show 1 + t.cnt + 1 ≤ 2 ^ (t.dp + 1)
    rw [Nat.pow_succ]
    omega
  | .both t u => by
    have h1 := t.cnt_two
    have h2 := u.cnt_two
    have h3 : 2 ^ t.dp ≤ 2 ^ max t.dp u.dp := Nat.pow_le_pow_right (by decide) (Nat.le_max_left ..)
    have h4 : 2 ^ u.dp ≤ 2 ^ max t.dp u.dp := Nat.pow_le_pow_right (by decide) (Nat.le_max_right ..)
    show 1 + (t.cnt + u.cnt) + 1 ≤ 2 ^ (max t.dp u.dp + 1)
    rw [Nat.pow_succ]
    omega
  | .either t u => by
    have h1 := t.cnt_two
    have h2 := u.cnt_two
    have h3 : 2 ^ t.dp ≤ 2 ^ max t.dp u.dp := Nat.pow_le_pow_right (by decide) (Nat.le_max_left ..)
    have h4 : 2 ^ u.dp ≤ 2 ^ max t.dp u.dp := Nat.pow_le_pow_right (by decide) (Nat.le_max_right ..)
    show 1 + (t.cnt + u.cnt) + 1 ≤ 2 ^ (max t.dp u.dp + 1)
    rw [Nat.pow_succ]
    omega
theorem Ex.right_of {xs ws : List Str} {e : Ex} (h : e.fit xs ws) (d : e.deep ≤ 4) : e.right xs ws := by
  have h1 := e.cnt_two
  have h2 : 2 ^ e.deep ≤ 2 ^ 4 := Nat.pow_le_pow_right (by decide) d
  exact ⟨h, by omega, by omega⟩
theorem Ts.right_of {xs ws : List Str} {e : Ts} (h : e.fit xs ws) (d : e.dp ≤ 4) : e.right xs ws := by
  have h1 := e.cnt_two
  have h2 : 2 ^ e.dp ≤ 2 ^ 4 := Nat.pow_le_pow_right (by decide) d
  exact ⟨h, by omega, by omega⟩
end Any
set_option pp.maxSteps 600
namespace Any
open L2 PySem PySem.Spec PyProof.Rows LamX NdefX
/-! ### drawn steps: what is told of them -/
def Bd.of : List Sg → Bd
  | [] => .nil
  | s :: r => .cons s (Bd.of r)
theorem of_at {H : Hp} : ∀ {vs : List V} {l : List Sg}, Paired (SgAt H) vs l → BdL H vs (Bd.of l)
  | _, _, .nil => by
    unfold Bd.of BdL
    rfl
  | _, _, .cons r t => by
    unfold Bd.of BdL
    exact ⟨_, _, rfl, r, of_at t⟩
theorem of_ok {xs ws rs : List Str} : ∀ {l : List Sg}, (∀ s ∈ l, s.ok xs ws rs) → (Bd.of l).ok xs ws rs
  | [], _ => by
    unfold Bd.of Bd.ok
    trivial
  | s :: r, h => by
    unfold Bd.of Bd.ok
    exact ⟨h s (List.mem_cons_self ..), of_ok fun t ht => h t (List.mem_cons_of_mem _ ht)⟩
theorem of_len : ∀ l : List Sg, (Bd.of l).len = l.length
  | [] => rfl
  | s :: r => by
    unfold Bd.of Bd.len
    rw [of_len r]
    rfl
theorem of_dp {k : Nat} : ∀ {l : List Sg}, (∀ s ∈ l, s.dp ≤ k) → (Bd.of l).dp ≤ k
  | [], _ => by
    unfold Bd.of Bd.dp
    omega
  | s :: r, h => by
    unfold Bd.of Bd.dp
    have h1 := h s (List.mem_cons_self ..)
    have h2 := of_dp (l := r) fun t ht => h t (List.mem_cons_of_mem _ ht)
    omega
theorem of_tot : ∀ l : List Sg, (Bd.of l).tot = (l.map Sg.tot).sum
  | [] => by
    unfold Bd.of Bd.tot
    rfl
  | s :: r => by
    unfold Bd.of Bd.tot
    rw [of_tot r, List.map_cons, List.sum_cons]
theorem p_snoc {α β : Type} {R : α → β → Prop} : ∀ {xs : List α} {ys : List β}, Paired R xs ys → ∀ {x : α} {y : β}, R x y → Paired R (xs ++ [x]) (ys ++ [y])
  | _, _, .nil, _, _, h => .cons h .nil
  | _, _, .cons r t, _, _, h => .cons r (p_snoc t h)
theorem strs_data {K : PySem.W.Frag} {H : Hp} : ∀ xs : List Str, DpAll K H (xs.map V.str) (xs.map PyData.str)
  | [] => .nil
  | x :: r => .cons (.str x) (strs_data r)
theorem shaped_strs : ∀ rs : List Str, (∀ r ∈ rs, PyData.strOk r = true) → PyData.canLayAll0 (rs.map PyData.str) = true ∧ PyData.depthAll (rs.map PyData.str) = 0
  | [], _ => ⟨rfl, rfl⟩
  | x :: r, h => by
    obtain ⟨h1, h2⟩ := shaped_strs r fun y hy => h y (List.mem_cons_of_mem _ hy)
    have h3 := h x (List.mem_cons_self ..)
    refine ⟨?_, ?_⟩
    · show (PyData.strOk x && PyData.canLayAll0 (r.map PyData.str)) = true
      rw [h1, h3]
      rfl
    · show max 0 (PyData.depthAll (r.map PyData.str)) = 0
      rw [h2]
      rfl
theorem shaped_lst {rs : List Str} (h : ∀ r ∈ rs, PyData.strOk r = true) : SeqAt.shaped (.list (rs.map PyData.str)) = true := by
  obtain ⟨h1, h2⟩ := shaped_strs rs h
  unfold SeqAt.shaped
  show (PyData.canLayAll0 (rs.map PyData.str) && decide (PyData.depthAll (rs.map PyData.str) + 1 ≤ 64)) = true
  rw [h1, h2]
  rfl
theorem eqv_nil (rs : List Str) : PyData.eqv (.list (rs.map PyData.str)) (.list []) = decide (rs = []) := by
  cases rs with
  | nil => rfl
  | cons x r => rfl
theorem nm_ok {x : Str} (h : Nm x) : PyData.strOk x = true := by
  unfold PyData.strOk
  rw [Array.all_eq_true']
  intro c hc
  have := h.low c (by simpa using hc)
  exact decide_eq_true (by omega)
/-- all but these two stay -/
def K2 (b L : Addr) (H H' : Hp) : Prop := ∀ a o, a ≠ b → a ≠ L → H a = some o → H' a = some o
theorem K2.of {b L : Addr} {H H' : Hp} (k : Kept b H H') : K2 b L H H' := fun a o n _ h => k a o n h
theorem K2.refl {b L : Addr} {H : Hp} : K2 b L H H := fun _ _ _ _ h => h
theorem K2.trans {b L : Addr} {H H1 H2 : Hp} (k : K2 b L H H1) (g : K2 b L H1 H2) : K2 b L H H2 := fun a o n m h => g a o n m (k a o n m h)
theorem K2.put {b L : Addr} {H : Hp} {o : HO} : K2 b L H (upd H L o) := fun a u _ m h => by rw [upd_ne m]; exact h
theorem K2.tups {b L : Addr} {H H' : Hp} {n : Nat} {xs : List V} (k : K2 b L H H') (B : Bag H b n) (h : H L = some (.lst xs)) : Tups H H' := fun a ts ha => by
  obtain ⟨ys, hb⟩ := B.lst
  exact k _ _ (ne_of ha hb (by intro z; cases z)) (ne_of ha h (by intro z; cases z)) ha
structure DrawAt (H : Hp) (b i L : Addr) (k : Nat) (xs : List Str) (fst : Bool) (low : List Str) (mo tu : Int) (l lw : Addr) : Prop where
  info : InfoAt H b i xs fst low mo tu l lw
  nL : L ≠ b
  nl : l ≠ L
  nw : lw ≠ L
  left : H L = some (.lst [.int k])
  mo1 : 1 ≤ mo
  mo9 : mo ≤ 9
  tu1 : 1 ≤ tu
  tu7 : tu ≤ 7
  ok : ∀ r ∈ low, PyData.strOk r = true
theorem DrawAt.k2 {H H' : Hp} {b i L l lw : Addr} {k k' n : Nat} {xs low : List Str} {fst : Bool} {mo tu : Int} (h : DrawAt H b i L k xs fst low mo tu l lw) (B : Bag H b n) (g : K2 b L H H') (hL : H' L = some (.lst [.int k'])) : DrawAt H' b i L k' xs fst low mo tu l lw :=
  ⟨⟨g.tups B h.left _ _ h.info.at_, g _ _ h.info.nl h.nl h.info.own, h.info.nl, g _ _ h.info.nw h.nw h.info.below, h.info.nw, h.info.lo, h.info.hi, h.info.lows⟩, h.nL, h.nl, h.nw, hL, h.mo1, h.mo9, h.tu1, h.tu7, h.ok⟩
theorem DrawAt.kept {H H' : Hp} {b i L l lw : Addr} {k n : Nat} {xs low : List Str} {fst : Bool} {mo tu : Int} (h : DrawAt H b i L k xs fst low mo tu l lw) (B : Bag H b n) (g : Kept b H H') : DrawAt H' b i L k xs fst low mo tu l lw := h.k2 B (.of g) (g _ _ h.nL h.left)
/-- how often a bag is asked, at most -/
def cs : Nat → Nat
  | 0 => 97
  | n + 1 => 181 + 12 * cs n
def it : Nat → Nat
  | 0 => 16
  | n + 1 => 30 + 2 * cs n
theorem cs_it : ∀ n, cs n = 1 + 6 * it n
  | 0 => rfl
  | n + 1 => by
    show 181 + 12 * cs n = 1 + 6 * (30 + 2 * cs n)
    omega
theorem it_lo (n : Nat) : 16 ≤ it n := by
  cases n with
  | zero => exact Nat.le_refl _
  | succ n => show 16 ≤ 30 + 2 * cs n; omega
abbrev psSt : List Str := ["_law_bag_here", "_law_info", "_law_deep", "_law_left"]
def spSteps (n : Nat) : Sp := fun vs H Q _ => ∃ (b i L l lw : Addr) (d m k : Nat) (xs low : List Str) (fst : Bool) (mo tu : Int), vs = [.ref b, .ref i, .int d, .ref L] ∧ d < n ∧ Bag H b (m + cs d) ∧ DrawAt H b i L k xs fst low mo tu l lw ∧
  ∀ (p : Addr) (bd : Bd) (H' : Hp) (k' : Nat), K2 b L H H' → Bag H' b m → H' L = some (.lst [.int k']) → BdAt H' p bd → bd.ok xs (wsOf fst) low → bd.len ≤ 6 → bd.dp ≤ d + 1 → bd.tot + k' ≤ k → Q (.ref p) H'
def spStep (n : Nat) : Sp := fun vs H Q _ => ∃ (b i L l lw : Addr) (d m k : Nat) (xs low : List Str) (fst : Bool) (mo tu : Int), vs = [.ref b, .ref i, .int d, .ref L] ∧ d ≤ n ∧ Bag H b (m + it d) ∧ DrawAt H b i L k xs fst low mo tu l lw ∧
  ∀ (v : V) (sg : Sg) (H' : Hp) (k' : Nat), K2 b L H H' → Bag H' b m → H' L = some (.lst [.int k']) → SgAt H' v sg → sg.ok xs (wsOf fst) low → sg.dp ≤ d + 1 → sg.tot + k' ≤ k + 1 → Q v H'
abbrev sStep : Stmt := top 85
abbrev nmStep : List Str := ["_law_bag_here", "_law_info", "_law_deep", "_law_left", "_law_nicks_here", "_law_lower", "_law_kind", "_law_box", "_law_first", "_law_most"]
theorem scStep : FnScope nmStep psSt (defScope sStep) := ⟨rfl, rfl, rfl, by decide +kernel, rfl, by decide +kernel, by decide +kernel⟩
end Any
set_option pp.maxSteps 600
namespace Any
open L2 PySem PySem.Spec PyProof.Rows LamX NdefX
section
variable {P : Program} {w : World} {K : PySem.W.Frag} {mg : Str → Option Value} {base : Heap} {f : Addr} {fd : FuncData}
theorem ok_step {n : Nat} (ml : mg "len" = none) (F : Fun K "_law_step" "_law_step" sStep f fd) (DT : Df P w K mg base 1 "_law_take" psTk spTake) (DX : Df P w K mg base 4 "_law_expression" psE (spExpr 3)) (DS : Df P w K mg base 5 "_law_test" psE (spTest 2)) (G : Df P w K mg base (2 * n + 5) "_law_steps" psSt (spSteps n)) :
    FnOk P w K mg base CX0 (2 * n + 6) f fd psSt (spStep n) := by
  refine F.ok scStep (fun vs H Q E h => ?_) (fun cdv A outer s H vs Q E hr h => ?_)
  · obtain ⟨b, i, L, l, lw, d, m, k, xs, low, fst, mo, tu, rfl, _⟩ := h
    rfl
  obtain ⟨b, i, L, l, lw, d, m, k, xs, low, fst, mo, tu, rfl, hd, hB, hD, q⟩ := h
  have hs : sizeLine = 16777216 := sizeLine_eq
  have hr1 := hr.mono (show 1 ≤ 2 * n + 5 by omega)
  have hr4 := hr.mono (show 4 ≤ 2 * n + 5 by omega)
  have hr5 := hr.mono (show 5 ≤ 2 * n + 5 by omega)
  have e1 : ce 1 = 6 := rfl
  have e2 : ce 2 = 14 := rfl
  have e3 : ct 1 = 27 := rfl
  have il := it_lo d
  -- hear, set, say
  obtain ⟨t4, ht4, leaf4⟩ : ∃ t4, PSs (cxOf CX0 P w K mg base nmStep "_law_step" (defScope sStep) f cdv A outer s H E).nox ((defBody sStep).drop 5) t4 ∧
      ∀ (D : Ends) (H1 : Hp) (kd : Int) (xb : Str), D.rt = Q → Kept b H H1 → Bag H1 b (m + 14) → xb ∈ xs → t4 D [some (.ref b), some (.ref i), some (.int d), some (.ref L), some (.ref l), some (.ref lw), some (.int kd), some (.str xb), none, none] H1 := by
    refine ⟨_, pss_cons (ps_if (pt_cmpR op_eq (pv 6) pe_int (nomark _)) (pss_one (ps_ret (pe_tup (pa_cons pe_str (pa_cons (pv 7) pa_nil))))) pss_nil)
      (pss_one (ps_ret (pe_tup (pa_cons (pe_ix ix_list (pe_lst (pa_cons pe_str (pa_cons pe_str pa_nil))) (pe_op op_mod (pv 6) pe_int) (fun _ _ => rfl)) (pa_cons (pv 7) (pa_cons (pe_D DX hr4 rfl (pa_cons (pv 0) (pa_cons (pv 1) (pa_cons pe_int pa_nil)))) pa_nil)))))), ?_⟩
    intro D H1 kd xb eD k1 B1 hxb
    have D1 := hD.kept hB k1
    refine ⟨_, rfl, rfl, _, rfl, itEq (fun _ => ?_) (fun _ => ?_)⟩
    · refine ⟨_, rfl, (by show 2 ≤ sizeLine; omega), fun p np => ?_⟩
      have s1 := same_new np (.tup [.str "hear", .str xb])
      rw [eD]
      exact q (.ref p) (.hear xb) _ k (.of (k1.trans (.of s1))) ((B1.keep s1).less (by omega)) (s1 _ _ D1.left) (by unfold SgAt; exact ⟨p, rfl, upd_same⟩) (by unfold Sg.ok; exact hxb) (by unfold Sg.dp; omega) (by unfold Sg.tot; omega)
    · have m0 := Int.emod_nonneg kd (show (2 : Int) ≠ 0 by decide)
      have m1 := Int.emod_lt_of_pos kd (show (0 : Int) < 2 by decide)
      refine ⟨(by show 2 ≤ sizeLine; omega), fun p1 np1 => ?_⟩
      have s1 := same_new np1 (.lst [.str "set", .str "say"])
      rcases two_at (x := V.str "set") (y := V.str "say") m0 m1 with ei | ei
      · refine ⟨_, rfl, _, _, rfl, rfl, (by show (0 : Int) < 2; decide), p1, _, _, _, rfl, rfl, SqL.of upd_same, ei, _, rfl, ?_⟩
        refine ⟨_, rfl, _, rfl, b, i, l, lw, 2, m, xs, low, fst, mo, tu, rfl, by decide, (B1.keep s1).less (by omega), D1.info.kept B1 (.of s1), fun ve ex H2 k2 B2 a1 a2 a3 => ⟨(by show 3 ≤ sizeLine; omega), fun p np => ?_⟩⟩
        have s2 := same_new np (.tup [.str "set", .str xb, ve])
        have kk : Kept b H1 _ := (Kept.of s1).trans (k2.trans (.of s2))
        rw [eD]
        exact q (.ref p) (.set xb ex) _ k (.of (k1.trans kk)) (B2.keep s2) (kk _ _ hD.nL D1.left) (by unfold SgAt; exact ⟨p, ve, rfl, upd_same, a1.keep (Same.tups s2)⟩) (by unfold Sg.ok; exact ⟨hxb, Ex.right_of a3 (by omega)⟩) (by unfold Sg.dp; omega) (by unfold Sg.tot; omega)
      · refine ⟨_, rfl, _, _, rfl, rfl, (by show (0 : Int) < 2; decide), p1, _, _, _, rfl, rfl, SqL.of upd_same, ei, _, rfl, ?_⟩
        refine ⟨_, rfl, _, rfl, b, i, l, lw, 2, m, xs, low, fst, mo, tu, rfl, by decide, (B1.keep s1).less (by omega), D1.info.kept B1 (.of s1), fun ve ex H2 k2 B2 a1 a2 a3 => ⟨(by show 3 ≤ sizeLine; omega), fun p np => ?_⟩⟩
        have s2 := same_new np (.tup [.str "say", .str xb, ve])
        have kk : Kept b H1 _ := (Kept.of s1).trans (k2.trans (.of s2))
        rw [eD]
        exact q (.ref p) (.say xb ex) _ k (.of (k1.trans kk)) (B2.keep s2) (kk _ _ hD.nL D1.left) (by unfold SgAt; exact ⟨p, ve, rfl, upd_same, a1.keep (Same.tups s2)⟩) (by unfold Sg.ok; exact ⟨hxb, Ex.right_of a3 (by omega)⟩) (by unfold Sg.dp; omega) (by unfold Sg.tot; omega)
  -- call
  obtain ⟨t3, ht3, leaf3⟩ : ∃ t3, PSs (cxOf CX0 P w K mg base nmStep "_law_step" (defScope sStep) f cdv A outer s H E).nox ((defBody sStep).drop 4) t3 ∧
      ∀ (D : Ends) (H1 : Hp) (kd : Int) (xb : Str), D.rt = Q → Kept b H H1 → Bag H1 b (m + 14) → xb ∈ xs → t3 D [some (.ref b), some (.ref i), some (.int d), some (.ref L), some (.ref l), some (.ref lw), some (.int kd), some (.str xb), none, none] H1 := by
    refine ⟨_, pss_cons (ps_if (PW.pt (pw_and (pt_cmpR op_lt (pv 6) pe_int (nomark _)) (pw_and1 (pt_cmpR (op_neD hr.units) (pv 5) (pe_lst pa_nil) (nomark _)))))
        (pss_one (ps_ret (pe_tup (pa_cons pe_str (pa_cons (pv 7) (pa_cons (pe_ix ix_list (pv 5) (pe_D DT hr1 rfl (pa_cons (pv 0) (pa_cons (pe_callB call_len_seq rfl ml PySem.boot_len (pa_cons (pv 5) pa_nil)) pa_nil))) (fun _ _ => rfl)) (pa_cons (pe_D DX hr4 rfl (pa_cons (pv 0) (pa_cons (pv 1) (pa_cons pe_int pa_nil)))) pa_nil))))))) pss_nil) ht4, ?_⟩
    intro D H1 kd xb eD k1 B1 hxb
    have D1 := hD.kept hB k1
    refine ⟨_, rfl, _, _, rfl, rfl, _, rfl, itD (fun c => ?_) (fun c => itF rfl (leaf4 _ H1 kd xb eD k1 B1 hxb))⟩
    refine ⟨_, rfl, (by show 0 ≤ sizeLine; omega), fun p np => ?_⟩
    have sp := same_new np (.lst [])
    refine ⟨.list (low.map PyData.str), .list [], .lst (SqL.of (sp _ _ D1.info.below)) (strs_data low), .lst (SqL.of upd_same) .nil, shaped_lst hD.ok, rfl, _, rfl, ?_⟩
    rw [eqv_nil]
    have D2 := D1.kept B1 (.of sp)
    have B2 := B1.keep sp
    refine itN (fun c2 => ?_) (fun c2 => leaf4 _ _ kd xb eD (k1.trans (.of sp)) B2 hxb)
    have hl1 : 1 ≤ low.length := by
      cases low with
      | nil => exact absurd rfl c2
      | cons x r => exact Nat.le_add_left 1 _
    have hl8 := hD.info.lows
    refine ⟨_, rfl, _, rfl, _, rfl, _, rfl, lw, _, rfl, .inl (SqL.of D2.info.below), b, (low.length : Int), m + 6, (by rw [List.length_map]; rfl), B2.less (by omega), by omega, by omega, fun z H3 k3 B3 z0 z1 => ?_⟩
    obtain ⟨xr, hxr, ex⟩ := str_at z0 z1
    refine ⟨lw, _, _, _, rfl, rfl, SqL.of (k3 _ _ hD.info.nw D2.info.below), ex, ?_⟩
    refine ⟨_, rfl, _, rfl, b, i, l, lw, 1, m, xs, low, fst, mo, tu, rfl, by decide, B3, D2.info.kept B2 k3, fun ve ee H4 k4 B4 a1 a2 a3 => ⟨(by show 4 ≤ sizeLine; omega), fun p5 n5 => ?_⟩⟩
    have s5 := same_new n5 (.tup [.str "call", .str xb, .str xr, ve])
    have kk : Kept b H1 _ := (Kept.of sp).trans (k3.trans (k4.trans (.of s5)))
    rw [eD]
    exact q (.ref p5) (.call xb xr ee) _ k (.of (k1.trans kk)) (B4.keep s5) (kk _ _ hD.nL D1.left) (by unfold SgAt; exact ⟨p5, ve, rfl, upd_same, a1.keep (Same.tups s5)⟩) (by unfold Sg.ok; exact ⟨hxb, hxr, Ex.right_of a3 (by omega)⟩) (by unfold Sg.dp; omega) (by unfold Sg.tot; omega)
  -- for
  obtain ⟨t2, ht2, leaf2⟩ : ∃ t2, PSs (cxOf CX0 P w K mg base nmStep "_law_step" (defScope sStep) f cdv A outer s H E).nox ((defBody sStep).drop 3) t2 ∧
      ∀ (D : Ends) (H1 : Hp) (kd : Int) (xb : Str), D.rt = Q → Kept b H H1 → Bag H1 b (m + (it d - 2)) → xb ∈ xs → t2 D [some (.ref b), some (.ref i), some (.int d), some (.ref L), some (.ref l), some (.ref lw), some (.int kd), some (.str xb), none, none] H1 := by
    refine ⟨_, pss_cons (ps_if (PW.pt (pw_and (pt_cmpR op_lt (pv 6) pe_int (nomark _)) (pw_and1 (pt_cmpR op_gt (pv 2) pe_int (nomark _)))))
        (pss_cons (ps_set (i := 9) scStep.nd rfl (Or.inl rfl) (pe_op op_add pe_int (pe_D DT hr1 rfl (pa_cons (pv 0) (pa_cons (pe_ix ix_tup (pv 1) pe_int (fun _ _ => rfl)) pa_nil)))))
        (pss_one (ps_ret (pe_tup (pa_cons pe_str (pa_cons (pe_D DX hr4 rfl (pa_cons (pv 0) (pa_cons (pv 1) (pa_cons pe_int pa_nil)))) (pa_cons (pv 9) (pa_cons (pe_D G hr rfl (pa_cons (pv 0) (pa_cons (pv 1) (pa_cons (pe_op op_sub (pv 2) pe_int) (pa_cons (pv 3) pa_nil))))) pa_nil)))))))) pss_nil) ht3, ?_⟩
    intro D H1 kd xb eD k1 B1 hxb
    have D1 := hD.kept hB k1
    refine ⟨_, rfl, _, _, rfl, rfl, _, rfl, itD (fun c => ?_) (fun c => itF rfl (leaf3 _ H1 kd xb eD k1 (B1.less (by omega)) hxb))⟩
    refine ⟨_, rfl, _, _, rfl, rfl, _, rfl, itD (fun c2 => ?_) (fun c2 => leaf3 _ H1 kd xb eD k1 (B1.less (by omega)) hxb)⟩
    obtain ⟨e, rfl⟩ : ∃ e, d = e + 1 := ⟨d - 1, by omega⟩
    have ei : it (e + 1) = 30 + 2 * cs e := rfl
    have i1 : (((e + 1 : Nat) : Int)) - 1 = ((e : Nat) : Int) := by omega
    have mo1 := hD.mo1
    have mo9 := hD.mo9
    refine ⟨_, rfl, _, rfl, _, _, _, _, rfl, rfl, SqT.of D1.info.at_, atI_nat (j := 3) rfl, b, mo, m + (6 + cs e), rfl, B1.less (by omega), by omega, by omega, fun z H2 k2 B2 z0 z1 => ⟨_, _, rfl, rfl, ?_⟩⟩
    have D2 := D1.kept B1 k2
    refine ⟨_, rfl, _, rfl, b, i, l, lw, 1, m + cs e, xs, low, fst, mo, tu, rfl, by decide, B2.less (by omega), D2.info, fun ve ee H3 k3 B3 a1 a2 a3 => ?_⟩
    have D3 := D2.kept B2 k3
    refine ⟨_, rfl, _, rfl, _, rfl, _, rfl, _, _, rfl, rfl, _, rfl, b, i, L, l, lw, e, m, k, xs, low, fst, mo, tu, (by rw [← i1]; rfl), by omega, B3, D3, fun p bd H4 k' g4 B4 hL4 at4 ok4 len4 dp4 tot4 => ⟨(by show 4 ≤ sizeLine; omega), fun p5 n5 => ?_⟩⟩
    have s5 := same_new n5 (.tup [.str "for", ve, .int (1 + z), .ref p])
    have t4 := g4.tups B3 D3.left
    obtain ⟨us, u1, u2⟩ := at4.keep (Same.tups s5)
    rw [eD]
    refine q (.ref p5) (.fors ee (1 + z) bd) _ k' (K2.trans (.of (k1.trans (k2.trans k3))) (g4.trans (.of (.of s5)))) (B4.keep s5) (s5 _ _ hL4) (by unfold SgAt; exact ⟨p5, ve, p, us, rfl, upd_same, (a1.keep t4).keep (Same.tups s5), u1, u2⟩)
      (by unfold Sg.ok; exact ⟨Ex.right_of a3 (by omega), ⟨by omega, by omega⟩, ok4, by omega⟩) (by unfold Sg.dp; omega) (by unfold Sg.tot; omega)
  refine ⟨_, pss_cons (ps_par (i := 4) (j := 5) (by rfl) scStep.nd rfl rfl (by decide) rfl rfl (pa_cons (pe_ix ix_tup (pv 1) pe_int (fun _ _ => rfl)) (pa_cons (pe_ix ix_tup (pv 1) pe_int (fun _ _ => rfl)) pa_nil)) (by rfl))
    (pss_cons (ps_par (i := 6) (j := 7) (by rfl) scStep.nd rfl rfl (by decide) rfl rfl (pa_cons (pe_D DT hr1 rfl (pa_cons (pv 0) (pa_cons pe_int pa_nil))) (pa_cons (pe_ix ix_list (pv 4) (pe_D DT hr1 rfl (pa_cons (pv 0) (pa_cons (pe_callB call_len_seq rfl ml PySem.boot_len (pa_cons (pv 4) pa_nil)) pa_nil))) (fun _ _ => rfl)) pa_nil)) (by rfl))
    (pss_cons (ps_if (PW.pt (pw_and (pt_cmpR op_lt (pv 6) pe_int (nomark _)) (pw_and1 (pt_cmpR op_gt (pv 2) pe_int (nomark _)))))
      (pss_cons (ps_set (i := 8) scStep.nd rfl (Or.inl rfl) (pe_D G hr rfl (pa_cons (pv 0) (pa_cons (pv 1) (pa_cons (pe_op op_sub (pv 2) pe_int) (pa_cons (pv 3) pa_nil))))))
      (pss_one (ps_ret (pe_tup (pa_cons pe_str (pa_cons (pe_D DS hr5 rfl (pa_cons (pv 0) (pa_cons (pv 1) (pa_cons pe_int pa_nil)))) (pa_cons (pv 8) (pa_cons (pe_D G hr rfl (pa_cons (pv 0) (pa_cons (pv 1) (pa_cons (pe_op op_sub (pv 2) pe_int) (pa_cons (pv 3) pa_nil))))) pa_nil)))))))) pss_nil)
    ht2)), ?_⟩
  have hI1 := hD.info.at_
  refine ⟨_, rfl, _, _, _, _, rfl, rfl, SqT.of hI1, atI_nat (j := 0) rfl, _, rfl, _, _, _, _, rfl, rfl, SqT.of hI1, atI_nat (j := 2) rfl, _, _, rfl, ?_⟩
  refine ⟨_, rfl, b, 10, m + (it d - 1), rfl, hB.less (by omega), by decide, by decide, fun kd H1 k1 B1 d10 d11 => ?_⟩
  have D1 := hD.kept hB k1
  have lo := hD.info.lo
  have hi8 := hD.info.hi
  refine ⟨_, rfl, _, rfl, _, rfl, l, _, rfl, .inl (SqL.of D1.info.own), b, (xs.length : Int), m + (it d - 2), (by rw [List.length_map]; rfl), B1.less (by omega), by omega, by omega, fun z H2 k2 B2 z0 z1 => ?_⟩
  obtain ⟨xb, hxb, ex⟩ := str_at z0 z1
  have D2 := D1.kept B1 k2
  have kk2 := k1.trans k2
  refine ⟨l, _, _, _, rfl, rfl, SqL.of D2.info.own, ex, _, _, rfl, ?_⟩
  refine ⟨_, rfl, _, _, rfl, rfl, _, rfl, itD (fun c => ?_) (fun c => itF rfl (leaf2 _ H2 kd xb rfl kk2 B2 hxb))⟩
  refine ⟨_, rfl, _, _, rfl, rfl, _, rfl, itD (fun c2 => ?_) (fun c2 => leaf2 _ H2 kd xb rfl kk2 B2 hxb)⟩
  obtain ⟨e, rfl⟩ : ∃ e, d = e + 1 := ⟨d - 1, by omega⟩
  have ei : it (e + 1) = 30 + 2 * cs e := rfl
  have i1 : (((e + 1 : Nat) : Int)) - 1 = ((e : Nat) : Int) := by omega
  refine ⟨_, rfl, _, rfl, _, rfl, _, _, rfl, rfl, _, rfl, b, i, L, l, lw, e, m + (27 + cs e), k, xs, low, fst, mo, tu, (by rw [← i1]; rfl), by omega, B2.less (by omega), D2, fun p bd H3 k' g3 B3 hL3 at3 ok3 len3 dp3 tot3 => ?_⟩
  have D3 := D2.k2 B2 g3 hL3
  refine ⟨_, rfl, _, rfl, b, i, l, lw, 1, m + cs e, xs, low, fst, mo, tu, rfl, by decide, B3.less (by omega), D3.info, fun vt ts H4 k4 B4 a1 a2 a3 => ?_⟩
  have D4 := D3.kept B3 k4
  refine ⟨_, rfl, _, rfl, _, rfl, _, rfl, _, _, rfl, rfl, _, rfl, b, i, L, l, lw, e, m, k', xs, low, fst, mo, tu, (by rw [← i1]; rfl), by omega, B4, D4, fun p2 bd2 H5 k2' g5 B5 hL5 at5 ok5 len5 dp5 tot5 => ⟨(by show 4 ≤ sizeLine; omega), fun p5 n5 => ?_⟩⟩
  have s5 := same_new n5 (.tup [.str "if", vt, .ref p, .ref p2])
  have t5 := g5.tups B4 D4.left
  obtain ⟨us, u1, u2⟩ := ((at3.keep (B3.tups k4)).keep t5).keep (Same.tups s5)
  obtain ⟨ws, w1, w2⟩ := at5.keep (Same.tups s5)
  refine q (.ref p5) (.ifs ts bd bd2) _ k2' (K2.trans (.of kk2) (g3.trans (K2.trans (.of k4) (g5.trans (.of (.of s5)))))) (B5.keep s5) (s5 _ _ hL5) (by unfold SgAt; exact ⟨p5, vt, p, p2, us, ws, rfl, upd_same, (a1.keep t5).keep (Same.tups s5), u1, u2, w1, w2⟩)
    (by unfold Sg.ok; exact ⟨Ts.right_of a3 (by omega), ⟨ok3, by omega⟩, ok5, by omega⟩) (by unfold Sg.dp; omega) (by unfold Sg.tot; omega)
end
end Any
set_option pp.maxSteps 600
namespace Any
open L2 PySem PySem.Spec PyProof.Rows LamX NdefX
abbrev sSteps : Stmt := top 86
abbrev nmSteps : List Str := ["_law_bag_here", "_law_info", "_law_deep", "_law_left", "_law_found", "_law_turn"]
theorem scSteps : FnScope nmSteps psSt (defScope sSteps) := ⟨rfl, rfl, rfl, by decide +kernel, rfl, by decide +kernel, by decide +kernel⟩
section
variable {P : Program} {w : World} {K : PySem.W.Frag} {mg : Str → Option Value} {base : Heap} {f : Addr} {fd : FuncData}
theorem no_steps {k : Nat} : FnOk P w K mg base CX0 k f fd psSt (spSteps 0) := by
  have no : ∀ vs H Q E, ¬ spSteps 0 vs H Q E := fun vs H Q E h => by
    obtain ⟨b, i, L, l, lw, d, m, k, xs, low, fst, mo, tu, _, hd, _⟩ := h
    omega
  exact ⟨fun vs H Q E h => absurd h (no vs H Q E), fun A outer s H args us vs Q E _ _ _ _ h => absurd h (no vs H Q E)⟩
theorem ok_steps {n : Nat} (mr : mg "range" = none) (mt : mg "tuple" = none) (F : Fun K "_law_steps" "_law_steps" sSteps f fd) (DT : Df P w K mg base 1 "_law_take" psTk spTake) (G : Df P w K mg base (2 * n + 6) "_law_step" psSt (spStep n)) : FnOk P w K mg base CX0 (2 * n + 7) f fd psSt (spSteps (n + 1)) := by
  refine F.ok scSteps (fun vs H Q E h => ?_) (fun cdv A outer s H vs Q E hr h => ?_)
  · obtain ⟨b, i, L, l, lw, d, m, k, xs, low, fst, mo, tu, rfl, _⟩ := h
    rfl
  obtain ⟨b, i, L, l, lw, d, m, k, xs, low, fst, mo, tu, rfl, hd, hB, hD, q⟩ := h
  have hs : sizeLine = 16777216 := sizeLine_eq
  have hr1 := hr.mono (show 1 ≤ 2 * n + 6 by omega)
  have ecs := cs_it d
  have tu1 := hD.tu1
  have tu7 := hD.tu7
  refine ⟨_, pss_cons (ps_set (i := 4) scSteps.nd rfl (Or.inl rfl) (pe_lst pa_nil))
    (pss_cons (ps_for PassesOwn.never rfl (pi_range1 rfl mr (pa_cons (pe_D DT hr1 rfl (pa_cons (pv 0) (pa_cons (pe_ix ix_tup (pv 1) pe_int (fun _ _ => rfl)) pa_nil))) pa_nil)) (pg_name (i := 5) scSteps.nd rfl (Or.inl rfl))
      (pss_one (ps_if (pt_cmpR op_gt (pe_ix ix_list (pv 3) pe_int (fun _ _ => rfl)) pe_int (nomark _))
        (pss_cons (ps_asg (pe_op op_sub (pe_ix ix_list (pv 3) pe_int (fun _ _ => rfl)) pe_int) (pg_sub (pv 3) pe_int set_list))
        (pss_one (ps_expr (pe_bm PySem.F.plainAttrs_list PySem.F.slot_list_append PySem.F.type_list_append mt_append (pv 4) (pa_cons (pe_D G hr rfl (pa_cons (pv 0) (pa_cons (pv 1) (pa_cons (pv 2) (pa_cons (pv 3) pa_nil))))) pa_nil))))) pss_nil)))
    (pss_one (ps_ret (pe_callTy call_tuple_of rfl mt (by decide +kernel) (pa_cons (pv 4) pa_nil))))), ?_⟩
  refine ⟨(by show 0 ≤ sizeLine; omega), fun F nF => ?_⟩
  have s0 := same_new nF (.lst [])
  have D0 := hD.kept hB (.of s0)
  have bF : F ≠ b := hB.ne nF
  have LF : F ≠ L := fun z => by rw [z, hD.left] at nF; cases nF
  refine ⟨_, rfl, _, rfl, _, _, _, _, rfl, rfl, SqT.of D0.info.at_, atI_nat (j := 4) rfl, b, tu, m + 6 * it d, rfl, (hB.keep s0).less (by omega), by omega, by omega, fun cnt H1 k1 B1 c0 c1 => ⟨cnt, rfl, by omega, by omega, ?_⟩⟩
  have D1 := D0.kept (hB.keep s0) k1
  have eF1 := k1 _ _ bF (@upd_same H F (.lst []))
  have kk1 : Kept b H H1 := (Kept.of s0).trans k1
  refine for_range (lo := 0) (fun j σ Hc => ∃ (ss : List Sg) (vs : List V) (y : Option V) (k' : Nat), σ = [some (.ref b), some (.ref i), some (.int d), some (.ref L), some (.ref F), y] ∧ Hc F = some (.lst vs) ∧ Paired (SgAt Hc) vs ss ∧ ss.length ≤ j ∧
    (∀ sg ∈ ss, sg.ok xs (wsOf fst) low ∧ sg.dp ≤ d + 1) ∧ (ss.map Sg.tot).sum + k' ≤ k ∧ Hc L = some (.lst [.int k']) ∧ Bag Hc b (m + (6 - j) * it d) ∧ K2 b L H Hc)
    ⟨[], [], none, k, rfl, eF1, .nil, Nat.le_refl _, (fun sg hg => by cases hg), by show 0 + k ≤ k; omega, D1.left, B1, .of kk1⟩ ?_ ?_
  · rintro j σ Hc hj ⟨ss, vs, y, k', rfl, eF, hp, hlen, hok, htot, eL, Bc, g⟩
    have Dc := hD.k2 hB g eL
    obtain ⟨e, he⟩ : ∃ e, 6 - j = e + 1 := ⟨5 - j, by omega⟩
    have he2 : 6 - (j + 1) = e := by omega
    rw [he, Nat.succ_mul] at Bc
    refine ⟨_, rfl, L, _, _, _, rfl, rfl, SqL.of eL, atI_nat (j := 0) rfl, _, _, rfl, rfl, _, rfl, itD (fun c => ?_) (fun c => ?_)⟩
    · obtain ⟨k0, rfl⟩ : ∃ k0, k' = k0 + 1 := ⟨k' - 1, by omega⟩
      have ek : (((k0 + 1 : Nat) : Int)) - 1 = (k0 : Int) := by omega
      refine ⟨_, rfl, L, _, _, _, rfl, rfl, SqL.of eL, atI_nat (j := 0) rfl, _, _, rfl, rfl, _, rfl, L, _, _, 0, rfl, rfl, eL, rfl, ?_⟩
      have eset : ([V.int ((k0 + 1 : Nat) : Int)].set 0 (.int ((((k0 + 1 : Nat) : Int)) - 1))) = [V.int (k0 : Int)] := by rw [ek]; rfl
      have gp : K2 b L Hc (upd Hc L (.lst ([V.int ((k0 + 1 : Nat) : Int)].set 0 (.int ((((k0 + 1 : Nat) : Int)) - 1))))) := .put
      have eLp : upd Hc L (.lst ([V.int ((k0 + 1 : Nat) : Int)].set 0 (.int ((((k0 + 1 : Nat) : Int)) - 1)))) L = some (.lst [.int (k0 : Int)]) := by rw [upd_same, eset]
      have Bp : Bag (upd Hc L (.lst ([V.int ((k0 + 1 : Nat) : Int)].set 0 (.int ((((k0 + 1 : Nat) : Int)) - 1))))) b (m + (e * it d + it d)) := Bc.put hD.nL.symm
      have eFp : upd Hc L (.lst ([V.int ((k0 + 1 : Nat) : Int)].set 0 (.int ((((k0 + 1 : Nat) : Int)) - 1)))) F = some (.lst vs) := by rw [upd_ne LF]; exact eF
      have tp := gp.tups Bc eL
      generalize upd Hc L (.lst ([V.int ((k0 + 1 : Nat) : Int)].set 0 (.int ((((k0 + 1 : Nat) : Int)) - 1)))) = Hp at *
      have Dp := Dc.k2 Bc gp eLp
      refine ⟨_, rfl, .inl ⟨rfl, _, SqL.of eFp⟩, ?_⟩
      refine ⟨_, rfl, _, rfl, _, rfl, _, rfl, b, i, L, l, lw, d, m + e * it d, k0, xs, low, fst, mo, tu, rfl, by omega, Bp.less (by omega), Dp, fun v sg H9 k9 g9 B9 eL9 hv o1 o2 o3 => ?_⟩
      have eF9 := g9 _ _ bF LF eFp
      have t9 := g9.tups Bp eLp
      have tF : Tups H9 (upd H9 F (.lst (vs ++ [v]))) := fun a' ts ha => by
        rw [upd_ne (ne_of ha eF9 (by intro z; cases z))]
        exact ha
      have hvs := paired_len hp
      refine ⟨F, vs, _, rfl, rfl, eF9, by omega, ss ++ [sg], vs ++ [v], _, k9, rfl, upd_same, ?_, by rw [List.length_append]; show ss.length + 1 ≤ j + 1; omega, fun g' hg => ?_, ?_, ?_, ?_, ?_⟩
      · exact p_snoc (paired_imp (fun _ _ z => SgAt.keep tF _ (SgAt.keep t9 _ (SgAt.keep tp _ z))) hp) (SgAt.keep tF _ hv)
      · rcases List.mem_append.mp hg with hg | hg
        · exact hok g' hg
        · rw [List.mem_singleton.mp hg]
          exact ⟨o1, o2⟩
      · rw [List.map_append, List.sum_append]
        show _ + (sg.tot + 0) + k9 ≤ k
        omega
      · rw [upd_ne LF.symm]
        exact eL9
      · rw [he2]
        exact B9.put bF.symm
      · intro a' o' n1 n2 ha
        rw [upd_ne (fun z => by rw [z, nF] at ha; cases ha)]
        exact (gp.trans g9) _ _ n1 n2 (g _ _ n1 n2 ha)
    · refine ⟨ss, vs, _, k', rfl, eF, hp, by omega, hok, htot, eL, ?_, g⟩
      rw [he2]
      exact Bc.less (by omega)
  · rintro σ Hc ⟨ss, vs, y, k', rfl, eF, hp, hlen, hok, htot, eL, Bc, g⟩
    refine ⟨_, rfl, F, _, rfl, .inl ⟨SqL.of eF, fun p np => ?_⟩⟩
    have sp := same_new np (.tup vs)
    refine q p (Bd.of ss) _ k' (g.trans (.of (.of sp))) ((Bc.keep sp).less (by omega)) (sp _ _ eL) ⟨vs, upd_same, of_at (paired_imp (fun _ _ z => SgAt.keep (Same.tups sp) _ z) hp)⟩ (of_ok fun sg hg => (hok sg hg).1) (by rw [of_len]; omega) (of_dp fun sg hg => (hok sg hg).2) ?_
    rw [of_tot]
    exact htot
theorem all_steps_ (mr : mg "range" = none) (mt : mg "tuple" = none) (ml : mg "len" = none) (NS : Nd K mg "_law_steps" sSteps psSt) (N1 : Nd K mg "_law_step" sStep psSt) (DT : Df P w K mg base 1 "_law_take" psTk spTake) (DX : Df P w K mg base 4 "_law_expression" psE (spExpr 3)) (DS : Df P w K mg base 5 "_law_test" psE (spTest 2)) :
    ∀ n : Nat, Df P w K mg base (2 * n + 5) "_law_steps" psSt (spSteps n)
  | 0 => by
    obtain ⟨f, fd, h1, h2, h3⟩ := NS
    exact ⟨f, fd, h1, h2.kp, no_steps, h3⟩
  | n + 1 => by
    have G := all_steps_ mr mt ml NS N1 DT DX DS n
    have S : Df P w K mg base (2 * n + 6) "_law_step" psSt (spStep n) := by
      obtain ⟨f, fd, h1, h2, h3⟩ := N1
      exact ⟨f, fd, h1, h2.kp, ok_step ml h2 DT DX DS G, h3⟩
    obtain ⟨f, fd, h1, h2, h3⟩ := NS
    exact ⟨f, fd, h1, h2.kp, ok_steps mr mt h2 DT S, h3⟩
end
end Any
set_option pp.maxSteps 600
namespace Any
open L2 PySem PySem.Spec PyProof.Rows LamX NdefX
/-! ### drawn rooms: how they are made, what is told of them -/
section
variable (P : Program) (w : World) (K : PySem.W.Frag) (mg : Str → Option Value) (base : Heap)
/-- a class called with keywords -/
def MkK (k : Nat) (x : Str) (C : Addr) (n : Nat) (ps ks : List Str) (gV : List V → List V → List V) (sp : Sp) : Prop := ∃ f fd g, mg x = some (.ref C) ∧ Mk K C f ∧ FnOk P w K mg base CX0 k f fd ps sp ∧ KBn K fd ps (n + 1) ks g gV
end
theorem pe_CK {X : Cx} {k n : Nat} {x : Str} {C : Addr} {ps ks : List Str} {sp : Sp} {p pos : Pos} {e : Expr} {es : List Expr} {t tk : TA} {kws : List Keyword} {gV : List V → List V → List V} (D : MkK X.prog X.w X.K X.mg X.base k x C n ps ks gV sp) (hr : Room (k + 1) X.A) (hg : Gl X x) (ha : PA X (e :: es) t) (hkw : PK X kws tk)
    (hall : (backToKw pos (keywordEach kws X.env)).all (·.1.isSome) = true := by rfl) (hks : (backToKw pos (keywordEach kws X.env)).filterMap (·.1) = ks := by rfl) (hdb : (x == ("__debug__" : Str)) = false := by decide)
    (he : starEach (e :: es) X.env = (false, eval e X.env) :: starEach es X.env := by rfl) (hpl : ((backTo pos (starEach (e :: es) X.env)).any (·.1) || (backToKw pos (keywordEach kws X.env)).any (·.1.isNone)) = false := by rfl) :
    PE X (.Call (.Name x p) (e :: es) kws pos) (tMakeK C n ks.length sp gV E0 t tk) := by
  obtain ⟨f, fd, g, hm, M, F, hb⟩ := D
  exact pe_makeK M F hr hg hm hb pass0 ha hkw hall hks hdb he hpl
abbrev ks7 : List Str := ["above", "boxes", "sayings", "ask", "told", "promise", "body"]
abbrev ks3 : List Str := ["boxes", "sayings", "body"]
/-- how rooms are made -/
structure RoomM (P : Program) (w : World) (K : PySem.W.Frag) (mg : Str → Option Value) (base : Heap) (C : Addr) : Prop where
  k7 : MkK P w K mg base 1 "Room" C 1 psRI ks7 (fun vs zs => vs ++ zs) (spRInit C)
  k3 : MkK P w K mg base 1 "Room" C 1 psRI ks3 (fun vs zs => vs ++ [.str ""] ++ zs.take 2 ++ [.non, .non, .non] ++ zs.drop 2) (spRInit C)
/-- boxes drawn so -/
structure Boxes (names : List Str) (cr : List (Str × Int × Int)) : Prop where
  nm : cr.map (·.1) = names
  nd : names.Nodup
  all : ∀ x ∈ names, Nm x
  asc : sortedS names = true
  len : names.length ≤ 4
  some : 1 ≤ names.length
  crate : ∀ c ∈ cr, (1 ≤ c.2.1 ∧ c.2.1 ≤ 40) ∧ (0 ≤ c.2.2 ∧ c.2.2 ≤ c.2.1 - 1)
/-- the number of a box among boxes of unlike names -/
theorem look_nd : ∀ {bs : List (Str × Int × Int)}, (bs.map (·.1)).Nodup → ∀ c ∈ bs, look (bs.map fun b => (b.1, b.2.2)) c.1 = some c.2.2
  | [], _, c, h => by cases h
  | b :: r, nd, c, h => by
    rw [List.map_cons, List.nodup_cons] at nd
    unfold look
    rw [List.map_cons, List.find?_cons]
    rcases List.mem_cons.mp h with e | h
    · rw [e, decide_eq_true (show b.1 = b.1 from rfl)]
      rfl
    · have ne : ¬ b.1 = c.1 := fun z => nd.1 (by rw [z]; exact List.mem_map.mpr ⟨c, h, rfl⟩)
      rw [decide_eq_false (show ¬ (b.1, b.2.2).1 = c.1 from ne)]
      exact look_nd nd.2 c h
/-- the two sayings that may be drawn, of the first box -/
def says2 (c : Str × Int × Int) : List Ts := [.is (.box c.1) (.num c.2.2), .bel (.num 0) (.num 1)]
structure Drawn (nick up : Str) (low : List Str) (r : Rm) : Prop where
  name : r.name = nick
  above : r.above = up
  boxes : r.boxesOk
  asc : sortedS r.bn = true
  says : r.saysOk
  first : up = "" → r.firstOk ∧ r.body.right r.bn [] low
  other : up ≠ "" → r.otherOk ∧ r.body.right r.bn ["asked"] low
theorem Boxes.parts {names : List Str} {cr : List (Str × Int × Int)} (h : Boxes names cr) {c : Str × Int × Int} (hc : c ∈ cr) {j : Nat} {n a : Str} {k : Option Int} {o : Option (Int × Ex)} {p : Option Ts} {y : Bd} :
    (Rm.mk n a cr ((says2 c).take j) k o p y).boxesOk ∧ sortedS (Rm.mk n a cr ((says2 c).take j) k o p y).bn = true ∧ (Rm.mk n a cr ((says2 c).take j) k o p y).saysOk ∧ (Rm.mk n a cr ((says2 c).take j) k o p y).bn = names := by
  have hl : cr.length = names.length := by rw [← h.nm, List.length_map]
  have h1 := h.len
  have e : (Rm.mk n a cr ((says2 c).take j) k o p y).bn = names := h.nm
  have hin : ∀ b ∈ cr, b.1 ∈ names := fun b hb => by
    rw [← h.nm]
    exact List.mem_map.mpr ⟨b, hb, rfl⟩
  have hcr := h.crate c hc
  refine ⟨⟨by show cr.length ≤ 4; omega, fun b hb => ⟨h.all _ (hin b hb), h.crate b hb⟩, by rw [e]; exact h.nd⟩, by rw [e]; exact h.asc, ⟨?_, fun t ht => ?_⟩, e⟩
  · show ((says2 c).take j).length ≤ 4
    rw [List.length_take]
    show min j 2 ≤ 4
    omega
  · have ht : t ∈ says2 c := List.mem_of_mem_take ht
    rw [e]
    rcases List.mem_cons.mp ht with rfl | ht
    · refine ⟨⟨⟨hin c hc, by omega, by omega⟩, (by show 2 ≤ 5; decide), (by show 3 ≤ 16; decide)⟩, ?_⟩
      have lk := look_nd (bs := cr) (by rw [h.nm]; exact h.nd) c hc
      show decide ((look (cr.map fun b => (b.1, b.2.2)) c.1).getD 0 = c.2.2) = true
      rw [lk]
      exact decide_eq_true rfl
    · rw [List.mem_singleton.mp ht]
      exact ⟨⟨⟨⟨by decide, by decide⟩, by decide, by decide⟩, by decide, by decide⟩, rfl⟩
abbrev sRoom : Stmt := top 87
abbrev psRm : List Str := ["_law_bag_here", "_law_nick", "_law_upper", "_law_lower", "_law_sizes"]
abbrev nmRm : List Str := ["_law_bag_here", "_law_nick", "_law_upper", "_law_lower", "_law_sizes", "_law_nicks_here", "_law_own", "_law_one", "_law_most", "_law_info", "_law_laws", "_law_some", "_law_steps_here", "_law_top", "_law_says", "_law_vow", "_law_asks"]
theorem scRm : FnScope nmRm psRm (defScope sRoom) := ⟨rfl, rfl, rfl, by decide +kernel, rfl, by decide +kernel, by decide +kernel⟩
/-- the boxes, in a list -/
def CrL (H : Hp) (O : Addr) (cr : List (Str × Int × Int)) : Prop := ∃ as : List Addr, H O = some (.lst (as.map V.ref)) ∧ Paired (fun (a : Addr) (x : Str × Int × Int) => H a = some (.tup [.str x.1, .int x.2.1, .int x.2.2])) as cr
theorem CrL.kept {H H' : Hp} {b O : Addr} {cr : List (Str × Int × Int)} {n : Nat} (h : CrL H O cr) (B : Bag H b n) (k : Kept b H H') (ne : O ≠ b) : CrL H' O cr := by
  obtain ⟨as, h1, h2⟩ := h
  exact ⟨as, k _ _ ne h1, paired_imp (fun _ _ y => B.tups k _ _ y) h2⟩
section
variable {P : Program} {w : World} {K : PySem.W.Frag} {mg : Str → Option Value} {base : Heap} {f : Addr} {cdv : Value} {A : Around} {outer : List Env} {s : Shared} {H : Hp} {E : XK}
abbrev XRm (P : Program) (w : World) (K : PySem.W.Frag) (mg : Str → Option Value) (base : Heap) (f : Addr) (cdv : Value) (A : Around) (outer : List Env) (s : Shared) (H : Hp) (E : XK) : Cx := (cxOf CX0 P w K mg base nmRm "_law_room" (defScope sRoom) f cdv A outer s H E).nox
set_option maxHeartbeats 4000000 in
theorem room_end {C : Addr} (O : Own mg) (M : RoomM P w K mg base C) (DT : Df P w K mg base 1 "_law_take" psTk spTake) (DX : Df P w K mg base 3 "_law_expression" psE (spExpr 2)) (hr : Room 12 (XRm P w K mg base f cdv A outer s H E).A) : ∃ t7, PSs (XRm P w K mg base f cdv A outer s H E) ((defBody sRoom).drop 7) t7 ∧
    ∀ (D : Ends) (H9 : Hp) (b lw S N Ow I LW SM BD : Addr) (nick up : Str) (names low : List Str) (mo tu : Int) (cr : List (Str × Int × Int)) (c : Str × Int × Int) (j : Nat) (bd : Bd) (z7 z8 : Option V) (m : Nat) (Q : VK),
      D.rt = Q → Bag H9 b (m + 9) → InfoAt H9 b I names (decide (V.str up = V.str "")) low mo tu N lw → CrL H9 Ow cr → Ow ≠ b → SaysAt H9 SM ((says2 c).take j) → BdAt H9 BD bd → Boxes names cr → c ∈ cr → bd.right names (wsOf (decide (V.str up = V.str ""))) low →
      (∀ a r H', Kept b H9 H' → Bag H' b m → RmAt C H' a r → Drawn nick up low r → Q (.ref a) H') →
      t7 D [some (.ref b), some (.str nick), some (.str up), some (.ref lw), some (.ref S), some (.ref N), some (.ref Ow), z7, z8, some (.ref I), some (.ref LW), some (.ref SM), some (.ref BD), none, none, none, none] H9 := by
  have hr1 := hr.mono (show 1 ≤ 12 by omega)
  have hr2 := hr.mono (show 1 + 1 ≤ 12 by omega)
  have hr3 := hr.mono (show 3 ≤ 12 by omega)
  have hs : sizeLine = 16777216 := sizeLine_eq
  have c1 : ce 1 = 6 := rfl
  refine ⟨_, pss_cons (ps_if (pt_cmpR op_eq (pv 2) pe_str (nomark _)) (pss_one (ps_ret (pe_CK M.k3 hr2 rfl (pa_cons (pv 1) pa_nil) (pk_cons (pe_callTy call_tuple_of rfl O.tuple (by decide +kernel) (pa_cons (pv 6) pa_nil)) (pk_cons (pv 11) (pk_cons (pv 12) pk_nil)))))) pss_nil)
    (pss_cons (ps_set (i := 13) scRm.nd rfl (Or.inl rfl) (pe_op op_add pe_int (pe_D DT hr1 rfl (pa_cons (pv 0) (pa_cons pe_int pa_nil)))))
    (pss_cons (ps_set (i := 14) scRm.nd rfl (Or.inl rfl) (pe_tup (pa_cons (pv 13) (pa_cons (pe_D DX hr3 rfl (pa_cons (pv 0) (pa_cons (pv 9) (pa_cons pe_int pa_nil)))) pa_nil))))
    (pss_cons (ps_set (i := 15) scRm.nd rfl (Or.inl rfl) (pe_ix ix_list (pe_lst (pa_cons pe_non (pa_cons (pe_tup (pa_cons pe_str (pa_cons (pe_tup (pa_cons pe_str pa_nil)) (pa_cons (pe_tup (pa_cons pe_str (pa_cons (pv 13) pa_nil))) pa_nil)))) pa_nil))) (pe_D DT hr1 rfl (pa_cons (pv 0) (pa_cons pe_int pa_nil))) (fun _ _ => rfl)))
    (pss_cons (ps_set (i := 16) scRm.nd rfl (Or.inl rfl) (pe_op op_add pe_int (pe_D DT hr1 rfl (pa_cons (pv 0) (pa_cons pe_int pa_nil)))))
    (pss_one (ps_ret (pe_CK M.k7 hr2 rfl (pa_cons (pv 1) pa_nil) (pk_cons (pv 2) (pk_cons (pe_callTy call_tuple_of rfl O.tuple (by decide +kernel) (pa_cons (pv 6) pa_nil)) (pk_cons (pv 11) (pk_cons (pv 16) (pk_cons (pv 14) (pk_cons (pv 15) (pk_cons (pv 12) pk_nil)))))))))))))), ?_⟩
  intro D H9 b lw S N Ow I LW SM BD nick up names low mo tu cr c j bd z7 z8 m Q eD hB hI hC hOb hS hd hk hc hb q
  have made : ∀ {H0 : Hp} {x dx : Addr} {n a b' s' k t p y : V}, H0 x = none → H0 dx = none → Same H0 (upd (upd (upd H0 dx (.own x)) x (.ins C dx [])) x (.ins C dx (roomF n a b' s' k t p y))) := fun {H0 x dx n a b' s' k t p y} hx hdx c o hc => by
    rw [upd_ne (ne_of_none hc hx), upd_ne (ne_of_none hc hx), upd_ne (ne_of_none hc hdx)]
    exact hc
  refine ⟨_, rfl, rfl, _, rfl, itD (fun e0 => ?_) (fun e0 => ?_)⟩
  · have eu : up = "" := V.str.inj e0
    rw [decide_eq_true e0] at hb hI
    obtain ⟨as, hO, pO⟩ := hC
    refine ⟨_, rfl, _, rfl, Ow, _, rfl, .inl ⟨SqL.of hO, fun p1 n1 => ?_⟩⟩
    have s1 := same_new n1 (.tup (as.map V.ref))
    refine ⟨_, rfl, _, rfl, rfl, rfl, fun x dx hx hdx ne => ?_⟩
    refine ⟨x, dx, .str nick, .str "", .ref p1, .ref SM, .non, .non, .non, .ref BD, rfl, upd_same, rfl, ?_⟩
    have s2 := s1.trans (made (n := .str nick) (a := .str "") (b' := .ref p1) (s' := .ref SM) (k := .non) (t := .non) (p := .non) (y := .ref BD) hx hdx)
    have t := Same.tups s2
    obtain ⟨b1, b2, b3, b4⟩ := hk.parts hc (j := j) (n := nick) (a := up) (k := none) (o := none) (p := none) (y := bd)
    rw [eD]
    refine q x (Rm.mk nick up cr ((says2 c).take j) none none none bd) _ (.of s2) ((hB.keep s2).less (by omega)) ⟨dx, .str nick, .str "", .ref p1, .ref SM, .non, .non, .non, .ref BD, upd_same, ?_⟩ ⟨rfl, rfl, b1, b2, b3, fun _ => ⟨⟨rfl, rfl, rfl⟩, by rw [b4]; exact hb⟩, fun h => absurd eu h⟩
    exact ⟨rfl, by rw [eu], ⟨p1, rfl, as, (made hx hdx) _ _ upd_same, paired_imp (fun _ _ y => t _ _ y) pO⟩, ⟨SM, rfl, hS.keep t⟩, rfl, rfl, rfl, ⟨BD, rfl, hd.keep t⟩⟩
  · have eu : up ≠ "" := fun z => e0 (by rw [z])
    rw [decide_eq_false e0] at hb hI
    refine ⟨_, rfl, b, 40, m + 8, rfl, hB, by decide, by decide, fun d1 H1 k1 B1 d10 d11 => ⟨_, _, rfl, rfl, ?_⟩⟩
    have I1 := hI.kept hB k1
    refine ⟨_, rfl, _, rfl, _, rfl, b, I, N, lw, 1, m + 2, names, low, false, mo, tu, rfl, by decide, B1, I1, fun ve ee H2 k2 B2 a1 a2 a3 => ⟨(by show 2 ≤ sizeLine; omega), fun p2 n2 => ?_⟩⟩
    have s2 := same_new n2 (.tup [.int (1 + d1), ve])
    refine ⟨(by show 1 ≤ sizeLine; omega), fun p3 n3 => ⟨_, rfl, (by show 2 ≤ sizeLine; omega), fun p4 n4 => ⟨(by show 3 ≤ sizeLine; omega), fun p5 n5 => ⟨(by show 2 ≤ sizeLine; omega), fun p6 n6 => ?_⟩⟩⟩⟩
    have s3 := same_new n3 (.tup [.str "told"])
    have s4 := same_new n4 (.tup [.str "number", .int (1 + d1)])
    have s5 := same_new n5 (.tup [.str "below", .ref p3, .ref p4])
    have s6 := same_new n6 (.lst [.non, .ref p5])
    have tv : TsAt _ (.ref p5) (.bel .told (.num (1 + d1))) := .bel (s6 _ _ (@upd_same _ p5 (.tup [.str "below", .ref p3, .ref p4]))) (.told ((s4.trans (s5.trans s6)) _ _ upd_same)) (.num ((s5.trans s6) _ _ upd_same))
    have s26 := s2.trans (s3.trans (s4.trans (s5.trans s6)))
    have h2' := (s3.trans (s4.trans (s5.trans s6))) p2 _ upd_same
    have h6' := @upd_same (upd (upd (upd (upd H2 p2 (.tup [.int (1 + d1), ve])) p3 (.tup [.str "told"])) p4 (.tup [.str "number", .int (1 + d1)])) p5 (.tup [.str "below", .ref p3, .ref p4])) p6 (.lst [.non, .ref p5])
    generalize upd (upd (upd (upd (upd H2 p2 (.tup [.int (1 + d1), ve])) p3 (.tup [.str "told"])) p4 (.tup [.str "number", .int (1 + d1)])) p5 (.tup [.str "below", .ref p3, .ref p4])) p6 (.lst [.non, .ref p5]) = H6 at *
    have B6 := B2.keep s26
    refine ⟨_, rfl, b, 2, m + 1, rfl, B6, by decide, by decide, fun d2 H7 k7 B7 d20 d21 => ?_⟩
    have vow : ∃ (v : V) (o : Option Ts), atI [V.non, V.ref p5] d2 = some v ∧ VowAt H7 v o ∧ ∀ t, o = some t → t.right [] ["asked", "told"] := by
      rcases two_at (x := V.non) (y := V.ref p5) d20 d21 with ei | ei
      · exact ⟨_, none, ei, rfl, fun t h => by cases h⟩
      · refine ⟨_, some (.bel .told (.num (1 + d1))), ei, tv.keep (B6.tups k7), fun t h => ?_⟩
        cases h
        exact ⟨⟨List.mem_cons_of_mem _ List.mem_cons_self, by omega, by omega⟩, (by show 2 ≤ 5; decide), (by show 3 ≤ 16; decide)⟩
    obtain ⟨vv, vo, ei, hvo, hvr⟩ := vow
    refine ⟨p6, _, _, _, rfl, rfl, SqL.of (k7 _ _ (fun z => by obtain ⟨ys, hy⟩ := B2.lst; rw [z] at n6; exact absurd ((s2.trans (s3.trans (s4.trans s5))) _ _ hy) (by rw [n6]; intro h; cases h)) h6'), ei, ?_⟩
    refine ⟨_, rfl, b, 40, m, rfl, B7, by decide, by decide, fun d3 H8 k8 B8 d30 d31 => ⟨_, _, rfl, rfl, ?_⟩⟩
    have kk : Kept b H9 H8 := k1.trans (k2.trans ((Kept.of s26).trans (k7.trans k8)))
    have k28 : Kept b H2 H8 := (Kept.of s26).trans (k7.trans k8)
    have k68 : Kept b H6 H8 := k7.trans k8
    obtain ⟨as, hO, pO⟩ := hC.kept hB kk hOb
    refine ⟨_, rfl, _, rfl, _, rfl, Ow, _, rfl, .inl ⟨SqL.of hO, fun p1 n1 => ?_⟩⟩
    have s1 := same_new n1 (.tup (as.map V.ref))
    refine ⟨_, rfl, _, rfl, _, rfl, _, rfl, _, rfl, rfl, rfl, fun x dx hx hdx ne => ?_⟩
    refine ⟨x, dx, .str nick, .str up, .ref p1, .ref SM, .int (1 + d3), .ref p2, vv, .ref BD, rfl, upd_same, rfl, ?_⟩
    have s9 := s1.trans (made (n := .str nick) (a := .str up) (b' := .ref p1) (s' := .ref SM) (k := .int (1 + d3)) (t := .ref p2) (p := vv) (y := .ref BD) hx hdx)
    have t9 := Same.tups s9
    have tk : Tups H9 _ := fun a ts h => t9 _ _ (hB.tups kk _ _ h)
    obtain ⟨b1, b2, b3, b4⟩ := hk.parts hc (j := j) (n := nick) (a := up) (k := some (1 + d3)) (o := some (1 + d1, ee)) (p := vo) (y := bd)
    rw [eD]
    refine q x (Rm.mk nick up cr ((says2 c).take j) (some (1 + d3)) (some (1 + d1, ee)) vo bd) _ (kk.trans (.of s9)) (B8.keep s9) ⟨dx, .str nick, .str up, .ref p1, .ref SM, .int (1 + d3), .ref p2, vv, .ref BD, upd_same, ?_⟩
      ⟨rfl, rfl, b1, b2, b3, fun h => absurd h eu, fun _ => ⟨⟨⟨_, rfl, by omega, by omega⟩, ⟨_, _, rfl, ⟨by omega, by omega⟩, by rw [b4]; exact Ex.right_of a3 (by omega)⟩, hvr⟩, by rw [b4]; exact hb⟩⟩
    exact ⟨rfl, rfl, ⟨p1, rfl, as, (made hx hdx) _ _ upd_same, paired_imp (fun _ _ y => t9 _ _ y) pO⟩, ⟨SM, rfl, hS.keep tk⟩, rfl, ⟨p2, ve, rfl, t9 _ _ (B6.tups k68 _ _ h2'), (a1.keep (B2.tups k28)).keep t9⟩, (by
      have := hvo.keep (H' := H8) (B7.tups k8)
      exact this.keep t9), ⟨BD, rfl, hd.keep tk⟩⟩
end
end Any
set_option pp.maxSteps 600
namespace Any
open L2 PySem PySem.Spec PyProof.Rows LamX NdefX
def spRoom (C : Addr) : Sp := fun vs H Q _ => ∃ (b lw S : Addr) (nick up : Str) (m d k : Nat) (low : List Str) (mo tu : Int), vs = [.ref b, .str nick, .str up, .ref lw, .ref S] ∧ Bag H b (m + (26 + cs d)) ∧ H lw = some (.lst (low.map V.str)) ∧ lw ≠ b ∧ low.length ≤ 8 ∧ (∀ r ∈ low, PyData.strOk r = true) ∧
  H S = some (.tup [.int mo, .int tu, .int (k : Int), .int (d : Int)]) ∧ d ≤ 3 ∧ (1 ≤ mo ∧ mo ≤ 9) ∧ (1 ≤ tu ∧ tu ≤ 7) ∧ k ≤ 30 ∧ ∀ (a : Addr) (r : Rm) (H' : Hp), Kept b H H' → Bag H' b m → RmAt C H' a r → Drawn nick up low r → Q (.ref a) H'
section
variable {P : Program} {w : World} {K : PySem.W.Frag} {mg : Str → Option Value} {base : Heap} {f C : Addr} {fd : FuncData}
set_option maxHeartbeats 4000000 in
theorem ok_room (O : Own mg) (ms : mg "sorted" = none) (F : Fun K "_law_room" "_law_room" sRoom f fd) (M : RoomM P w K mg base C) (DT : Df P w K mg base 1 "_law_take" psTk spTake) (DN : Df P w K mg base 2 "_law_nicks" psTk spNicks) (DX : Df P w K mg base 3 "_law_expression" psE (spExpr 2)) (DS : Df P w K mg base 13 "_law_steps" psSt (spSteps 4)) :
    FnOk P w K mg base CX0 14 f fd psRm (spRoom C) := by
  refine F.ok scRm (fun vs H Q E h => ?_) (fun cdv A outer s H vs Q E hr h => ?_)
  · obtain ⟨b, lw, S, nick, up, m, d, k, low, mo, tu, rfl, _⟩ := h
    rfl
  obtain ⟨b, lw, S, nick, up, m, d, k, low, mo, tu, rfl, hB, hlw, nlw, low8, lowk, hS, hd, ⟨mo1, mo9⟩, ⟨tu1, tu7⟩, hk, q⟩ := h
  have hs : sizeLine = 16777216 := sizeLine_eq
  have hr1 := hr.mono (show 1 ≤ 13 by decide)
  have hr2 := hr.mono (show 2 ≤ 13 by decide)
  obtain ⟨t7, ht7, fin⟩ := room_end (K := K) (base := base) (f := f) (cdv := cdv) (A := A) (outer := outer) (s := s) (H := H) (E := E) O M DT DX (hr.mono (show 12 ≤ 13 by decide))
  refine ⟨_, pss_cons (ps_set (i := 5) scRm.nd rfl (Or.inl rfl) (pe_callB cr_sortedS rfl ms (by decide +kernel) (pa_cons (pe_D DN hr2 rfl (pa_cons (pv 0) (pa_cons (pe_op op_add pe_int (pe_D DT hr1 rfl (pa_cons (pv 0) (pa_cons pe_int pa_nil)))) pa_nil))) pa_nil)))
    (pss_cons (ps_set (i := 6) scRm.nd rfl (Or.inl rfl) (pe_lst pa_nil))
    (pss_cons (ps_for PassesOwn.never rfl (pi_list (pv 5)) (pg_name (i := 7) scRm.nd rfl (Or.inl rfl))
      (pss_cons (ps_set (i := 8) scRm.nd rfl (Or.inl rfl) (pe_op op_add pe_int (pe_D DT hr1 rfl (pa_cons (pv 0) (pa_cons pe_int pa_nil)))))
      (pss_one (ps_expr (pe_bm PySem.F.plainAttrs_list PySem.F.slot_list_append PySem.F.type_list_append mt_append (pv 6) (pa_cons (pe_tup (pa_cons (pv 7) (pa_cons (pv 8) (pa_cons (pe_D DT hr1 rfl (pa_cons (pv 0) (pa_cons (pv 8) pa_nil))) pa_nil)))) pa_nil))))))
    (pss_cons (ps_set (i := 9) scRm.nd rfl (Or.inl rfl) (pe_tup (pa_cons (pv 5) (pa_cons (pe_cmpR op_eq (pv 2) pe_str (nomark _)) (pa_cons (pv 3) (pa_cons (pe_ix ix_tup (pv 4) pe_int (fun _ _ => rfl)) (pa_cons (pe_ix ix_tup (pv 4) pe_int (fun _ _ => rfl)) pa_nil)))))))
    (pss_cons (ps_set (i := 10) scRm.nd rfl (Or.inl rfl) (pe_lst (pa_cons (pe_tup (pa_cons pe_str (pa_cons (pe_tup (pa_cons pe_str (pa_cons (pe_ix ix_tup (pe_ix ix_list (pv 6) pe_int (fun _ _ => rfl)) pe_int (fun _ _ => rfl)) pa_nil)))
        (pa_cons (pe_tup (pa_cons pe_str (pa_cons (pe_ix ix_tup (pe_ix ix_list (pv 6) pe_int (fun _ _ => rfl)) pe_int (fun _ _ => rfl)) pa_nil))) pa_nil))))
      (pa_cons (pe_tup (pa_cons pe_str (pa_cons (pe_tup (pa_cons pe_str (pa_cons pe_int pa_nil))) (pa_cons (pe_tup (pa_cons pe_str (pa_cons pe_int pa_nil))) pa_nil)))) pa_nil))))
    (pss_cons (ps_set (i := 11) scRm.nd rfl (Or.inl rfl) (pe_callTy call_tuple_of rfl O.tuple (by decide +kernel) (pa_cons (pe_slice sl_list (pv 10) po_none (po_some (pe_D DT hr1 rfl (pa_cons (pv 0) (pa_cons pe_int pa_nil))))) pa_nil)))
    (pss_cons (ps_set (i := 12) scRm.nd rfl (Or.inl rfl) (pe_D DS hr rfl (pa_cons (pv 0) (pa_cons (pv 9) (pa_cons (pe_ix ix_tup (pv 4) pe_int (fun _ _ => rfl)) (pa_cons (pe_lst (pa_cons (pe_ix ix_tup (pv 4) pe_int (fun _ _ => rfl)) pa_nil)) pa_nil))))))
    ht7)))))), ?_⟩
  refine ⟨_, rfl, _, rfl, b, 3, m + (25 + cs d), rfl, hB.less (by omega), by decide, by decide, fun d1 H1 k1 B1 d10 d11 => ⟨_, _, rfl, rfl, ?_⟩⟩
  obtain ⟨mm, hmm⟩ : ∃ mm : Nat, 1 + d1 = (mm : Int) := ⟨(1 + d1).toNat, by omega⟩
  refine ⟨b, mm, m + (16 + cs d), (by rw [← hmm]; rfl), B1.less (by omega), by omega, by omega, fun p0 xs0 H2 np0 k2 B2 hp0 nk => ?_⟩
  have hhi := nk.hi
  refine ⟨p0, xs0, rfl, SqL.of hp0, by omega, fun names N pm srt hN => ?_⟩
  have sN := same_new hN (.lst (names.map V.str))
  have hN2 := @upd_same H2 N (.lst (names.map V.str))
  have bN : N ≠ b := B2.ne hN
  have B3 := B2.keep sN
  have k3 : Kept b H _ := k1.trans (k2.trans (.of sN))
  generalize upd H2 N (.lst (names.map V.str)) = H3 at *
  have ln : names.length = xs0.length := pm.length_eq
  have nlo := nk.lo
  refine ⟨(by show 0 ≤ sizeLine; omega), fun Ow nO => ?_⟩
  have sO := same_new nO (.lst [])
  have bO : Ow ≠ b := B3.ne nO
  have NO : N ≠ Ow := ne_of_none hN2 nO
  have nO0 : H Ow = none := kept_none hB k3 nO B3.lst
  refine ⟨_, rfl, N, rfl, ⟨_, SqL.of (sO _ _ hN2)⟩, ?_⟩
  refine for_list (K := K) (a := N) (xs := names.map V.str) (fun i σ Hc => ∃ (cr : List (Str × Int × Int)) (z7 z8 : Option V), σ = [some (.ref b), some (.str nick), some (.str up), some (.ref lw), some (.ref S), some (.ref N), some (.ref Ow), z7, z8, none, none, none, none, none, none, none, none] ∧
    cr.map (·.1) = names.take i ∧ CrL Hc Ow cr ∧ (∀ c ∈ cr, (1 ≤ c.2.1 ∧ c.2.1 ≤ 40) ∧ (0 ≤ c.2.2 ∧ c.2.2 ≤ c.2.1 - 1)) ∧ Bag Hc b (m + (10 + cs d) + 2 * (3 - i)) ∧ Kept b H Hc ∧ Hc N = some (.lst (names.map V.str)))
    ⟨[], none, none, rfl, rfl, ⟨[], upd_same, .nil⟩, (fun c hc => by cases hc), (B3.keep sO).less (by omega), k3.trans (.of sO), sO _ _ hN2⟩ ?_ ?_ ?_
  · rintro i σ Hc _ ⟨cr, z7, z8, rfl, _, _, _, _, _, h7⟩
    exact SqL.of h7
  · rintro i z σ Hc hz ⟨cr, z7, z8, rfl, c1, c2, c3, Bc, kc, hNc⟩
    rw [List.getElem?_map] at hz
    obtain ⟨x, hx, rfl⟩ := Option.map_eq_some_iff.mp hz
    have il := (List.getElem?_eq_some_iff.mp hx).1
    obtain ⟨e, he⟩ : ∃ e, 3 - i = e + 1 := ⟨2 - i, by omega⟩
    have he2 : 3 - (i + 1) = e := by omega
    rw [he] at Bc
    refine ⟨_, rfl, b, 40, m + (10 + cs d) + 2 * e + 1, rfl, Bc.less (by omega), by decide, by decide, fun d2 H4 k4 B4 d20 d21 => ⟨_, _, rfl, rfl, ?_⟩⟩
    have C4 := c2.kept Bc k4 bO
    obtain ⟨as4, hO4, _⟩ := id C4
    refine ⟨_, rfl, .inl ⟨rfl, _, SqL.of hO4⟩, ?_⟩
    refine ⟨_, rfl, _, rfl, _, rfl, _, rfl, b, 1 + d2, m + (10 + cs d) + 2 * e, rfl, B4, by omega, by omega, fun d3 H5 k5 B5 d30 d31 => ⟨(by show 3 ≤ sizeLine; omega), fun p np => ?_⟩⟩
    have sp := same_new np (.tup [.str x, .int (1 + d2), .int d3])
    obtain ⟨as5, hO5, pO5⟩ := C4.kept B4 k5 bO
    have lcr : as5.length = i := by
      have z1 := paired_len pO5
      have z2 := congrArg List.length c1
      rw [List.length_map, List.length_take] at z2
      omega
    refine ⟨Ow, as5.map V.ref, _, rfl, rfl, sp _ _ hO5, by rw [List.length_map]; omega, cr ++ [(x, 1 + d2, d3)], _, _, rfl, ?_, ⟨as5 ++ [p], by rw [upd_same, List.map_append]; rfl, ?_⟩, fun c hc => ?_, ?_, ?_, ?_⟩
    · rw [List.map_append, c1, List.take_add_one, hx]
      rfl
    · have tO : Tups H5 (upd (upd H5 p (.tup [.str x, .int (1 + d2), .int d3])) Ow (.lst (as5.map V.ref ++ [.ref p]))) := fun a' ts ha => by
        rw [upd_ne (ne_of ha hO5 (by intro z; cases z))]
        exact sp _ _ ha
      refine p_snoc (paired_imp (fun _ _ y => tO _ _ y) pO5) ?_
      show upd _ Ow _ p = _
      rw [upd_ne (ne_of_none hO5 np).symm]
      exact upd_same
    · rcases List.mem_append.mp hc with hc | hc
      · exact c3 c hc
      · rw [List.mem_singleton.mp hc]
        exact ⟨⟨by show 1 ≤ 1 + d2; omega, by show 1 + d2 ≤ 40; omega⟩, ⟨d30, by show d3 ≤ 1 + d2 - 1; omega⟩⟩
    · rw [he2]
      exact (B5.keep sp).put bO.symm
    · intro a' o' na ha
      rw [upd_ne (fun z => by rw [z, nO0] at ha; cases ha)]
      exact sp _ _ (k5 _ _ na (k4 _ _ na (kc _ _ na ha)))
    · rw [upd_ne NO]
      exact sp _ _ (k5 _ _ bN (k4 _ _ bN hNc))
  rintro σ Hc ⟨cr, z7, z8, rfl, c1, c2, c3, Bc, kc, hNc⟩
  rw [List.length_map] at c1 Bc
  rw [List.take_length] at c1
  have bx : Boxes names cr := ⟨c1, pm.nodup_iff.mpr nk.nd, fun x hx => nk.nm x (pm.mem_iff.mp hx), srt, by omega, by omega, c3⟩
  have Bc := Bc.less (show m + (10 + cs d) ≤ m + (10 + cs d) + 2 * (3 - names.length) by omega)
  have lcr : cr.length = names.length := by rw [← c1, List.length_map]
  obtain ⟨c, cr', ecr⟩ : ∃ c cr', cr = c :: cr' := by
    cases cr with
    | nil => simp at lcr; omega
    | cons c r => exact ⟨c, r, rfl⟩
  have hcm : c ∈ cr := by rw [ecr]; exact List.mem_cons_self
  -- info
  have hSc := hB.tups kc _ _ hS
  refine ⟨_, rfl, _, rfl, rfl, _, rfl, _, rfl, S, _, _, _, rfl, rfl, SqT.of hSc, atI_nat (j := 0) rfl, _, rfl, S, _, _, _, rfl, rfl, SqT.of hSc, atI_nat (j := 1) rfl, (by show 5 ≤ sizeLine; omega), fun I nI => ?_⟩
  have sI := same_new nI (.tup [.ref N, .bl (decide (V.str up = V.str "")), .ref lw, .int mo, .int tu])
  have hI : InfoAt _ b I names (decide (V.str up = V.str "")) low mo tu N lw := ⟨@upd_same Hc I (.tup [.ref N, .bl (decide (V.str up = V.str "")), .ref lw, .int mo, .int tu]), sI _ _ hNc, bN, sI _ _ (kc _ _ nlw hlw), nlw, by omega, by omega, low8⟩
  have C5 := c2.kept Bc (.of sI) bO
  have B5 := Bc.keep sI
  have k5 : Kept b H _ := kc.trans (.of sI)
  have hS5 := sI _ _ hSc
  clear sI
  generalize upd Hc I (.tup [.ref N, .bl (decide (V.str up = V.str "")), .ref lw, .int mo, .int tu]) = H5 at *
  -- the sayings
  obtain ⟨as, hO, pO⟩ := id C5
  rw [ecr] at pO
  obtain ⟨a0, as', eas, hat, _⟩ : ∃ a0 as', as = a0 :: as' ∧ H5 a0 = some (.tup [.str c.1, .int c.2.1, .int c.2.2]) ∧ True := by
    cases pO with
    | cons h t => exact ⟨_, _, rfl, h, trivial⟩
  have hO' : H5 Ow = some (.lst (.ref a0 :: as'.map V.ref)) := by rw [hO, eas]; rfl
  refine ⟨_, rfl, Ow, _, _, _, rfl, rfl, SqL.of hO', atI_nat (j := 0) rfl, a0, _, _, _, rfl, rfl, SqT.of hat, atI_nat (j := 0) rfl, (by show 2 ≤ sizeLine; omega), fun p1 n1 => ?_⟩
  have s1 := same_new n1 (.tup [.str "box", .str c.1])
  refine ⟨_, rfl, Ow, _, _, _, rfl, rfl, SqL.of (s1 _ _ hO'), atI_nat (j := 0) rfl, a0, _, _, _, rfl, rfl, SqT.of (s1 _ _ hat), atI_nat (j := 2) rfl, (by show 2 ≤ sizeLine; omega), fun p2 n2 => ⟨(by show 3 ≤ sizeLine; omega), fun p3 n3 => ?_⟩⟩
  have s2 := same_new n2 (.tup [.str "number", .int c.2.2])
  have s3 := same_new n3 (.tup [.str "is", .ref p1, .ref p2])
  refine ⟨(by show 2 ≤ sizeLine; omega), fun p4 n4 => ⟨(by show 2 ≤ sizeLine; omega), fun p5 n5 => ⟨(by show 3 ≤ sizeLine; omega), fun p6 n6 => ⟨(by show 2 ≤ sizeLine; omega), fun p7 n7 => ?_⟩⟩⟩⟩
  have s4 := same_new n4 (.tup [.str "number", .int 0])
  have s5 := same_new n5 (.tup [.str "number", .int 1])
  have s6 := same_new n6 (.tup [.str "below", .ref p4, .ref p5])
  have s7 := same_new n7 (.lst [.ref p3, .ref p6])
  have e1 := (s2.trans (s3.trans (s4.trans (s5.trans (s6.trans s7))))) p1 _ upd_same
  have e2 := (s3.trans (s4.trans (s5.trans (s6.trans s7)))) p2 _ upd_same
  have e3 := (s4.trans (s5.trans (s6.trans s7))) p3 _ upd_same
  have e4 := (s5.trans (s6.trans s7)) p4 _ upd_same
  have e5 := (s6.trans s7) p5 _ upd_same
  have e6 := s7 p6 _ upd_same
  have e7 := @upd_same (upd (upd (upd (upd (upd (upd H5 p1 (.tup [.str "box", .str c.1])) p2 (.tup [.str "number", .int c.2.2])) p3 (.tup [.str "is", .ref p1, .ref p2])) p4 (.tup [.str "number", .int 0])) p5 (.tup [.str "number", .int 1])) p6 (.tup [.str "below", .ref p4, .ref p5])) p7 (.lst [.ref p3, .ref p6])
  have s17 := s1.trans (s2.trans (s3.trans (s4.trans (s5.trans (s6.trans s7)))))
  clear s1 s2 s3 s4 s5 s6 s7
  generalize upd (upd (upd (upd (upd (upd (upd H5 p1 (.tup [.str "box", .str c.1])) p2 (.tup [.str "number", .int c.2.2])) p3 (.tup [.str "is", .ref p1, .ref p2])) p4 (.tup [.str "number", .int 0])) p5 (.tup [.str "number", .int 1])) p6 (.tup [.str "below", .ref p4, .ref p5])) p7 (.lst [.ref p3, .ref p6]) = H7 at *
  have pS : Paired (TsAt H7) [.ref p3, .ref p6] (says2 c) := .cons (.is e3 (.box e1) (.num e2)) (.cons (.bel e6 (.num e4) (.num e5)) .nil)
  have B7 := B5.keep s17
  have b7 : p7 ≠ b := by
    intro z
    obtain ⟨ys, g, sd, cc, hb⟩ : ∃ ys g sd cc, H7 b = some (.lst [.int g, .int sd, .int cc]) ∧ ys = () := by
      obtain ⟨g, sd, cc, hb, _⟩ := B7
      exact ⟨(), g, sd, cc, hb, rfl⟩
    rw [z, hb.1] at e7
    cases e7
  refine ⟨_, rfl, _, rfl, b, 3, m + (9 + cs d), rfl, B7.less (by omega), by decide, by decide, fun dj H8 k8 B8 dj0 dj1 => ⟨dj, rfl, p7, _, rfl, SqL.of (k8 _ _ b7 e7), fun p8 n8 => ?_⟩⟩
  obtain ⟨j, rfl⟩ : ∃ j : Nat, dj = (j : Int) := ⟨dj.toNat, by omega⟩
  have ecut : cutV [V.ref p3, .ref p6] none (some (j : Int)) = [V.ref p3, .ref p6].take j := by
    have : j = 0 ∨ j = 1 ∨ j = 2 := by omega
    rcases this with rfl | rfl | rfl <;> rfl
  rw [ecut]
  have s8 := same_new n8 (.lst ([V.ref p3, .ref p6].take j))
  refine ⟨p8, _, rfl, .inl ⟨SqL.of upd_same, fun SM n9 => ?_⟩⟩
  have s9 := same_new n9 (.tup ([V.ref p3, .ref p6].take j))
  have hSM : SaysAt _ SM ((says2 c).take j) := ⟨_, @upd_same (upd H8 p8 (.lst ([V.ref p3, .ref p6].take j))) SM (.tup ([V.ref p3, .ref p6].take j)), paired_imp (fun _ _ y => y.keep (Same.tups (s8.trans s9))) (paired_imp (fun _ _ y => y.keep (B7.tups k8)) (paired_take pS j))⟩
  have k59 : Kept b H5 _ := (Kept.of s17).trans (k8.trans (.of (s8.trans s9)))
  have B9 := B8.keep (s8.trans s9)
  have I9 := hI.kept B5 k59
  have C9 := C5.kept B5 k59 bO
  have hS9 := B5.tups k59 _ _ hS5
  have k9 : Kept b H _ := k5.trans k59
  clear s8 s9 n9
  generalize upd (upd H8 p8 (.lst ([V.ref p3, .ref p6].take j))) SM (.tup ([V.ref p3, .ref p6].take j)) = H9 at *
  -- the steps
  refine ⟨_, rfl, _, rfl, _, rfl, S, _, _, _, rfl, rfl, SqT.of hS9, atI_nat (j := 3) rfl, _, rfl, S, _, _, _, rfl, rfl, SqT.of hS9, atI_nat (j := 2) rfl, (by show 1 ≤ sizeLine; omega), fun L nL => ?_⟩
  have sL := same_new nL (.lst [.int (k : Int)])
  have bL : L ≠ b := B9.ne nL
  have nL0 : H L = none := kept_none hB k9 nL B9.lst
  have D9 : DrawAt _ b I L k names (decide (V.str up = V.str "")) low mo tu N lw := ⟨I9.kept B9 (.of sL), bL, ne_of_none I9.own nL, ne_of_none I9.below nL, @upd_same H9 L (.lst [.int (k : Int)]), mo1, mo9, tu1, tu7, lowk⟩
  refine ⟨b, I, L, N, lw, d, m + 9, k, names, low, decide (V.str up = V.str ""), mo, tu, rfl, by omega, (B9.keep sL).less (by omega), D9, fun BD bd H10 k' g10 B10 hL10 at10 ok10 len10 dp10 tot10 => ?_⟩
  have k10 : Kept b H9 H10 := fun a o na ha => g10 _ _ na (ne_of_none ha nL) (sL _ _ ha)
  refine fin _ H10 b lw S N Ow I p7 SM BD nick up names low mo tu cr c j bd z7 z8 m Q rfl B10 (I9.kept B9 k10) (C9.kept B9 k10 bO) bO (hSM.keep (B9.tups k10)) at10 bx hcm ⟨ok10, by omega, by omega, by omega⟩ (fun a r H' kf Bf hat' hdr => q a r H' (k9.trans (k10.trans kf)) Bf hat' hdr)
end
end Any
set_option pp.maxSteps 600
namespace Any
open L2 PySem PySem.Spec PyProof.Rows LamX NdefX
/-! ### what drawn programs are like -/
/-- names, those above, floors, drawn so -/
structure Tree (names up : List Str) (fl : List Nat) : Prop where
  len : up.length = names.length
  lf : fl.length = names.length
  nk : Nicks 8 names
  first : up[0]? = some ("" : Str)
  one : fl[0]? = some 1
  below : ∀ i, i ≠ 0 → i < names.length → ∃ j a f, j < i ∧ names[j]? = some a ∧ up[i]? = some a ∧ fl[j]? = some f ∧ f < 4 ∧ fl[i]? = some (f + 1)
theorem nm_ne {x : Str} (h : Nm x) : x ≠ "" := fun z => by
  have := h.lo
  rw [z] at this
  exact absurd this (by decide)
theorem climb_none : ∀ (l : List Rm) (st : Nat × Str), (∀ r ∈ l, r.name ≠ st.2) → l.foldl climb st = st
  | [], _, _ => rfl
  | r :: l, st, h => by
    rw [List.foldl_cons, climb_no (h r (List.mem_cons_self ..))]
    exact climb_none l st fun x hx => h x (List.mem_cons_of_mem _ hx)
theorem nd_at {α : Type} {l : List α} (nd : l.Nodup) {i j : Nat} {x : α} (hi : l[i]? = some x) (hj : l[j]? = some x) : i = j := by
  have a := List.getElem?_eq_some_iff.mp hi
  have b := List.getElem?_eq_some_iff.mp hj
  obtain ⟨i1, e1⟩ := a
  obtain ⟨j1, e2⟩ := b
  rcases Nat.lt_trichotomy i j with h | h | h
  · exact absurd (e1.trans e2.symm) (List.pairwise_iff_getElem.mp (List.nodup_iff_pairwise_ne.mp nd) i j i1 j1 h)
  · exact h
  · exact absurd (e2.trans e1.symm) (List.pairwise_iff_getElem.mp (List.nodup_iff_pairwise_ne.mp nd) j i j1 i1 h)
/-- rooms that go by a tree -/
structure Rooms (names up : List Str) (rs : List Rm) : Prop where
  len : rs.length = names.length
  name : ∀ (i : Nat) (r : Rm), rs[i]? = some r → names[i]? = some r.name
  above : ∀ (i : Nat) (r : Rm), rs[i]? = some r → up[i]? = some r.above
theorem climb_tree {names up : List Str} {fl : List Nat} (t : Tree names up fl) {rs : List Rm} (h : Rooms names up rs) : ∀ (i n0 j f : Nat) (a : Str), i ≤ names.length → j < i → names[j]? = some a → fl[j]? = some f → ((rs.take i).reverse.foldl climb (n0, a)).1 = n0 + f
  | 0, _, _, _, _, _, hj, _, _ => absurd hj (Nat.not_lt_zero _)
  | i + 1, n0, j, f, a, hi, hj, ha, hf => by
    have ir : i < rs.length := by rw [h.len]; omega
    obtain ⟨r, hr⟩ : ∃ r, rs[i]? = some r := ⟨_, List.getElem?_eq_getElem ir⟩
    have hn := h.name i r hr
    have hab := h.above i r hr
    rw [List.take_add_one, hr, List.reverse_append]
    show ((rs.take i).reverse.foldl climb (climb (n0, a) r)).1 = n0 + f
    by_cases e : i = j
    · subst e
      rw [hn] at ha
      cases ha
      rw [climb_yes rfl]
      by_cases i0 : i = 0
      · subst i0
        rw [t.one] at hf
        cases hf
        rfl
      · obtain ⟨k, b, g, hk, hb, hu, hg, g4, hgi⟩ := t.below i i0 (by omega)
        rw [hab] at hu
        cases hu
        rw [hgi] at hf
        cases hf
        have ih := climb_tree t h i (n0 + 1) k g r.above (by omega) hk hb hg
        show ((rs.take i).reverse.foldl climb (n0 + 1, r.above)).1 = n0 + (g + 1)
        rw [ih]
        omega
    · rw [climb_no (fun z => e (nd_at t.nk.nd hn (by rw [show r.name = a from z]; exact ha)))]
      exact climb_tree t h i n0 j f a (by omega) (by omega) ha hf
/-- the names of those right beneath, in the names' order -/
def lowOf (names up : List Str) (n : Str) : List Str := ((names.zip up).filter fun z => decide (z.2 = n)).map (·.1)
theorem ben_low {names up : List Str} {rs : List Rm} (h : Rooms names up rs) (hu : up.length = names.length) (n : Str) : ben rs n = lowOf names up n := by
  have e1 : names = rs.map (·.name) := by
    refine List.ext_getElem? fun i => ?_
    rw [List.getElem?_map]
    by_cases hi : i < rs.length
    · have z := List.getElem?_eq_getElem hi
      rw [h.name i _ z, z]
      rfl
    · rw [List.getElem?_eq_none (by rw [← h.len]; omega), List.getElem?_eq_none (by omega)]
      rfl
  have e2 : up = rs.map (·.above) := by
    refine List.ext_getElem? fun i => ?_
    rw [List.getElem?_map]
    by_cases hi : i < rs.length
    · have z := List.getElem?_eq_getElem hi
      rw [h.above i _ z, z]
      rfl
    · rw [List.getElem?_eq_none (by rw [hu, ← h.len]; omega), List.getElem?_eq_none (by omega)]
      rfl
  unfold lowOf ben
  rw [e1, e2, List.zip_map', List.filter_map, List.map_map]
  rfl
theorem low_in {names up : List Str} {n x : Str} (h : x ∈ lowOf names up n) : x ∈ names := by
  unfold lowOf at h
  obtain ⟨z, h1, rfl⟩ := List.mem_map.mp h
  exact (List.of_mem_zip (List.mem_filter.mp h1).1).1
theorem low_len (names up : List Str) (n : Str) : (lowOf names up n).length ≤ names.length := by
  unfold lowOf
  rw [List.length_map]
  refine Nat.le_trans (List.length_filter_le ..) ?_
  rw [List.length_zip]
  omega
theorem right_of_tree {names up : List Str} {fl : List Nat} (t : Tree names up fl) {rs : List Rm} (h : Rooms names up rs) (hd : ∀ (i : Nat) (r : Rm), rs[i]? = some r → Drawn r.name r.above (lowOf names up r.name) r) : Right rs := by
  have n1 := t.nk.lo
  have n8 := t.nk.hi
  refine ⟨by rw [h.len]; exact n1, by rw [h.len]; exact n8, fun i r hr => ?_⟩
  have il : i < names.length := by rw [← h.len]; exact (List.getElem?_eq_some_iff.mp hr).1
  have d := hd i r hr
  have hn := h.name i r hr
  have hab := h.above i r hr
  have nm : Nm r.name := t.nk.nm _ (List.mem_of_getElem? hn)
  have up0 : i = 0 → r.above = "" := fun e => by
    subst e
    rw [t.first] at hab
    exact (Option.some.inj hab).symm
  have ben := ben_low h t.len r.name
  refine ⟨nm, fun m => ?_, ⟨up0, fun i0 => ?_⟩, d.boxes, d.asc, d.says, fun i0 => by rw [ben]; exact d.first (up0 i0), fun i0 => ?_⟩
  · obtain ⟨q, hq, e⟩ := List.mem_map.mp m
    obtain ⟨j, hj⟩ := List.getElem?_of_mem hq
    rw [List.getElem?_take] at hj
    by_cases c : j < i
    · rw [if_pos c] at hj
      have z := h.name j q hj
      rw [e] at z
      have := nd_at t.nk.nd hn z
      omega
    · rw [if_neg c] at hj
      cases hj
  · obtain ⟨j, a, f, hj, ha, hu, hf, f4, hfi⟩ := t.below i i0 il
    rw [hab] at hu
    cases hu
    refine ⟨?_, ?_⟩
    · have jl : j < rs.length := by rw [h.len]; omega
      have zr := List.getElem?_eq_getElem jl
      have z := h.name j _ zr
      rw [ha] at z
      rw [Option.some.inj z]
      exact List.mem_map_of_mem (List.mem_of_getElem? (i := j) (by rw [List.getElem?_take, if_pos hj]; exact zr))
    · unfold floorOf
      rw [climb_tree t h i 1 j f r.above (by omega) hj ha hf]
      omega
  · rw [ben]
    refine d.other ?_
    obtain ⟨j, a, f, hj, ha, hu, _⟩ := t.below i i0 il
    rw [hab] at hu
    rw [Option.some.inj hu]
    exact nm_ne (t.nk.nm _ (List.mem_of_getElem? ha))
/-! ### comprehensions over a range -/
theorem turns_rng {n : Nat} {g : TG} {tt : TT} {te : TE} {vs : List Nat} {σ : L2.St} {H1 : Hp} {D : Addr} {Qd : Hp → Prop} (gs : List (Option V)) (hD : H1 D = none) (hn : gs.length = n) (hz : n ≤ sizeLine) (hs : TurnF ((List.range n).map fun i : Nat => V.int (0 + (i : Int))) gs g tt te vs σ H1)
    (hd : ∀ H, H D = some (.lst (gs.filterMap id)) → Same H1 H → Qd H) : Turns (Itr 0 n) g tt te vs σ H1 D Qd := by
  refine lc_range (lo := 0) (n := n) (fun i Hc => Hc D = some (.lst ((gs.take i).filterMap id)) ∧ Same H1 Hc) ⟨upd_same, same_new hD _⟩ ?_ ?_
  · rintro i Hc hi ⟨hC, sm⟩
    obtain ⟨o, ho⟩ : ∃ o, gs[i]? = some o := ⟨gs[i]'(by omega), List.getElem?_eq_getElem (by omega)⟩
    have hx : ((List.range n).map fun i : Nat => V.int (0 + (i : Int)))[i]? = some (V.int (0 + (i : Int))) := by rw [List.getElem?_map, List.getElem?_range hi]; rfl
    refine hs i _ o Hc _ _ hx ho sm (fun y ey H4 s4 => ⟨_, s4 _ _ hC, ?_, ?_, fun b u hb => ?_⟩) (fun en H4 s4 => ⟨?_, sm.trans s4⟩)
    · have := fm_len (gs.take i)
      rw [List.length_take] at this
      omega
    · rw [upd_same, take_fm ho, ey]
      rfl
    · rw [upd_ne (ne_of_none hb hD)]
      exact s4 _ _ (sm _ _ hb)
    · rw [take_fm ho, en]
      show H4 D = some (.lst (_ ++ []))
      rw [List.append_nil]
      exact s4 _ _ hC
  · rintro Hc ⟨hC, sm⟩
    rw [← hn, List.take_length] at hC
    exact hd Hc hC sm
theorem fm_low (n : Str) : ∀ l : List (Str × Str), (l.map fun z => if z.2 = n then some (V.str z.1) else none).filterMap id = ((l.filter fun z => decide (z.2 = n)).map (·.1)).map V.str
  | [] => rfl
  | o :: r => by
    have ih := fm_low n r
    rw [List.map_cons]
    by_cases e : o.2 = n
    · rw [if_pos e, List.filter_cons_of_pos (by simpa using e), List.map_cons, List.map_cons, ← ih]
      rfl
    · rw [if_neg e, List.filter_cons_of_neg (by simpa using e), ← ih]
      rfl
section
variable (P : Program) (w : World) (K : PySem.W.Frag) (mg : Str → Option Value) (base : Heap)
/-- a class called with its arguments alone -/
def Mk1 (k : Nat) (x : Str) (C : Addr) (ps : List Str) (sp : Sp) : Prop := ∃ f fd, mg x = some (.ref C) ∧ Mk K C f ∧ FnOk P w K mg base CX0 k f fd ps sp ∧ Binds K fd ps []
end
theorem pe_C {X : Cx} {k : Nat} {x : Str} {C : Addr} {ps : List Str} {sp : Sp} {p pos : Pos} {e : Expr} {es : List Expr} {t : TA} (D : Mk1 X.prog X.w X.K X.mg X.base k x C ps sp) (hr : Room (k + 1) X.A) (hg : Gl X x)
    (ha : PA X (e :: es) t) (hdb : (x == ("__debug__" : Str)) = false := by decide) (he : starEach (e :: es) X.env = (false, eval e X.env) :: starEach es X.env := by rfl) (hpl : (backTo pos (starEach es X.env)).any (·.1) = false := by rfl) :
    PE X (.Call (.Name x p) (e :: es) [] pos) (tMake C sp [] E0 t) := by
  obtain ⟨f, fd, hm, M, F, hb⟩ := D
  exact pe_make M F hr hg hm hb .nil pass0 ha hdb he hpl
end Any
set_option pp.maxSteps 600
namespace Any
open L2 PySem PySem.Spec PyProof.Rows LamX NdefX
abbrev sProg : Stmt := top 88
abbrev psPg : List Str := ["_law_bag_here", "_law_many", "_law_sizes"]
abbrev nmPg : List Str := ["_law_bag_here", "_law_many", "_law_sizes", "_law_nicks_here", "_law_uppers", "_law_floors", "_law_k", "_law_at", "_law_some", "_law_found", "_law_lower"]
theorem scPg : FnScope nmPg psPg (defScope sProg) := ⟨rfl, rfl, rfl, by decide +kernel, rfl, by decide +kernel, by decide +kernel⟩
def pc (d : Nat) : Nat := 17 + 8 * (26 + cs d)
def spProg (T : List NTab) (C D : Addr) : Sp := fun vs H Q _ => ∃ (b S : Addr) (many m d k : Nat) (mo tu : Int), vs = [.ref b, .int many, .ref S] ∧ 1 ≤ many ∧ many ≤ 8 ∧ Bag H b (m + pc d) ∧
  H S = some (.tup [.int mo, .int tu, .int (k : Int), .int (d : Int)]) ∧ d ≤ 3 ∧ (1 ≤ mo ∧ mo ≤ 9) ∧ (1 ≤ tu ∧ tu ≤ 7) ∧ k ≤ 30 ∧ TabsN T H ∧ ∀ (x : Addr) (rs : List Rm) (H' : Hp), H x = none → Kg T b H H' → Bag H' b m → PgOk C D H' x rs → Right rs → Q (.ref x) H'
/-- a tree as far as it is drawn -/
structure TreeTo (names up : List Str) (fl : List Nat) (n : Nat) : Prop where
  len : up.length = n
  lf : fl.length = n
  first : up[0]? = some ("" : Str)
  one : fl[0]? = some 1
  below : ∀ i, i ≠ 0 → i < n → ∃ j a f, j < i ∧ names[j]? = some a ∧ up[i]? = some a ∧ fl[j]? = some f ∧ f < 4 ∧ fl[i]? = some (f + 1)
theorem get_app {α : Type} {l : List α} {x : α} {i : Nat} {y : α} (h : l[i]? = some y) : (l ++ [x])[i]? = some y := by
  have := (List.getElem?_eq_some_iff.mp h).1
  rw [List.getElem?_append_left this]
  exact h
theorem get_last {α : Type} {l : List α} {x : α} {n : Nat} (h : l.length = n) : (l ++ [x])[n]? = some x := by
  rw [List.getElem?_append_right (by omega), h, Nat.sub_self]
  rfl
theorem TreeTo.more {names up : List Str} {fl : List Nat} {n : Nat} (t : TreeTo names up fl n) {j f : Nat} {a : Str} (hj : j < n) (ha : names[j]? = some a) (hf : fl[j]? = some f) (f4 : f < 4) : TreeTo names (up ++ [a]) (fl ++ [f + 1]) (n + 1) := by
  refine ⟨by rw [List.length_append, t.len]; rfl, by rw [List.length_append, t.lf]; rfl, get_app t.first, get_app t.one, fun i i0 hi => ?_⟩
  by_cases e : i < n
  · obtain ⟨j', a', f', h1, h2, h3, h4, h5, h6⟩ := t.below i i0 e
    exact ⟨j', a', f', h1, h2, get_app h3, get_app h4, h5, get_app h6⟩
  · have e : i = n := by omega
    subst e
    exact ⟨j, a, f, hj, ha, get_last t.len, get_app hf, f4, get_last t.lf⟩
theorem RmAt.kept {C : Addr} {H H' : Hp} {b x : Addr} {r : Rm} {n : Nat} (h : RmAt C H x r) (B : Bag H b n) (k : Kept b H H') : RmAt C H' x r := by
  obtain ⟨ys, hb⟩ := B.lst
  obtain ⟨dx, n', a, b', s, q, t, p, y, h1, h2⟩ := h
  exact ⟨dx, n', a, b', s, q, t, p, y, k _ _ (ne_of h1 hb (by intro z; cases z)) h1, h2.keep (B.tups k)⟩
theorem RmAt.put {C : Addr} {H : Hp} {L x : Addr} {r : Rm} {xs ys : List V} (h : RmAt C H x r) (hL : H L = some (.lst xs)) : RmAt C (upd H L (.lst ys)) x r := by
  obtain ⟨dx, n', a, b', s, q, t, p, y, h1, h2⟩ := h
  refine ⟨dx, n', a, b', s, q, t, p, y, by rw [upd_ne (ne_of h1 hL (by intro z; cases z))]; exact h1, h2.keep fun a ts ha => ?_⟩
  rw [upd_ne (ne_of ha hL (by intro z; cases z))]
  exact ha
section
variable {P : Program} {w : World} {K : PySem.W.Frag} {mg : Str → Option Value} {base : Heap} {f C D_ : Addr} {fd : FuncData} {T_ : List NTab}
set_option maxHeartbeats 4000000 in
theorem ok_prog (O : Own mg) (mr : mg "range" = none) (F : Fun K "_law_program" "_law_program" sProg f fd) (DT : Df P w K mg base 1 "_law_take" psTk spTake) (DN : Df P w K mg base 2 "_law_nicks" psTk spNicks) (DR : Df P w K mg base 14 "_law_room" psRm (spRoom C)) (MP : Mk1 P w K mg base 30 "Program" D_ ["self", "rooms"] (spPInit T_ C D_)) :
    FnOk P w K mg base CX0 32 f fd psPg (spProg T_ C D_) := by
  refine F.ok scPg (fun vs H Q E h => ?_) (fun cdv A outer s H vs Q E hr h => ?_)
  · obtain ⟨b, S, many, m, d, k, mo, tu, rfl, _⟩ := h
    rfl
  obtain ⟨b, S, many, m, d, k, mo, tu, rfl, many1, many8, hB, hS, hd, hmo, htu, hk, hT, q⟩ := h
  have hs : sizeLine = 16777216 := sizeLine_eq
  have hr1 := hr.mono (show 1 ≤ 31 by decide)
  have hr2 := hr.mono (show 2 ≤ 31 by decide)
  have hr14 := hr.mono (show 14 ≤ 31 by decide)
  have epc : pc d = 17 + 8 * (26 + cs d) := rfl
  -- the rooms
  obtain ⟨t3, ht3, fin⟩ : ∃ t3, PSs (cxOf CX0 P w K mg base nmPg "_law_program" (defScope sProg) f cdv A outer s H E).nox ((defBody sProg).drop 3) t3 ∧
      ∀ (D : Ends) (H9 : Hp) (N U Fl : Addr) (names up : List Str) (fl : List Nat) (z6 z7 z8 : Option V), D.rt = Q → Kept b H H9 → Bag H9 b (m + 8 * (26 + cs d)) → H9 N = some (.lst (names.map V.str)) → N ≠ b → H9 U = some (.lst (up.map V.str)) → U ≠ b → Tree names up fl →
        t3 D [some (.ref b), some (.int many), some (.ref S), some (.ref N), some (.ref U), some (.ref Fl), z6, z7, z8, none, none] H9 := by
    refine ⟨_, pss_cons (ps_set (i := 9) scPg.nd rfl (Or.inl rfl) (pe_lst pa_nil))
      (pss_cons (ps_for PassesOwn.never rfl (pi_range1 rfl mr (pa_cons (pe_callB call_len_seq rfl O.len PySem.boot_len (pa_cons (pv 3) pa_nil)) pa_nil)) (pg_name (i := 6) scPg.nd rfl (Or.inr rfl))
        (pss_cons (ps_setLc (i := 10) (own := [("_law_at", 7)]) (g := gName 7) (tt := tTest (tOp rEq (tOp (rIxL K) (tVar 4) (tVar 7)) (tOp (rIxL K) (tVar 3) (tVar 6)))) (te := tOp (rIxL K) (tVar 3) (tVar 7)) (by rfl) scPg.nd rfl rfl (sw_true rfl rfl rfl (by decide +kernel)) (pi_range1 rfl mr (pa_cons (pe_callB call_len_seq rfl O.len PySem.boot_len (pa_cons (pv 3) pa_nil)) pa_nil)) (blkOk_by (N := nmPg) (sc := defScope sProg) (by decide +kernel))
            (fun _ _ _ _ _ => pg_name (i := 7) scPg.nd rfl (Or.inl rfl)) (fun _ _ _ _ _ => pts_one (pt_cmpR op_eq (pe_ix (show IxR _ (rIxL K) from ix_list) (pv 4) (pv 7) (fun _ _ => rfl)) (pe_ix (show IxR _ (rIxL K) from ix_list) (pv 3) (pv 6) (fun _ _ => rfl)) (nomark _))) (fun _ _ _ _ _ => pe_ix (show IxR _ (rIxL K) from ix_list) (pv 3) (pv 7) (fun _ _ => rfl)))
        (pss_one (ps_expr (pe_bm PySem.F.plainAttrs_list PySem.F.slot_list_append PySem.F.type_list_append mt_append (pv 9) (pa_cons (pe_D DR hr14 rfl (pa_cons (pv 0) (pa_cons (pe_ix ix_list (pv 3) (pv 6) (fun _ _ => rfl)) (pa_cons (pe_ix ix_list (pv 4) (pv 6) (fun _ _ => rfl)) (pa_cons (pv 10) (pa_cons (pv 2) pa_nil)))))) pa_nil))))))
      (pss_one (ps_ret (pe_C MP hr rfl (pa_cons (pe_callTy call_tuple_of rfl O.tuple (by decide +kernel) (pa_cons (pv 9) pa_nil)) pa_nil))))), ?_⟩
    intro D H9 N U Fl names up fl z6 z7 z8 eD k9 B9 hN nN hU nU t
    have nlo := t.nk.lo
    have nhi := t.nk.hi
    refine ⟨(by show 0 ≤ sizeLine; omega), fun Fd nF => ?_⟩
    have sF := same_new nF (.lst [])
    have bF : Fd ≠ b := B9.ne nF
    have NF : N ≠ Fd := ne_of_none hN nF
    have UF : U ≠ Fd := ne_of_none hU nF
    have nF0 : H Fd = none := kept_none hB k9 nF B9.lst
    refine ⟨_, rfl, N, _, rfl, .inl (SqL.of (sF _ _ hN)), _, rfl, by rw [List.length_map]; omega, by rw [List.length_map]; omega, ?_⟩
    refine for_range (lo := 0) (fun i σ Hc => ∃ (as : List Addr) (rs : List Rm) (z6 z7 z8 z10 : Option V), σ = [some (.ref b), some (.int many), some (.ref S), some (.ref N), some (.ref U), some (.ref Fl), z6, z7, z8, some (.ref Fd), z10] ∧ Hc Fd = some (.lst (as.map V.ref)) ∧ Paired (RmAt C Hc) as rs ∧ rs.length = i ∧
      (∀ (j : Nat) (r : Rm), rs[j]? = some r → names[j]? = some r.name ∧ up[j]? = some r.above ∧ Drawn r.name r.above (lowOf names up r.name) r) ∧ Bag Hc b (m + (8 - i) * (26 + cs d)) ∧ Kept b H Hc ∧ Hc N = some (.lst (names.map V.str)) ∧ Hc U = some (.lst (up.map V.str)))
      ⟨[], [], _, _, _, _, rfl, upd_same, .nil, rfl, (fun j r h => by simp at h), B9.keep sF, k9.trans (.of sF), sF _ _ hN, sF _ _ hU⟩ ?_ ?_
    · rintro i σ Hc hi ⟨as, rs, y6, y7, y8, y10, rfl, hFd, pr, lr, okr, Bc, kc, hNc, hUc⟩
      rw [List.length_map] at hi
      have hi : i < names.length := by omega
      obtain ⟨e, he⟩ : ∃ e, 8 - i = e + 1 := ⟨7 - i, by omega⟩
      have he2 : 8 - (i + 1) = e := by omega
      rw [he, Nat.succ_mul] at Bc
      obtain ⟨nm, hnm⟩ : ∃ nm, names[i]? = some nm := ⟨_, List.getElem?_eq_getElem hi⟩
      obtain ⟨u, hu⟩ : ∃ u, up[i]? = some u := ⟨_, List.getElem?_eq_getElem (by rw [t.len]; exact hi)⟩
      have inm : atI (names.map V.str) (0 + (i : Int)) = some (.str nm) := by rw [Int.zero_add]; exact atI_nat (by rw [List.getElem?_map, hnm]; rfl)
      have iu : atI (up.map V.str) (0 + (i : Int)) = some (.str u) := by rw [Int.zero_add]; exact atI_nat (by rw [List.getElem?_map, hu]; rfl)
      refine ⟨_, rfl, N, _, rfl, .inl (SqL.of hNc), _, rfl, by rw [List.length_map]; omega, by rw [List.length_map]; omega, fun lw nlw => ?_⟩
      have zl : (names.zip up).length = names.length := by rw [List.length_zip, t.len, Nat.min_self]
      refine turns_rng ((names.zip up).map fun z => if z.2 = nm then some (V.str z.1) else none) nlw (by rw [List.length_map, zl, List.length_map]; omega) (by rw [List.length_map]; omega) ?_ ?_
      · intro j z o Hd Y Nx hz ho sm hY hN2
        rw [List.getElem?_map] at hz ho
        obtain ⟨jj, hjj, rfl⟩ := Option.map_eq_some_iff.mp hz
        obtain ⟨⟨na, ua⟩, hza, rfl⟩ := Option.map_eq_some_iff.mp ho
        have ejj : jj = j := by
          have := (List.getElem?_eq_some_iff.mp hjj)
          obtain ⟨h1, h2⟩ := this
          rw [List.getElem_range] at h2
          exact h2.symm
        subst ejj
        obtain ⟨ha1, ha2⟩ := List.getElem?_zip_eq_some.mp hza
        have ina : atI (names.map V.str) (0 + (jj : Int)) = some (.str na) := by rw [Int.zero_add]; exact atI_nat (by rw [List.getElem?_map, ha1]; rfl)
        have iua : atI (up.map V.str) (0 + (jj : Int)) = some (.str ua) := by rw [Int.zero_add]; exact atI_nat (by rw [List.getElem?_map, ha2]; rfl)
        refine ⟨rfl, _, rfl, _, rfl, U, _, _, _, rfl, rfl, SqL.of (sm _ _ hUc), iua, _, rfl, _, rfl, N, _, _, _, rfl, rfl, SqL.of (sm _ _ hNc), inm, rfl, _, rfl, itD (fun c1 => ?_) (fun c1 => ?_)⟩
        · have e9 : ua = nm := V.str.inj c1
          refine ⟨_, rfl, _, rfl, N, _, _, _, rfl, rfl, SqL.of (sm _ _ hNc), ina, hY _ ?_ Hd same_refl⟩
          show (if ua = nm then some (V.str na) else none) = _
          rw [if_pos e9]
        · have e9 : ¬ ua = nm := fun z => c1 (by rw [z])
          refine hN2 ?_ Hd same_refl
          show (if ua = nm then some (V.str na) else none) = _
          rw [if_neg e9]
      intro H2 h2 s2
      rw [fm_low] at h2
      have h2 : H2 lw = some (.lst ((lowOf names up nm).map V.str)) := h2
      have B2 := Bc.keep s2
      have blw : lw ≠ b := Bc.ne nlw
      refine ⟨_, rfl, .inl ⟨rfl, _, SqL.of (s2 _ _ hFd)⟩, ?_⟩
      refine ⟨_, rfl, _, rfl, _, rfl, N, _, _, _, rfl, rfl, SqL.of (s2 _ _ hNc), inm, _, rfl, _, rfl, U, _, _, _, rfl, rfl, SqL.of (s2 _ _ hUc), iu, _, rfl, _, rfl, ?_⟩
      refine ⟨b, lw, S, nm, u, m + e * (26 + cs d), d, k, lowOf names up nm, mo, tu, rfl, B2.less (by omega), h2, blw, Nat.le_trans (low_len ..) nhi, fun r hr => nm_ok (t.nk.nm r (low_in hr)), s2 _ _ (hB.tups kc _ _ hS), hd, hmo, htu, hk, fun a r H3 k3 B3 hat hdr => ?_⟩
      have kc3 : Kept b Hc H3 := (Kept.of s2).trans k3
      have hFd3 := kc3 _ _ bF hFd
      have las := paired_len pr
      refine ⟨Fd, as.map V.ref, _, rfl, rfl, hFd3, by rw [List.length_map]; omega, as ++ [a], rs ++ [r], _, _, _, _, rfl, by rw [upd_same, List.map_append]; rfl, ?_, by rw [List.length_append, lr]; rfl, fun j r' hj => ?_, ?_, ?_, ?_, ?_⟩
      · exact p_snoc (paired_imp (fun _ _ y => (RmAt.kept y Bc kc3).put hFd3) pr) (hat.put hFd3)
      · by_cases jl : j < rs.length
        · rw [List.getElem?_append_left jl] at hj
          exact okr j r' hj
        · have ej : j = rs.length := by
            have := (List.getElem?_eq_some_iff.mp hj).1
            rw [List.length_append] at this
            simp at this
            omega
          rw [List.getElem?_append_right (by omega), ej, Nat.sub_self] at hj
          cases hj
          rw [ej, lr, hdr.name, hdr.above]
          exact ⟨hnm, hu, hdr⟩
      · rw [he2]
        exact B3.put bF.symm
      · intro a' o' na ha
        rw [upd_ne (fun z => by rw [z, nF0] at ha; cases ha)]
        exact kc3 _ _ na (kc _ _ na ha)
      · rw [upd_ne NF]
        exact kc3 _ _ nN hNc
      · rw [upd_ne UF]
        exact kc3 _ _ nU hUc
    · rintro σ Hc ⟨as, rs, y6, y7, y8, y10, rfl, hFd, pr, lr, okr, Bc, kc, hNc, hUc⟩
      rw [List.length_map] at lr
      have lr : rs.length = names.length := by omega
      have rooms : Rooms names up rs := ⟨lr, fun i r h => (okr i r h).1, fun i r h => (okr i r h).2.1⟩
      have ok := right_of_tree t rooms fun i r h => (okr i r h).2.2
      refine ⟨_, rfl, Fd, _, rfl, .inl ⟨SqL.of hFd, fun R hR => ?_⟩⟩
      have s1 := same_new hR (.tup (as.map V.ref))
      intro x dx hx hdx ne
      have r1 : RsAt C (upd Hc R (.tup (as.map V.ref))) R rs := ⟨as, upd_same, paired_imp (fun _ _ z => z.keep s1) pr⟩
      have s2 : Same (upd Hc R (.tup (as.map V.ref))) (upd (upd (upd Hc R (.tup (as.map V.ref))) dx (.own x)) x (.ins D_ dx [])) := fun a o ha => by
        rw [upd_ne (ne_of_none ha hx), upd_ne (ne_of_none ha hdx)]
        exact ha
      have kgc : Kg T_ b H Hc := (Kg.refl hT).kept hB kc
      have gR := Gr.of kgc.tabs s1
      have g2 := Gr.of gR.tabs s2
      refine ⟨x, dx, R, rs, rfl, upd_same, r1.keepS s2, ok, g2.tabs, fun p H3 k3 h3 hp3 => ⟨rfl, ?_⟩⟩
      have g3 : Gr T_ (upd Hc R (.tup (as.map V.ref))) H3 := gr_kg (Gr.of gR.tabs s2) hx k3
      rw [eD]
      refine q x rs H3 ?_ (kgc.gr (gR.trans g3)) (((Bc.less (by omega)).gr gR).gr g3) ⟨R, ⟨dx, _, h3⟩, r1.gr g3⟩ ok
      exact kept_none hB kc (s1.free hx) Bc.lst
  refine ⟨_, pss_cons (ps_set (i := 3) scPg.nd rfl (Or.inr rfl) (pe_D DN hr2 rfl (pa_cons (pv 0) (pa_cons (pe_op op_add pe_int (pe_D DT hr1 rfl (pa_cons (pv 0) (pa_cons (pv 1) pa_nil)))) pa_nil))))
    (pss_cons (ps_asg (pe_tup (pa_cons (pe_lst (pa_cons pe_str pa_nil)) (pa_cons (pe_lst (pa_cons pe_int pa_nil)) pa_nil))) (pg_tup rfl (pgs_cons (pg_name (i := 4) scPg.nd rfl (Or.inr rfl)) (pgs_cons (pg_name (i := 5) scPg.nd rfl (Or.inr rfl)) pgs_nil))))
    (pss_cons (ps_for PassesOwn.never rfl (pi_range2 rfl mr (pa_cons pe_int (pa_cons (pe_callB call_len_seq rfl O.len PySem.boot_len (pa_cons (pv 3) pa_nil)) pa_nil))) (pg_name (i := 6) scPg.nd rfl (Or.inr rfl))
      (pss_cons (ps_setLc (i := 8) (own := [("_law_at", 7)]) (g := gName 7) (tt := tTest (tOp (rI0 fun i j => V.bl (decide (i < j))) (tOp (rIxL K) (tVar 5) (tVar 7)) (tC (.int 4)))) (te := tVar 7) (by rfl) scPg.nd rfl rfl (sw_true rfl rfl rfl (by decide +kernel)) (pi_range1 rfl mr (pa_cons (pv 6) pa_nil)) (blkOk_by (N := nmPg) (sc := defScope sProg) (by decide +kernel))
          (fun _ _ _ _ _ => pg_name (i := 7) scPg.nd rfl (Or.inl rfl)) (fun _ _ _ _ _ => pts_one (pt_cmpR op_lt (pe_ix (show IxR _ (rIxL K) from ix_list) (pv 5) (pv 7) (fun _ _ => rfl)) pe_int (nomark _))) (fun _ _ _ _ _ => pv 7))
      (pss_cons (ps_set (i := 7) scPg.nd rfl (Or.inl rfl) (pe_ix ix_list (pv 8) (pe_D DT hr1 rfl (pa_cons (pv 0) (pa_cons (pe_callB call_len_seq rfl O.len PySem.boot_len (pa_cons (pv 8) pa_nil)) pa_nil))) (fun _ _ => rfl)))
      (pss_cons (ps_expr (pe_bm PySem.F.plainAttrs_list PySem.F.slot_list_append PySem.F.type_list_append mt_append (pv 4) (pa_cons (pe_ix ix_list (pv 3) (pv 7) (fun _ _ => rfl)) pa_nil)))
      (pss_one (ps_expr (pe_bm PySem.F.plainAttrs_list PySem.F.slot_list_append PySem.F.type_list_append mt_append (pv 5) (pa_cons (pe_op op_add (pe_ix ix_list (pv 5) (pv 7) (fun _ _ => rfl)) pe_int) pa_nil))))))))
    ht3)), ?_⟩
  refine ⟨_, rfl, _, rfl, _, rfl, b, (many : Int), m + (16 + 8 * (26 + cs d)), rfl, hB.less (by omega), by omega, by omega, fun d1 H1 k1 B1 d10 d11 => ⟨_, _, rfl, rfl, ?_⟩⟩
  obtain ⟨mm, hmm⟩ : ∃ mm : Nat, 1 + d1 = (mm : Int) := ⟨(1 + d1).toNat, by omega⟩
  refine ⟨b, mm, m + (7 + 8 * (26 + cs d)), (by rw [← hmm]; rfl), B1.less (by omega), by omega, by omega, fun N names H2 nN0 k2 B2 hN nk => ?_⟩
  have nk8 : Nicks 8 names := ⟨nk.lo, Nat.le_trans nk.hi (by omega), nk.nd, nk.nm⟩
  have nlo := nk8.lo
  have nhi := nk8.hi
  have k12 := k1.trans k2
  have bN : N ≠ b := B1.ne nN0
  refine ⟨(by show 1 ≤ sizeLine; omega), fun U nU => ⟨(by show 1 ≤ sizeLine; omega), fun Fl nF => ⟨(by show 2 ≤ sizeLine; omega), fun pt npt => ?_⟩⟩⟩
  have sU := same_new nU (.lst [.str ""])
  have sF := same_new nF (.lst [.int 1])
  have sp := same_new npt (.tup [.ref U, .ref Fl])
  have s3 := sU.trans (sF.trans sp)
  have hU0 := (sF.trans sp) U _ (@upd_same H2 U (.lst [.str ""]))
  have hF0 := sp Fl _ (@upd_same (upd H2 U (.lst [.str ""])) Fl (.lst [.int 1]))
  have bU : U ≠ b := B2.ne nU
  have bF : Fl ≠ b := (B2.keep sU).ne nF
  have UF : U ≠ Fl := ne_of_none (@upd_same H2 U (.lst [.str ""])) nF
  have NU : N ≠ U := ne_of_none hN nU
  have NF : N ≠ Fl := ne_of_none (sU _ _ hN) nF
  have nU0 : H U = none := kept_none hB k12 nU B2.lst
  have nF0 : H Fl = none := kept_none hB (k12.trans (.of sU)) nF (B2.keep sU).lst
  have hpt := @upd_same (upd (upd H2 U (.lst [.str ""])) Fl (.lst [.int 1])) pt (.tup [.ref U, .ref Fl])
  have B3 := B2.keep s3
  have hN3 := s3 _ _ hN
  have k3 : Kept b H _ := k12.trans (.of s3)
  clear sp sU sF
  generalize upd (upd (upd H2 U (.lst [.str ""])) Fl (.lst [.int 1])) pt (.tup [.ref U, .ref Fl]) = H3 at *
  refine ⟨pt, _, rfl, SqT.of hpt, rfl, _, _, rfl, _, _, rfl, rfl, ?_⟩
  refine ⟨_, rfl, N, _, rfl, .inl (SqL.of hN3), _, _, rfl, ⟨by omega, by omega, by omega, by rw [List.length_map]; omega⟩, ?_⟩
  refine for_range (lo := 1) (fun i σ Hc => ∃ (up : List Str) (fl : List Nat) (z6 z7 z8 : Option V), σ = [some (.ref b), some (.int many), some (.ref S), some (.ref N), some (.ref U), some (.ref Fl), z6, z7, z8, none, none] ∧ TreeTo names up fl (i + 1) ∧ Hc U = some (.lst (up.map V.str)) ∧ Hc Fl = some (.lst (fl.map fun n : Nat => V.int n)) ∧
    Bag Hc b (m + 8 * (26 + cs d) + (7 - i)) ∧ Kept b H Hc ∧ Hc N = some (.lst (names.map V.str)))
    ⟨[""], [1], none, none, none, rfl, ⟨rfl, rfl, rfl, rfl, fun i i0 hi => by omega⟩, hU0, hF0, B3.less (by omega), k3, hN3⟩ ?_ ?_
  · rintro i σ Hc hi ⟨up, fl, z6, z7, z8, rfl, t, hUc, hFc, Bc, kc, hNc⟩
    rw [List.length_map] at hi
    have hi : i + 1 < names.length := by omega
    obtain ⟨e, he⟩ : ∃ e, 7 - i = e + 1 := ⟨6 - i, by omega⟩
    have he2 : 7 - (i + 1) = e := by omega
    rw [he] at Bc
    have tl := t.lf
    have tul := t.len
    refine ⟨_, rfl, 1 + (i : Int), rfl, by omega, by omega, fun DD nD => ?_⟩
    have bD : DD ≠ b := Bc.ne nD
    have nDF : Fl ≠ DD := ne_of_none hFc nD
    refine lc_range (lo := 0) (n := (1 + (i : Int)).toNat) (fun j Hd => ∃ us : List Nat, Hd DD = some (.lst (us.map fun n : Nat => V.int n)) ∧ (∀ u ∈ us, u < j ∧ ∃ f, fl[u]? = some f ∧ f < 4) ∧ us.length ≤ j ∧ (1 ≤ j → 1 ≤ us.length) ∧ Same Hc Hd)
      ⟨[], upd_same, (fun u hu => by cases hu), Nat.le_refl _, (fun h => by omega), same_new nD _⟩ ?_ ?_
    · rintro j Hd hj ⟨us, u1, u2, u3, u4, sm⟩
      obtain ⟨f, hf⟩ : ∃ f, fl[j]? = some f := ⟨_, List.getElem?_eq_getElem (by omega)⟩
      have ifl : atI (fl.map fun n : Nat => V.int n) (0 + (j : Int)) = some (.int (f : Int)) := by rw [Int.zero_add]; exact atI_nat (by rw [List.getElem?_map, hf]; rfl)
      refine ⟨rfl, _, rfl, _, rfl, Fl, _, _, _, rfl, rfl, SqL.of (sm _ _ hFc), ifl, _, _, rfl, rfl, _, rfl, itD (fun c => ?_) (fun c => ?_)⟩
      · refine ⟨_, rfl, _, u1, by rw [List.length_map]; omega, us ++ [j], ?_, fun u hu => ?_, by rw [List.length_append]; show us.length + 1 ≤ j + 1; omega, fun _ => by rw [List.length_append]; show 1 ≤ us.length + 1; omega, fun a o ha => ?_⟩
        · rw [upd_same, List.map_append, Int.zero_add]
          rfl
        · rcases List.mem_append.mp hu with hu | hu
          · obtain ⟨g1, g2⟩ := u2 u hu
            exact ⟨by omega, g2⟩
          · rw [List.mem_singleton.mp hu]
            exact ⟨by omega, f, hf, by omega⟩
        · rw [upd_ne (ne_of_none ha nD)]
          exact sm _ _ ha
      · refine ⟨us, u1, fun u hu => ?_, by omega, fun _ => ?_, sm⟩
        · obtain ⟨g1, g2⟩ := u2 u hu
          exact ⟨by omega, g2⟩
        · by_cases j0 : j = 0
          · subst j0
            rw [t.one] at hf
            cases hf
            omega
          · exact u4 (by omega)
    rintro Hd ⟨us, u1, u2, u3, u4, sm⟩
    have us1 := u4 (by omega)
    have Bd := Bc.keep sm
    refine ⟨_, rfl, _, rfl, _, rfl, DD, _, rfl, .inl (SqL.of u1), b, (us.length : Int), m + 8 * (26 + cs d) + e, (by rw [List.length_map]; rfl), Bd, by omega, by omega, fun z H4 k4 B4 z0 z1 => ?_⟩
    obtain ⟨w_, hw⟩ : ∃ w_, us[z.toNat]? = some w_ := ⟨_, List.getElem?_eq_getElem (by omega)⟩
    have iz : atI (us.map fun n : Nat => V.int n) z = some (.int (w_ : Int)) := by
      have y : atI (us.map fun n : Nat => V.int n) ((z.toNat : Nat) : Int) = some (.int (w_ : Int)) := atI_nat (by rw [List.getElem?_map, hw]; rfl)
      rw [show ((z.toNat : Nat) : Int) = z by omega] at y
      exact y
    obtain ⟨wl, f, hf, f4⟩ := u2 w_ (List.mem_of_getElem? hw)
    obtain ⟨nm, hnm⟩ : ∃ nm, names[w_]? = some nm := ⟨_, List.getElem?_eq_getElem (by omega)⟩
    refine ⟨DD, _, _, _, rfl, rfl, SqL.of (k4 _ _ bD u1), iz, ?_⟩
    have kc4 : Kept b Hc H4 := (Kept.of sm).trans k4
    have hU4 := kc4 _ _ bU hUc
    have hF4 := kc4 _ _ bF hFc
    have hN4 := kc4 _ _ bN hNc
    have inm : atI (names.map V.str) (w_ : Int) = some (.str nm) := atI_nat (by rw [List.getElem?_map, hnm]; rfl)
    have ifl : atI (fl.map fun n : Nat => V.int n) (w_ : Int) = some (.int (f : Int)) := atI_nat (by rw [List.getElem?_map, hf]; rfl)
    refine ⟨_, rfl, .inl ⟨rfl, _, SqL.of hU4⟩, _, rfl, _, rfl, N, _, _, _, rfl, rfl, SqL.of hN4, inm, U, _, _, rfl, rfl, hU4, by rw [List.length_map]; omega, ?_⟩
    have hF5 : upd H4 U (.lst (up.map V.str ++ [.str nm])) Fl = some (.lst (fl.map fun n : Nat => V.int n)) := by rw [upd_ne UF.symm]; exact hF4
    refine ⟨_, rfl, .inl ⟨rfl, _, SqL.of hF5⟩, _, rfl, _, rfl, Fl, _, _, _, rfl, rfl, SqL.of hF5, ifl, _, _, rfl, rfl, Fl, _, _, rfl, rfl, hF5, by rw [List.length_map]; omega, up ++ [nm], fl ++ [f + 1], _, _, _, rfl, t.more (by omega) hnm hf f4, ?_, ?_, ?_, ?_, ?_⟩
    · rw [upd_ne UF, upd_same, List.map_append]
      rfl
    · rw [upd_same, List.map_append]
      rfl
    · rw [he2]
      exact (B4.put bU.symm).put bF.symm
    · intro a' o' na ha
      rw [upd_ne (fun z => by rw [z, nF0] at ha; cases ha), upd_ne (fun z => by rw [z, nU0] at ha; cases ha)]
      exact kc4 _ _ na (kc _ _ na ha)
    · rw [upd_ne NF, upd_ne NU]
      exact hN4
  · rintro σ Hc ⟨up, fl, z6, z7, z8, rfl, t, hUc, hFc, Bc, kc, hNc⟩
    rw [List.length_map] at t Bc
    have en : (((names.length : Int) - 1).toNat + 1) = names.length := by omega
    rw [en] at t
    exact fin _ Hc N U Fl names up fl z6 z7 z8 rfl kc (Bc.less (by omega)) hNc bN hUc bU ⟨t.len, t.lf, nk8, t.first, t.one, t.below⟩
end
end Any
set_option pp.maxSteps 600
namespace Any
open L2 PySem PySem.Spec PyProof.Rows LamX NdefX
/-! ### the law's own weights -/
abbrev sLW : Stmt := top 89
abbrev sLH : Stmt := top 90
abbrev sLR : Stmt := top 91
abbrev sWh : Stmt := top 93
abbrev nmLW : List Str := ["_law_tree", "_law_steps_here", "_law_found", "_law_step_here", "_law_more"]
abbrev psLW : List Str := ["_law_tree", "_law_steps_here"]
abbrev nmLR : List Str := ["_law_tree", "_law_nick", "_law_found", "_law_one"]
theorem scLW : FnScope nmLW psLW (defScope sLW) := ⟨rfl, rfl, rfl, by decide +kernel, rfl, by decide +kernel, by decide +kernel⟩
theorem scLH : FnScope ["_law_tree", "_law_one"] ["_law_tree", "_law_one"] (defScope sLH) := ⟨rfl, rfl, rfl, by decide +kernel, rfl, by decide +kernel, by decide +kernel⟩
theorem scLR : FnScope nmLR ["_law_tree", "_law_nick"] (defScope sLR) := ⟨rfl, rfl, rfl, by decide +kernel, rfl, by decide +kernel, by decide +kernel⟩
theorem scWh : FnScope ["_law_thing", "_law_due"] ["_law_thing", "_law_due"] (defScope sWh) := ⟨rfl, rfl, rfl, by decide +kernel, rfl, by decide +kernel, by decide +kernel⟩
def spLW (C D : Addr) (n : Nat) : Sp := fun vs H Q _ => ∃ (x a : Addr) (bd : Bd) (rs : List Rm) (i : Nat) (r : Rm) (xs ws : List Str), vs = [.ref x, .ref a] ∧ PgOk C D H x rs ∧ Right rs ∧ rs[i]? = some r ∧ BdAt H a bd ∧ bd.ok xs ws (ben rs r.name) ∧ bd.len ≤ 12 ∧ bd.dp + 5 * (8 - i) < n ∧
  ∀ H', Same H H' → Q (.int (bd.wt (Wt rs))) H'
def spLH (C D : Addr) : Sp := fun vs H Q _ => ∃ (x a : Addr) (rs : List Rm) (i : Nat) (r : Rm), vs = [.ref x, .ref a] ∧ PgOk C D H x rs ∧ Right rs ∧ rs[i]? = some r ∧ RmAt C H a r ∧ ∀ H', Same H H' → Q (.int (vHome rs r)) H'
def spLR (C D : Addr) (n : Nat) : Sp := fun vs H Q _ => ∃ (x : Addr) (rs : List Rm) (i : Nat) (r : Rm), vs = [.ref x, .str r.name] ∧ PgOk C D H x rs ∧ Right rs ∧ rs[i]? = some r ∧ 8 - i < n ∧ ∀ H', Same H H' → Q (.int (vRight rs r)) H'
def spWh : Sp := fun vs H Q _ => ∃ i j : Int, vs = [.int i, .int j] ∧ Q (.bl (decide (i = j))) H
theorem ben_to (l : List Rm) (o : Rm) (n : Str) : ben (l ++ [o]) n = ben l n ++ (if o.above = n then [o.name] else []) := by
  unfold ben
  rw [List.filter_append, List.map_append]
  congr 1
  by_cases e : o.above = n
  · rw [if_pos e, List.filter_cons_of_pos (by simpa using e)]
    rfl
  · rw [if_neg e, List.filter_cons_of_neg (by simpa using e)]
    rfl
section
variable {P : Program} {w : World} {K : PySem.W.Frag} {mg : Str → Option Value} {base : Heap} {f C D : Addr} {fd : FuncData}
theorem ok_wh (O : Own mg) (F : Fun K "_law_whole" "_law_whole" sWh f fd) : FnOk P w K mg base CX0 1 f fd ["_law_thing", "_law_due"] spWh := by
  refine F.ok scWh (fun vs H Q E h => ?_) (fun cdv A outer s H vs Q E hr h => ?_)
  · obtain ⟨i, j, rfl, _⟩ := h
    rfl
  obtain ⟨i, j, rfl, q⟩ := h
  refine ⟨_, pss_one (ps_ret (pe_and (pe_callB call_isi rfl O.isi (by decide +kernel) (pa_cons (pv 0) (pa_cons (pe_bltn (v := .ty "int") rfl O.int (by decide +kernel) rfl) pa_nil)))
    (pe_and (pe_not (pe_callB call_isi rfl O.isi (by decide +kernel) (pa_cons (pv 0) (pa_cons (pe_bltn (v := .ty "bool") rfl O.bool (by decide +kernel) rfl) pa_nil)))) (pe_one (pe_cmpR op_eq (pv 0) (pv 1) (nomark _)))))), ?_⟩
  refine ⟨_, rfl, _, _, _, _, true, rfl, .ty "int", .base (.int i), kb "int" "int" true, _, rfl, _, rfl, _, _, _, _, false, rfl, .ty "bool", .base (.int i), kb "int" "bool" false, _, rfl, _, rfl, _, rfl, _, rfl, rfl, ?_⟩
  have e : decide (V.int i = V.int j) = decide (i = j) := by
    by_cases c : i = j
    · rw [decide_eq_true c, c, decide_eq_true rfl]
    · rw [decide_eq_false c, decide_eq_false fun z => c (V.int.inj z)]
  rw [e]
  exact q
theorem no_lw {k : Nat} : FnOk P w K mg base CX0 k f fd psLW (spLW C D 0) := by
  have no : ∀ vs H Q E, ¬ spLW C D 0 vs H Q E := fun vs H Q E h => by
    obtain ⟨x, a, bd, rs, i, r, xs, ws, _, _, _, _, _, _, _, hd, _⟩ := h
    omega
  exact ⟨fun vs H Q E h => absurd h (no vs H Q E), fun A outer s H args us vs Q E _ _ _ _ h => absurd h (no vs H Q E)⟩
set_option maxHeartbeats 4000000 in
theorem ok_lw {n : Nat} (T : RoomC K C) (TP : HeldC K D) (mm : mg "max" = none) (MO : Mf P w K mg base D 1 "room_of" ["self", "name"] (spRO C D)) (F : Fun K "_law_weight" "_law_weight" sLW f fd) (G : Df P w K mg base (n + 1) "_law_weight" psLW (spLW C D n)) : FnOk P w K mg base CX0 (n + 2) f fd psLW (spLW C D (n + 1)) := by
  refine F.ok scLW (fun vs H Q E h => ?_) (fun cdv A outer s H vs Q E hr h => ?_)
  · obtain ⟨x, a, bd, rs, i, r, xs, ws, rfl, _⟩ := h
    rfl
  obtain ⟨x, a, bd, rs, i, r, xs, ws, rfl, hpg, ok, hi, ⟨us, ha, hu⟩, hok, hlen, hn, q⟩ := h
  have hs : sizeLine = 16777216 := sizeLine_eq
  have hp := hu.paired
  have hr1 := hr.mono (show 1 ≤ n + 1 by omega)
  have il := (List.getElem?_eq_some_iff.mp hi).1
  have z8 := ok.hi
  refine ⟨_, pss_cons (ps_set (i := 2) scLW.nd rfl (Or.inl rfl) pe_int)
    (pss_cons (ps_for PassesOwn.never rfl (pi_tup (pv 1)) (pg_name (i := 3) scLW.nd rfl (Or.inl rfl))
      (pss_cons (ps_set (i := 4) scLW.nd rfl (Or.inl rfl) pe_int)
      (pss_cons (ps_if (pt_cmpR op_eq (pe_ix ix_tup (pv 3) pe_int (fun _ _ => rfl)) pe_str (nomark _)) (pss_one (ps_set (i := 4) scLW.nd rfl (Or.inl rfl) (pe_op op_add pe_int (pe_callB (call_max2 rfl) rfl mm (by decide +kernel) (pa_cons (pe_D G hr rfl (pa_cons (pv 0) (pa_cons (pe_ix ix_tup (pv 3) pe_int (fun _ _ => rfl)) pa_nil))) (pa_cons (pe_D G hr rfl (pa_cons (pv 0) (pa_cons (pe_ix ix_tup (pv 3) pe_int (fun _ _ => rfl)) pa_nil))) pa_nil)))))) pss_nil)
      (pss_cons (ps_if (pt_cmpR op_eq (pe_ix ix_tup (pv 3) pe_int (fun _ _ => rfl)) pe_str (nomark _)) (pss_one (ps_set (i := 4) scLW.nd rfl (Or.inl rfl) (pe_op op_add pe_int (pe_op op_mul (pe_op op_add (pe_ix ix_tup (pv 3) pe_int (fun _ _ => rfl)) pe_int) (pe_op op_add (pe_D G hr rfl (pa_cons (pv 0) (pa_cons (pe_ix ix_tup (pv 3) pe_int (fun _ _ => rfl)) pa_nil))) pe_int))))) pss_nil)
      (pss_cons (ps_if (pt_cmpR op_eq (pe_ix ix_tup (pv 3) pe_int (fun _ _ => rfl)) pe_str (nomark _)) (pss_one (ps_set (i := 4) scLW.nd rfl (Or.inl rfl) (pe_op op_add pe_int (pe_op op_mul pe_int (pe_op op_add pe_int (pe_D G hr rfl (pa_cons (pv 0) (pa_cons (pe_fld (pe_M MO TP.cl (pv 0) hr1 (pa_cons (pe_ix ix_tup (pv 3) pe_int (fun _ _ => rfl)) pa_nil)) rfl) pa_nil)))))))) pss_nil)
      (pss_one (ps_set (i := 2) scLW.nd rfl (Or.inl rfl) (pe_op op_add (pv 2) (pv 4)))))))))
    (pss_one (ps_ret (pv 2)))), ?_⟩
  refine ⟨_, rfl, a, rfl, ⟨_, SqT.of ha⟩, ?_⟩
  refine for_tup (K := K) (a := a) (xs := us) (fun j σ Hc => ∃ z3 z4 : Option V, σ = [some (.ref x), some (.ref a), some (.int (((bd.toL.take j).map (Sg.wt (Wt rs))).sum)), z3, z4] ∧ Same H Hc) ⟨_, _, rfl, .refl _⟩ ?_ ?_ ?_
  · rintro j σ Hc _ ⟨z3, z4, rfl, sm⟩
    exact SqT.of (sm _ _ ha)
  · rintro j v σ Hc hv ⟨z3, z4, rfl, sm⟩
    obtain ⟨st, hst, hat⟩ := paired_get hp hv
    have hat := SgAt.keep (Same.tups sm) st hat
    have dn : st.dp ≤ bd.dp := Bd.dp_mem (List.mem_of_getElem? hst)
    have ok2 : st.ok xs ws (ben rs r.name) := Bd.okm hok (List.mem_of_getElem? hst)
    have hpgc := hpg.keep sm
    have fin : ∀ (H' : Hp) (i1 : Int), Same Hc H' → i1 = st.wt (Wt rs) → ∃ z3' z4' : Option V, [some (V.ref x), some (.ref a), some (.int ((((bd.toL.take j).map (Sg.wt (Wt rs))).sum) + i1)), some v, some (.int i1)] = [some (V.ref x), some (.ref a), some (.int (((bd.toL.take (j + 1)).map (Sg.wt (Wt rs))).sum)), z3', z4'] ∧ Same H H' := fun H' i1 s1 e => by
      refine ⟨some v, some (.int i1), ?_, sm.trans s1⟩
      rw [List.take_add_one, hst, List.map_append, List.sum_append, e]
      show _ = [some (V.ref x), some (.ref a), some (.int (((bd.toL.take j).map (Sg.wt (Wt rs))).sum + (st.wt (Wt rs) + 0))), some v, some (.int (st.wt (Wt rs)))]
      rw [Int.add_zero]
    cases st with
    | ifs t p q' =>
      unfold SgAt at hat
      unfold Sg.ok at ok2
      unfold Sg.dp at dn
      obtain ⟨ad, u, pb, pc', bs, cs', rfl, h1, h2, h3, h4, h5, h6⟩ := hat
      refine ⟨_, rfl, ad, _, _, _, rfl, rfl, SqT.of h1, atI_nat (j := 0) rfl, rfl, _, rfl, itT eq_str ?_⟩
      refine ⟨_, rfl, _, rfl, ad, _, _, _, rfl, rfl, SqT.of h1, atI_nat (j := 2) rfl, x, pb, p, rs, i, r, xs, ws, rfl, hpgc, ok, hi, ⟨_, h3, h4⟩, ok2.2.1.1, ok2.2.1.2, by omega, fun H2 s2 => ?_⟩
      refine ⟨_, rfl, _, rfl, ad, _, _, _, rfl, rfl, SqT.of (s2 _ _ h1), atI_nat (j := 3) rfl, x, pc', q', rs, i, r, xs, ws, rfl, hpgc.keep s2, ok, hi, ⟨_, s2 _ _ h5, BdL.keep (Same.tups s2) q' h6⟩, ok2.2.2.1, ok2.2.2.2, by omega, fun H3 s3 => ⟨_, _, rfl, _, _, rfl, rfl, ?_⟩⟩
      have s23 := s2.trans s3
      refine ⟨_, rfl, ad, _, _, _, rfl, rfl, SqT.of (s23 _ _ h1), atI_nat (j := 0) rfl, rfl, _, rfl, itF (ne_str (by decide)) ?_⟩
      refine ⟨_, rfl, ad, _, _, _, rfl, rfl, SqT.of (s23 _ _ h1), atI_nat (j := 0) rfl, rfl, _, rfl, itF (ne_str (by decide)) ?_⟩
      exact ⟨_, rfl, _, rfl, _, _, rfl, rfl, fin H3 _ s23 (by unfold Sg.wt mx; rfl)⟩
    | fors e m p =>
      unfold SgAt at hat
      unfold Sg.ok at ok2
      unfold Sg.dp at dn
      obtain ⟨ad, u, pb, bs, rfl, h1, h2, h3, h4⟩ := hat
      refine ⟨_, rfl, ad, _, _, _, rfl, rfl, SqT.of h1, atI_nat (j := 0) rfl, rfl, _, rfl, itF (ne_str (by decide)) ?_⟩
      refine ⟨_, rfl, ad, _, _, _, rfl, rfl, SqT.of h1, atI_nat (j := 0) rfl, rfl, _, rfl, itT eq_str ?_⟩
      refine ⟨_, rfl, ad, _, _, _, rfl, rfl, SqT.of h1, atI_nat (j := 2) rfl, _, _, rfl, rfl, _, rfl, _, rfl, ad, _, _, _, rfl, rfl, SqT.of h1, atI_nat (j := 3) rfl, x, pb, p, rs, i, r, xs, ws, rfl, hpgc, ok, hi, ⟨_, h3, h4⟩, ok2.2.2.1, ok2.2.2.2, by omega, fun H2 s2 => ⟨_, _, rfl, rfl, _, _, rfl, rfl, .inl ⟨by omega, by omega⟩, _, _, rfl, rfl, ?_⟩⟩
      refine ⟨_, rfl, ad, _, _, _, rfl, rfl, SqT.of (s2 _ _ h1), atI_nat (j := 0) rfl, rfl, _, rfl, itF (ne_str (by decide)) ?_⟩
      exact ⟨_, rfl, _, rfl, _, _, rfl, rfl, fin H2 _ s2 (by unfold Sg.wt; rw [Int.add_comm (p.wt (Wt rs)) 1])⟩
    | call xn rn e =>
      unfold SgAt at hat
      unfold Sg.ok at ok2
      unfold Sg.dp at dn
      obtain ⟨ad, u, rfl, h1, h2⟩ := hat
      refine ⟨_, rfl, ad, _, _, _, rfl, rfl, SqT.of h1, atI_nat (j := 0) rfl, rfl, _, rfl, itF (ne_str (by decide)) ?_⟩
      refine ⟨_, rfl, ad, _, _, _, rfl, rfl, SqT.of h1, atI_nat (j := 0) rfl, rfl, _, rfl, itF (ne_str (by decide)) ?_⟩
      refine ⟨_, rfl, ad, _, _, _, rfl, rfl, SqT.of h1, atI_nat (j := 0) rfl, rfl, _, rfl, itT eq_str ?_⟩
      obtain ⟨k, o, hk, ho, rfl⟩ := ben_behind ok hi ok2.2.1
      have kl := (List.getElem?_eq_some_iff.mp ho).1
      obtain ⟨R, ⟨dx, vv, hx⟩, hR⟩ := id hpgc
      obtain ⟨ws', b1, b2, b3, b4⟩ := body_of ok ho
      refine ⟨_, rfl, _, rfl, x, dx, _, rfl, hx, pf_none (by decide +kernel) (by decide +kernel), _, rfl, ad, _, _, _, rfl, rfl, SqT.of h1, atI_nat (j := 2) rfl, x, R, o.name, rs, k, o, rfl, ⟨dx, vv, hx⟩, hR, ho, rfl, right_uno ok ho, fun a2 hat2 => ?_⟩
      obtain ⟨dy, n', a', b', s', k', t', p', y', g1, g2⟩ := hat2
      obtain ⟨c, rfl, hc⟩ := g2.body
      refine ⟨a2, C, dy, _, _, rfl, g1, T.cl, T.n8, rf_body, x, c, o.body, rs, k, o, o.bn, ws', rfl, hpgc, ok, ho, hc, b1, b2, by omega, fun H2 s2 => ⟨_, _, rfl, rfl, _, _, rfl, rfl, .inl ⟨by decide, by decide⟩, _, _, rfl, rfl, ?_⟩⟩
      exact ⟨_, rfl, _, rfl, _, _, rfl, rfl, fin H2 _ s2 (by unfold Sg.wt; rw [wt_at ok ho])⟩
    | set xn e =>
      unfold SgAt at hat
      obtain ⟨ad, u, rfl, h1, h2⟩ := hat
      refine ⟨_, rfl, ad, _, _, _, rfl, rfl, SqT.of h1, atI_nat (j := 0) rfl, rfl, _, rfl, itF (ne_str (by decide)) ?_⟩
      refine ⟨_, rfl, ad, _, _, _, rfl, rfl, SqT.of h1, atI_nat (j := 0) rfl, rfl, _, rfl, itF (ne_str (by decide)) ?_⟩
      refine ⟨_, rfl, ad, _, _, _, rfl, rfl, SqT.of h1, atI_nat (j := 0) rfl, rfl, _, rfl, itF (ne_str (by decide)) ?_⟩
      exact ⟨_, rfl, _, rfl, _, _, rfl, rfl, fin Hc _ (.refl _) (by unfold Sg.wt; rfl)⟩
    | say xn e =>
      unfold SgAt at hat
      obtain ⟨ad, u, rfl, h1, h2⟩ := hat
      refine ⟨_, rfl, ad, _, _, _, rfl, rfl, SqT.of h1, atI_nat (j := 0) rfl, rfl, _, rfl, itF (ne_str (by decide)) ?_⟩
      refine ⟨_, rfl, ad, _, _, _, rfl, rfl, SqT.of h1, atI_nat (j := 0) rfl, rfl, _, rfl, itF (ne_str (by decide)) ?_⟩
      refine ⟨_, rfl, ad, _, _, _, rfl, rfl, SqT.of h1, atI_nat (j := 0) rfl, rfl, _, rfl, itF (ne_str (by decide)) ?_⟩
      exact ⟨_, rfl, _, rfl, _, _, rfl, rfl, fin Hc _ (.refl _) (by unfold Sg.wt; rfl)⟩
    | hear xn =>
      unfold SgAt at hat
      obtain ⟨ad, rfl, h1⟩ := hat
      refine ⟨_, rfl, ad, _, _, _, rfl, rfl, SqT.of h1, atI_nat (j := 0) rfl, rfl, _, rfl, itF (ne_str (by decide)) ?_⟩
      refine ⟨_, rfl, ad, _, _, _, rfl, rfl, SqT.of h1, atI_nat (j := 0) rfl, rfl, _, rfl, itF (ne_str (by decide)) ?_⟩
      refine ⟨_, rfl, ad, _, _, _, rfl, rfl, SqT.of h1, atI_nat (j := 0) rfl, rfl, _, rfl, itF (ne_str (by decide)) ?_⟩
      exact ⟨_, rfl, _, rfl, _, _, rfl, rfl, fin Hc _ (.refl _) (by unfold Sg.wt; rfl)⟩
  · rintro σ Hc ⟨z3, z4, rfl, sm⟩
    refine ⟨_, rfl, ?_⟩
    rw [paired_len hp, List.take_length, ← Bd.wt_eq]
    exact q Hc sm
theorem all_lw (T : RoomC K C) (TP : HeldC K D) (mm : mg "max" = none) (MO : Mf P w K mg base D 1 "room_of" ["self", "name"] (spRO C D)) (N : Nd K mg "_law_weight" sLW psLW) : ∀ n : Nat, Df P w K mg base (n + 1) "_law_weight" psLW (spLW C D n)
  | 0 => by
    obtain ⟨f, fd, h1, h2, h3⟩ := N
    exact ⟨f, fd, h1, h2.kp, no_lw, h3⟩
  | n + 1 => by
    have G := all_lw T TP mm MO N n
    obtain ⟨f, fd, h1, h2, h3⟩ := N
    exact ⟨f, fd, h1, h2.kp, ok_lw T TP mm MO h2 G, h3⟩
theorem ok_lh (T : RoomC K C) (LW : Df P w K mg base 46 "_law_weight" psLW (spLW C D 45)) (F : Fun K "_law_home" "_law_home" sLH f fd) : FnOk P w K mg base CX0 47 f fd ["_law_tree", "_law_one"] (spLH C D) := by
  refine F.ok scLH (fun vs H Q E h => ?_) (fun cdv A outer s H vs Q E hr h => ?_)
  · obtain ⟨x, a, rs, i, r, rfl, _⟩ := h
    rfl
  obtain ⟨x, a, rs, i, r, rfl, hpg, ok, hi, hat, q⟩ := h
  obtain ⟨dy, n', a', b', s', k', t', p', y', g1, g2⟩ := hat
  obtain ⟨c, rfl, hc⟩ := g2.body
  have hab := g2.above
  subst hab
  obtain ⟨ws', b1, b2, b3, b4⟩ := body_of ok hi
  refine ⟨_, pss_one (ps_ret (pe_op op_add (pe_D LW hr rfl (pa_cons (pv 0) (pa_cons (pe_fld (pv 1) rfl) pa_nil))) (pe_ifExp (pt_cmpR op_eq (pe_fld (pv 1) rfl) pe_str (nomark _)) pe_int pe_int))), ?_⟩
  refine ⟨_, rfl, _, rfl, a, C, dy, _, _, rfl, g1, T.cl, T.n8, rf_body, x, c, r.body, rs, i, r, r.bn, ws', rfl, hpg, ok, hi, hc, b1, b2, by omega, fun H2 s2 => ?_⟩
  have z := q H2 s2
  unfold vHome Rm.home at z
  refine ⟨_, rfl, a, C, dy, _, _, rfl, s2 _ _ g1, T.cl, T.n2, rf_above, rfl, _, rfl, itD (fun e => ?_) (fun e => ?_)⟩
  · rw [if_pos (V.str.inj e), Int.add_comm] at z
    exact ⟨_, _, rfl, rfl, z⟩
  · rw [if_neg (fun y => e (by rw [y])), Int.add_comm] at z
    exact ⟨_, _, rfl, rfl, z⟩
theorem no_lr {k : Nat} : FnOk P w K mg base CX0 k f fd ["_law_tree", "_law_nick"] (spLR C D 0) := by
  have no : ∀ vs H Q E, ¬ spLR C D 0 vs H Q E := fun vs H Q E h => by
    obtain ⟨x, rs, i, r, _, _, _, _, hd, _⟩ := h
    omega
  exact ⟨fun vs H Q E h => absurd h (no vs H Q E), fun A outer s H args us vs Q E _ _ _ _ h => absurd h (no vs H Q E)⟩
theorem ok_lr {n : Nat} (T : RoomC K C) (TP : HeldC K D) (mm : mg "max" = none) (MR : Mf P w K mg base D 1 "rooms" ["self"] (spRms D)) (MO : Mf P w K mg base D 1 "room_of" ["self", "name"] (spRO C D)) (LH : Df P w K mg base 47 "_law_home" ["_law_tree", "_law_one"] (spLH C D)) (G : Df P w K mg base (n + 48) "_law_right" ["_law_tree", "_law_nick"] (spLR C D n)) (F : Fun K "_law_right" "_law_right" sLR f fd) :
    FnOk P w K mg base CX0 (n + 49) f fd ["_law_tree", "_law_nick"] (spLR C D (n + 1)) := by
  refine F.ok scLR (fun vs H Q E h => ?_) (fun cdv A outer s H vs Q E hr h => ?_)
  · obtain ⟨x, rs, i, r, rfl, _⟩ := h
    rfl
  obtain ⟨x, rs, i, r, rfl, hpg, ok, hi, hn, q⟩ := h
  have hr1 := hr.mono (show 1 ≤ n + 48 by omega)
  have hr47 := hr.mono (show 47 ≤ n + 48 by omega)
  obtain ⟨R, ⟨dx, vv, hx⟩, as, hR, hp⟩ := id hpg
  have z8 := ok.hi
  have il := (List.getElem?_eq_some_iff.mp hi).1
  refine ⟨_, pss_cons (ps_set (i := 2) scLR.nd rfl (Or.inl rfl) pe_int)
    (pss_cons (ps_for PassesOwn.never rfl (pi_tup (pe_Mz MR TP.cl (pv 0) hr1)) (pg_name (i := 3) scLR.nd rfl (Or.inl rfl))
      (pss_one (ps_if (pt_cmpR op_eq (pe_fld (pv 3) rfl) (pv 1) (nomark _)) (pss_one (ps_set (i := 2) scLR.nd rfl (Or.inl rfl) (pe_callB (call_max2 rfl) rfl mm (by decide +kernel) (pa_cons (pv 2) (pa_cons (pe_D G hr rfl (pa_cons (pv 0) (pa_cons (pe_fld (pv 3) rfl) pa_nil))) pa_nil))))) pss_nil)))
    (pss_one (ps_ret (pe_op op_add (pv 2) (pe_D LH hr47 rfl (pa_cons (pv 0) (pa_cons (pe_M MO TP.cl (pv 0) hr1 (pa_cons (pv 1) pa_nil)) pa_nil))))))), ?_⟩
  refine ⟨_, rfl, x, dx, _, rfl, hx, pf_none (by decide +kernel) (by decide +kernel), x, R, rfl, ⟨dx, vv, hx⟩, R, rfl, ⟨_, SqT.of hR⟩, ?_⟩
  refine for_tup (K := K) (a := R) (xs := as.map V.ref) (fun j σ Hc => ∃ z3 : Option V, σ = [some (.ref x), some (.str r.name), some (.int (((ben (rs.take j) r.name).map (Rt rs)).foldl mx 0)), z3] ∧ Same H Hc) ⟨_, rfl, .refl _⟩ ?_ ?_ ?_
  · rintro j σ Hc _ ⟨z3, rfl, sm⟩
    exact SqT.of (sm _ _ hR)
  · rintro j v σ Hc hv ⟨z3, rfl, sm⟩
    obtain ⟨e, he, rfl⟩ := refs_at hv
    obtain ⟨o, ho, hat⟩ := paired_get hp he
    obtain ⟨dy, n', a', b', s', k', t', p', y', g1, g2⟩ := hat.keep sm
    have hab := g2.above
    have hnm := g2.name
    subst hab hnm
    have eb := ben_to (rs.take j) o r.name
    have et : rs.take (j + 1) = rs.take j ++ [o] := by rw [List.take_add_one, ho]; rfl
    refine ⟨_, rfl, e, C, dy, _, _, rfl, g1, T.cl, T.n2, rf_above, _, rfl, rfl, _, rfl, itD (fun c => ?_) (fun c => ?_)⟩
    · have c := V.str.inj c
      have hin : o.name ∈ ben rs r.name := by
        unfold ben
        exact List.mem_map.mpr ⟨o, List.mem_filter.mpr ⟨List.mem_of_getElem? ho, decide_eq_true c⟩, rfl⟩
      obtain ⟨k, o2, hk, ho2, en⟩ := ben_behind ok hi hin
      have ekj : j = k := by
        rcases Nat.lt_trichotomy j k with z | z | z
        · exact absurd en.symm (right_uno ok ho2 j o z ho)
        · exact z
        · exact absurd en (right_uno ok ho k o2 z ho2)
      refine ⟨_, rfl, _, rfl, _, rfl, e, C, dy, _, _, rfl, g1, T.cl, T.n1, rf_name, x, rs, j, o, rfl, hpg.keep sm, ok, ho, by omega, fun H2 s2 => ⟨_, _, rfl, some (.ref e), ?_, sm.trans s2⟩⟩
      rw [et, eb, if_pos c, List.map_append, List.foldl_append]
      rfl
    · have c : ¬ o.above = r.name := fun z => c (by rw [z])
      refine ⟨some (.ref e), ?_, sm⟩
      rw [et, eb, if_neg c, List.append_nil]
      rfl
  · rintro σ Hc ⟨z3, rfl, sm⟩
    have hl := paired_len hp
    rw [List.length_map, hl, List.take_length]
    refine ⟨_, rfl, _, rfl, _, rfl, x, dx, _, rfl, sm _ _ hx, pf_none (by decide +kernel) (by decide +kernel), _, rfl, x, R, r.name, rs, i, r, rfl, ⟨dx, vv, sm _ _ hx⟩, RsAt.keepS sm ⟨as, hR, hp⟩, hi, rfl, right_uno ok hi, fun a hat => ?_⟩
    refine ⟨x, a, rs, i, r, rfl, hpg.keep sm, ok, hi, hat, fun H2 s2 => ⟨_, _, rfl, rfl, ?_⟩⟩
    have z := q H2 (sm.trans s2)
    unfold vRight at z
    rw [rt_at ok hi] at z
    exact z
theorem all_lr (T : RoomC K C) (TP : HeldC K D) (mm : mg "max" = none) (MR : Mf P w K mg base D 1 "rooms" ["self"] (spRms D)) (MO : Mf P w K mg base D 1 "room_of" ["self", "name"] (spRO C D)) (LH : Df P w K mg base 47 "_law_home" ["_law_tree", "_law_one"] (spLH C D)) (N : Nd K mg "_law_right" sLR ["_law_tree", "_law_nick"]) :
    ∀ n : Nat, Df P w K mg base (n + 48) "_law_right" ["_law_tree", "_law_nick"] (spLR C D n)
  | 0 => by
    obtain ⟨f, fd, h1, h2, h3⟩ := N
    exact ⟨f, fd, h1, h2.kp, no_lr, h3⟩
  | n + 1 => by
    have G := all_lr T TP mm MR MO LH N n
    obtain ⟨f, fd, h1, h2, h3⟩ := N
    exact ⟨f, fd, h1, h2.kp, ok_lr T TP mm MR MO LH G h2, h3⟩
end
end Any
set_option pp.maxSteps 600
set_option maxHeartbeats 1000000
namespace Any
open L2 PySem PySem.Spec PyProof.Rows LamX
/-! ### several clauses, each with the name n -/
/-- the ends of a suite behind which the name in slot i goes -/
abbrev endsAs (i : Nat) (D : Ends) : Ends := { nx := fun σ H => D.nx (σ.set i none) H, rt := D.rt, bk := fun σ H => D.bk (σ.set i none) H, ct := fun σ H => D.ct (σ.set i none) H }
abbrev Clauses := List (Value × (Addr → Value → Option Addr → TS))
def wManyAs (K : PySem.W.Frag) (i : Nat) (Wout : WX) (D : Ends) : Clauses → WX
  | [] => Wout
  | (c, ts) :: r => fun cls d σ H => ∃ b, PySem.W.exmOne K cls c = some b ∧ (b = true → ∀ a, H a = none → ts a cls d (endsAs i D) (σ.set i (some (.ref a))) H) ∧ (b = false → wManyAs K i Wout D r cls d σ H)
inductive HdsAs (X : Cx) (n : Str) : List ExceptHandler → Clauses → Prop
  | nil : HdsAs X n [] []
  | cons {x : Str} {c : Value} {ts : Addr → Value → Option Addr → TS} {b₀ : Stmt} {suite : List Stmt} {np pos' : Pos} {hds : List ExceptHandler} {l : Clauses} (hc : Names X x c)
      (su : ∀ (a : Addr) (oe : Obj) (cls : Value) (d : Option Addr) (pn : List (Addr × Obj)), Zc cls d oe → (∃ vs, oe.data = .fields vs) → PSs (X.suite a ((a, oe) :: pn)) (b₀ :: suite) (ts a cls d)) (r : HdsAs X n hds l) :
      HdsAs X n (.ExceptHandler (some (.Name x np)) (some n) (b₀ :: suite) pos' :: hds) ((c, ts) :: l)
section
variable {X : Cx} {n : Str} {i : Nat} {body : List Stmt} {h₀ : ExceptHandler} {hds : List ExceptHandler} {l : Clauses} {pos : Pos} {tb : WX → TS} {Wout : WX}
/-- the exception on the ground: the clauses, one behind another -/
theorem clauses_as (hs : X.stack = X.env :: X.outer) (hf : X.env.frame = some X.env.locals) (hN : X.N.Nodup) (hi : X.N[i]? = some n) (hln : X.env.kindOf n = some .local) (tk : Takes X Wout)
    {pins pins' : List (Addr × Obj)} {D : Ends} {a : Addr} {B h3 : Heap} {sI s' : Shared} {σ : L2.St} {H : Hp} {cls : Value} {d : Option Addr} (J0 : Inv X pins' σ H sI) (J : Inv X pins σ H sI)
    (nb : ∀ b o, sI.heap.get? b = some o → b ∉ frs X.stack → B.get? b = some o) (up : sI.heap.UpToSlots h3) (fl3 : HandSPX.FlyingZ B (X.env :: X.outer) a (Zc cls d) h3) (na : H a = none) (os : s'.os = sI.os) (ag : AllBare s'.gens) (nL : a ≠ X.env.locals) (nF : a ∉ X.fs) :
    ∀ {hds : List ExceptHandler} {l : Clauses}, HdsAs X n hds l → wManyAs X.K i Wout D l cls d σ H → wpAny (model X.prog X.w) X.A (handleBy (.ref a) X.env hds) (SP X pins D) X.xe { s' with heap := h3 } := by
  have ok := J.ok
  have J3 : Inv X pins σ H { s' with heap := h3 } := J.landed nb fl3.1 up os ag
  obtain ⟨oe3, vs3, he3, hz3, hd3⟩ := fl3.there
  have S3 := J3.suite he3 hd3 na nL nF
  intro hds l hk
  induction hk with
  | nil =>
    intro w
    refine wpAny_handleBy_nil ?_
    obtain ⟨_, _, _, oe, vs, T, oT, ts', he, hz, hd, h1, hr⟩ := id fl3
    unfold PySem.passOn
    refine wpAny_bind (wpAny_field he hd h1 ?_)
    rw [if_neg (show ¬ ((Value.ref T == Value.none) = true) from by simp)]
    have fin : wpAny (model X.prog X.w) X.A (setFlight (.ref a) X.env.frame) (fun _ s4 => wpAny (model X.prog X.w) X.A (throw (.ref a) : Sem Flow) (SP X pins D) X.xe s4) X.xe { s' with heap := h3 } := by
      rw [hf]
      refine HandSPX.setFlight_upZ fl3 fun h4 hh4 up4 => wpAny_throw (tk _ _ ?_)
      exact ⟨a, B, sI, pins', σ, H, cls, d, rfl, J0, nb, up.trans up4, .inr (.inr (by rw [hs]; exact hh4)), na, os, ag, w⟩
    first
      | exact wpAny_bind (wpAny_pure (wpAny_bind fin))
      | exact wpAny_bind fin
  | @cons x c ts b₀ suite np pos' hds2 l2 hc su r ih =>
    intro w
    obtain ⟨b, hb1, yes, no⟩ := w
    refine wpAny_handleBy_cons (codeAny_handlers_test ?_) (by intro q; cases q)
    have LT : PySem.W.Looks (model X.prog X.w) h3 (typeOf (.ref a)) cls := fun A Q E s k q => wpAny_typeOf_ref (k _ _ he3) (by rw [hz3.1]; exact q)
    have LM := PySem.W.exm_one (M := model X.prog X.w) (J3.kIn) LT hb1
    have test : ∀ {Q : Value → Shared → Prop} {E : Value → Shared → Prop}, Q c { s' with heap := h3 } → wpAny (model X.prog X.w) (X.A.mark (some (.ref a))) (eval (.Name x np) X.env) Q E { s' with heap := h3 } := fun {Q E} q => by
      obtain ⟨hg, hdbg, hm | ⟨hm, hv, hnn⟩⟩ := hc
      · exact ld_glob (X := X.suite a ((a, oe3) :: (X.pn ++ pins))) S3 hg hm q hdbg
      · exact ld_blt (X := X.suite a ((a, oe3) :: (X.pn ++ pins))) S3 hg hm hv q hnn hdbg
    refine test (LM.here ?_)
    cases b with
    | false =>
      show wpAny _ X.A (handleBy (.ref a) X.env hds2) _ _ _
      exact ih (no rfl)
    | true =>
      refine codeAny_handlers_suite_as ?_
      refine HandSPX.lands_againZ fl3 fun h4 fl4 up4 => ?_
      have J4 : Inv X pins σ H { s' with heap := h4 } := J.landed nb fl4.1 (up.trans up4) os ag
      obtain ⟨oe4, vs4, he4, hz4, hd4⟩ := fl4.there
      have S4 := J4.suite he4 hd4 na nL nF
      refine store_ok (X := X.suite a ((a, oe4) :: (X.pn ++ pins))) (v := .ref a) S4 hN hi (.inl hln) rfl (fun s5 S5 => ?_) (.inr hln)
      refine wpAny_mono ((su a oe4 cls d (X.pn ++ pins) hz4 ⟨_, hd4⟩).run [] s5 _ H _ S5 (yes rfl a na)) (fun f s6 hsp => ?_) (fun _ _ z => False.elim z)
      have last : ∀ {σ6 : L2.St} {H6 : Hp} {Q : Shared → Prop}, Inv (X.suite a ((a, oe4) :: (X.pn ++ pins))) [] σ6 H6 s6 → (∀ s7, Inv X pins (σ6.set i none) H6 s7 → Q s7) →
          wpAny (model X.prog X.w) X.A (do bindName X.env n .none; unbindBehindTheSuite X.env n pos') (fun _ s7 => Q s7) X.xe s6 := fun S6 hq => gone_ok (S6.unsuite ok) hN hi hln hq
      cases f with
      | ret u =>
        obtain ⟨v6, σ6, H6, S6, r6, q6⟩ := hsp
        exact last S6 fun s7 J7 => ⟨_, _, _, J7, r6, q6⟩
      | next =>
        obtain ⟨σ6, H6, S6, q6⟩ := hsp
        exact last S6 fun s7 J7 => ⟨_, _, J7, q6⟩
      | brk =>
        obtain ⟨σ6, H6, S6, q6⟩ := hsp
        exact last S6 fun s7 J7 => ⟨_, _, J7, q6⟩
      | cont =>
        obtain ⟨σ6, H6, S6, q6⟩ := hsp
        exact last S6 fun s7 J7 => ⟨_, _, J7, q6⟩
theorem ps_try_manyAs (hs : X.stack = X.env :: X.outer) (hf : X.env.frame = some X.env.locals) (hN : X.N.Nodup) (hi : X.N[i]? = some n) (hln : X.env.kindOf n = some .local) (tk : Takes X Wout)
    (hb : ∀ (W : WX) (pn : List (Addr × Obj)) (xe : Value → Shared → Prop), Takes (X.tr pn xe) W → PassesOwn (model X.prog X.w) X.A X.env xe → PSs (X.tr pn xe) body (tb W))
    (hh : HdsAs X n (h₀ :: hds) l) : PS X (.Try body (h₀ :: hds) [] [] pos) (fun D σ H => tb (wManyAs X.K i Wout D l) D σ H) := by
  refine ⟨fun pins s σ H D I h => ?_⟩
  have ok := I.ok
  have hfr : X.A.frames = some (X.env :: X.outer) := by rw [ok.frames, hs]
  refine wpAny_Try_except ?_
  refine wpAny_mono ((hb (wManyAs X.K i Wout D l) (X.pn ++ pins) (fun e s₁ => wpAny (model X.prog X.w) X.A (noteFrame e X.env) (fun _ s₂ => wpAny (model X.prog X.w) X.A (setFlight e none) (fun _ s₃ =>
    wpAny (model X.prog X.w) X.A (handleBy e X.env (h₀ :: hds)) (SP X pins D) X.xe s₃) X.xe s₂) X.xe s₁) (fun u s' xx => ?_) PassesOwn.looking).run [] s σ H D (I.toTry _) h) (fun f s1 hsp => ?_) (fun e s1 he => he)
  · obtain ⟨a, B, sI, pins', σ', H', cls, d, rfl, J', nb, up, sky, na, os, ag, w⟩ := xx
    have J : Inv X pins σ' H' sI := J'.ofTry ok
    show wpAny (model X.prog X.w) X.A (noteFrame (.ref a) X.env) _ _ _
    refine Sky.land Zc.steady hfr hf (by rw [← hs]; exact sky) fun h3 fl3 up3 => ?_
    obtain ⟨oe3, vs3, he3, hz3, hd3⟩ := fl3.there
    have nfr : a ∉ frs (X.env :: X.outer) := fun hm => by
      obtain ⟨_, o', e', hnf⟩ := fl3.2.2.1.mem hm
      rw [he3] at e'; cases e'
      exact hnf _ hd3
    have nL : a ≠ X.env.locals := fun z => nfr (List.mem_filterMap.mpr ⟨X.env, List.mem_cons_self, by rw [hf, z]⟩)
    have nF : a ∉ X.fs := fun hm => by
      obtain ⟨e, he, q⟩ := List.mem_filterMap.mp hm
      exact nfr (List.mem_filterMap.mpr ⟨e, List.mem_cons_of_mem _ he, q⟩)
    exact clauses_as hs hf hN hi hln tk J J nb (up.trans up3) fl3 na os ag nL nF hh w
  · cases f with
    | ret u =>
      obtain ⟨v, σ', H', J', r, q⟩ := hsp
      exact ⟨v, σ', H', J'.ofTry ok, r, q⟩
    | next =>
      obtain ⟨σ', H', J', q⟩ := hsp
      exact wpAny_execs_nil ⟨σ', H', J'.ofTry ok, q⟩
    | brk =>
      obtain ⟨σ', H', J', q⟩ := hsp
      exact ⟨σ', H', J'.ofTry ok, q⟩
    | cont =>
      obtain ⟨σ', H', J', q⟩ := hsp
      exact ⟨σ', H', J'.ofTry ok, q⟩
end
end Any
set_option pp.maxSteps 600
set_option maxHeartbeats 1000000
namespace Any
open L2 PySem PySem.Spec PyProof.Rows LamX NdefX
/-! ### a lambda that is handed down -/
/-- who got the lambda at f may ask it: fs, s, H are those of the call that got it; tl: what it tells -/
structure Asked (P : Program) (w : World) (K : PySem.W.Frag) (mg : Str → Option Value) (base : Heap) (fs : List Addr) (s : Shared) (H : Hp) (f c' : Addr) (q : Str) (j : Nat) (tl : XK → Hp → VK → Prop) : Prop where
  at_ : ∀ (s1 : Shared) (HZ : Hp), Un fs [] H HZ s.heap s1.heap → PySem.W.FnAt f s1.heap
  run : ∀ (A : Around) (outer : List Env) (s1 : Shared) (HZ : Hp) (Q : VK) (E : XK), A.guards = some [] → Room j A → Env0 P w K mg base A outer s1 HZ → Un fs [] H HZ s.heap s1.heap → HZ c' = some (CodeO c' q) → tl E HZ Q →
    codeAny (model P w) A (.call (.ref f) ⟨[], []⟩) (CR (L2.CX P w) outer P w HZ s1 Q E) s1
/-- a def that gets a lambda, and asks it -/
def DfL (P : Program) (w : World) (K : PySem.W.Frag) (mg : Str → Option Value) (base : Heap) (j : Nat) (x : Str) (TT : (XK → Hp → VK → Prop) → List V → Hp → VK → Prop) : Prop :=
  ∃ g, mg x = some (.ref g) ∧ PySem.W.keepIn K (.ref g) = true ∧ ∀ (A : Around) (outer : List Env) (s : Shared) (H : Hp) (f c' : Addr) (q : Str) (us : List Value) (vs : List V) (Q : VK) (tl : XK → Hp → VK → Prop), A.guards = some [] → Room (j + 1) A →
    Env0 P w K mg base A outer s H → Asked P w K mg base (frs outer) s H f c' q j tl → H c' = some (CodeO c' q) → Vals vs us → TT tl vs H Q → codeAny (model P w) A (.call (.ref g) ⟨.ref f :: us, []⟩) (CR CX0 outer P w H s Q E0) s
section
variable {Z : Cx} {fs : List Addr} {s : Shared} {H : Hp} {f c' : Addr} {q x : Str} {j i : Nat} {tl : XK → Hp → VK → Prop} {E : XK} {p1 p2 : Pos}
/-- x(), x being what was got -/
theorem pe_ask (a : Asked Z.prog Z.w Z.K Z.mg Z.base fs s H f c' q j tl) (u : ∀ {pins : List (Addr × Obj)} {σ : L2.St} {H' : Hp} {s' : Shared}, Inv Z pins σ H' s' → Un fs [] H H' s.heap s'.heap) (hG : Z.A.guards = some []) (hr : Room j Z.A) (hx : Passes (L2.CX Z.prog Z.w) Z E)
    (hN : Z.N[i]? = some x) (hv : Vis Z.env.scope x) (hd : (x == ("__debug__" : Str)) = false := by decide) (hcd : (x == ("__classdict__" : Str)) = false := by decide) :
    PE Z (.Call (.Name x p1) [] [] p2) (fun σZ HZ Q => σZ[i]? = some (some (.ref f)) ∧ HZ c' = some (CodeO c' q) ∧ tl E HZ Q) := by
  refine ⟨fun pinsZ sZ σZ HZ Q IZ h => ?_⟩
  obtain ⟨hs, hc, ht⟩ := h
  refine wpAny_Call_Name_kw (thn ((pe_var (pos := p1) (i := i) hN hv hd hcd).run pinsZ sZ σZ HZ (fun v H1 => v = .ref f ∧ H1 = HZ) IZ ⟨.ref f, hs, rfl, rfl⟩) fun v0 s1 ⟨v, H1, I1, r1, q1⟩ => ?_)
  obtain ⟨ev, eH⟩ := q1
  subst ev
  rw [eH] at I1
  obtain rfl : v0 = Value.ref f := r1
  refine PySem.W.callWith_F0 (a.at_ _ _ (u I1)) ?_
  refine wpAny_call (codeAny_mono (a.run Z.A Z.stack s1 HZ Q E hG hr I1.env0 (u I1) hc ht) fun r s' hq => ?_)
  cases r with
  | error e => exact hx pinsZ σZ HZ s1 e s' I1 hq
  | ok fl =>
    cases fl with
    | ret v => exact I1.after hq
    | next => exact False.elim hq
    | brk => exact False.elim hq
    | cont => exact False.elim hq
end
section
variable {X : Cx} {pins : List (Addr × Obj)} {σ : L2.St} {H : Hp} {s : Shared} {f c' : Addr} {params : Arguments} {body : Expr} {scope : Scope} {m : Nat} {t : XK → TE} {pm ctv : Value}
theorem asked_of (I : Inv X pins σ H s) (L : LamS X.env.scope scope) (hf : s.heap.get? f = some (PySem.W.kla_obj "<lambda>" (X.env.qual ++ "<lambda>") params body scope (cloFrom X.env.cells scope.names []) pm c' ctv)) (hfn : H f = none) (hfr : f ∉ frs X.stack)
    (hbind : bindArgs (PySem.W.kla_fn "<lambda>" (X.env.qual ++ "<lambda>") params body scope (cloFrom X.env.cells scope.names []) pm (.ref c') ctv) ⟨[], []⟩ = pure [])
    (hbody : ∀ (A : Around) (outer : List Env) (s : Shared) (H : Hp) (E : XK), A.guards = some [] → Room m (A.deeper (lamEnv X scope s.heap.objs.size f c')) → PE (lamCx X A outer s H E scope f c') body (t E)) :
    Asked X.prog X.w X.K X.mg X.base (frs X.stack) s H f c' (X.env.qual ++ "<lambda>") (m + 1) (fun E H' Q' => t E σ H' Q') := by
  have of1 : ∀ (s1 : Shared) (HZ : Hp), Un (frs X.stack) [] H HZ s.heap s1.heap → s1.heap.get? f = some (PySem.W.kla_obj "<lambda>" (X.env.qual ++ "<lambda>") params body scope (cloFrom X.env.cells scope.names []) pm c' ctv) := fun s1 HZ un =>
    un.keep f _ hf hfn hfr (by simp)
  refine ⟨fun s1 HZ un => ⟨_, _, _, _, of1 s1 HZ un⟩, fun A outer s1 HZ Q E hG hr e0 un hc ht => ?_⟩
  have lim : s1.heap.NoLimit := e0.mod.nolimit.keeps fun b o e => (e0.bs b o e).1
  refine PySem.W.kla_callFunE hr.depth (of1 s1 HZ un) rfl L.co L.gen rfl (codeO_at e0.hok hc) ?_
  rw [hbind]
  refine wpAny_pure (wpAny_newFunctionEnv (fun y hy => (L.own y hy).2) (fun y hy => absurd hy (by simp)) (fun h₁ hns hsb => ⟨lim.fresh _ hsb, ?_⟩) L.kind)
  show codeAny _ _ (.expr body (lamEnv X scope s1.heap.objs.size f c')) _ _
  have kp : ∀ b o, s1.heap.get? b = some o → h₁.get? b = some o := fun b o e => hsb.extBut b o (Nat.ne_of_lt (Heap.lt_size e)) (Heap.get?_push_of_some _ e)
  have J : Inv (lamCx X A outer s1 HZ E scope f c') [] σ HZ { s1 with heap := h₁, toks := s1.toks + ([] : List (Str × Value)).length } := lam_start2 I L e0 hr.hd un hns kp
  refine PySem.W.kla_codeExpr (wpAny_mono ((hbody A outer s1 HZ E hG (hr.deeper _)).run [] _ _ HZ Q J ht) (fun v s' hq => ?_) fun e s' hq => hq)
  obtain ⟨w', H', J', rv, q⟩ := hq
  exact ⟨w', H', J'.os, J'.bare, J'.base, J'.hok, rv, q⟩
end
/-- the reading of x(lambda: .., es) -/
def tLamG (T : List (Addr × Str)) (q : Str) (TT : (XK → Hp → VK → Prop) → List V → Hp → VK → Prop) (t : XK → TE) (ta : TA) : TE := fun σ H Q => Tabs T H ∧ ∀ (c' : Addr) (H1 : Hp), ExtN H H1 → Tabs T H1 → H1 c' = some (CodeO c' q) →
  ta σ H1 fun vs H2 => H2 c' = some (CodeO c' q) ∧ TT (fun E H' Q' => t E σ H' Q') vs H2 Q
theorem pe_lamG {X : Cx} {T : List (Addr × Str)} {TT : (XK → Hp → VK → Prop) → List V → Hp → VK → Prop} {x : Str} {c P : Addr} {m : Nat} {params : Arguments} {body : Expr} {scope : Scope} {t : XK → TE} {ta : TA} {es : List Expr} {p lpos pos : Pos}
    (D : DfL X.prog X.w X.K X.mg X.base (m + 1) x TT) (hG : X.A.guards = some []) (hr : Room (m + 2) X.A) (hg : Gl X x) (TB : TabB X.base X.mg c P) (hcode : X.env.code = .ref c) (hmT : (P, X.env.qual ++ "<lambda>") ∈ T) (hu : ∀ p ∈ T, p.1 = P → p.2 = X.env.qual ++ "<lambda>")
    (L : LamS X.env.scope scope) (hdef : defaultsOf params X.env = ([], [])) (hbind : ∀ (q : Str) (cl : List (Str × Addr)) (pm cv ctv : Value), bindArgs (PySem.W.kla_fn "<lambda>" q params body scope cl pm cv ctv) ⟨[], []⟩ = pure [])
    (hbody : ∀ (A : Around) (outer : List Env) (s : Shared) (H : Hp) (E : XK) (f c' : Addr), A.guards = some [] → Room m (A.deeper (lamEnv X scope s.heap.objs.size f c')) → PE (lamCx X A outer s H E scope f c') body (t E)) (ha : PA X es ta)
    (hdb : (x == ("__debug__" : Str)) = false := by decide) (hst : starEach (.Lambda params body scope lpos :: es) X.env = (false, eval (.Lambda params body scope lpos) X.env) :: starEach es X.env := by rfl) (hpl : (backTo pos (starEach es X.env)).any (·.1) = false := by rfl) :
    PE X (.Call (.Name x p) (.Lambda params body scope lpos :: es) [] pos) (tLamG T (X.env.qual ++ "<lambda>") TT t ta) := by
  refine ⟨fun pins s σ H Q I h => ?_⟩
  obtain ⟨hT, h⟩ := h
  obtain ⟨g, hm, hk, F⟩ := D
  refine wpAny_Call_Name_kw (ld_glob I hg hm ?_ hdb)
  refine PySem.W.callWith_K (h₀ := X.base) I.ok.mod.kin hk ?_ hst hpl
  rw [hst]
  show wpAny _ _ (spliced ((false, eval (.Lambda params body scope lpos) X.env) :: backTo pos (starEach es X.env))) _ _ s
  refine Calls.spliced_cons (lam_make2 I TB hcode hmT hu hT hdef (L.has I.ok) fun f c' pm' ctv H1 s' I1 eN T1 hf hfn hfr hco => ?_)
  have nL : f ≠ X.env.locals := fun z => by
    obtain ⟨_, ⟨o, es, ep, ho, hd, _⟩, _⟩ := I1.loc
    rw [← z, hf] at ho
    cases ho
    cases hd
  have nF : f ∉ X.fs := fun z => by
    obtain ⟨_, o, ho, hd⟩ := I1.funs.mem z
    rw [hf] at ho
    exact hfr (by
      rcases I1.ok.stk with e | ⟨e, _⟩
      · rw [e]; exact z
      · rw [e]
        obtain ⟨v, hv, hv2⟩ := List.mem_filterMap.mp z
        exact List.mem_filterMap.mpr ⟨v, List.mem_cons_of_mem _ hv, hv2⟩)
  have J1 : Inv X ((f, PySem.W.kla_obj "<lambda>" (X.env.qual ++ "<lambda>") params body scope (cloFrom X.env.cells scope.names []) pm' c' ctv) :: pins) σ H1 s' := by
    refine I1.pins_of fun p hp => ?_
    rcases List.mem_cons.mp hp with rfl | hp
    · exact ⟨hf, hfn, nL, nF, fun v z => by cases z⟩
    · exact I1.pin p (List.mem_append_right _ hp)
  refine thn (ha.run pos _ s' σ H1 _ J1 (h c' H1 eN T1 hco)) fun us s2 ⟨vs, H2, J2, rv, hc2, ht⟩ => ?_
  have I2 : Inv X pins σ H2 s2 := J2.pins_of fun p hp => J2.pin p (List.mem_append_right _ (List.mem_cons_of_mem _ hp))
  obtain ⟨hf2, hn2, _⟩ := J2.pin (f, _) (List.mem_append_right _ List.mem_cons_self)
  refine ⟨I2.kIn, ?_⟩
  show wpAny _ _ (call (.ref g) (.ref f :: us)) _ _ _
  have ask := asked_of (t := t) I2 L hf2 hn2 hfr (hbind _ _ _ _ _) fun A outer s H E hG hr => hbody A outer s H E f c' hG hr
  refine wpAny_call (codeAny_mono (F X.A X.stack s2 H2 f c' _ us vs Q _ hG hr I2.env0 ask hc2 rv ht) fun r s3 hq => ?_)
  cases r with
  | error e => exact False.elim hq
  | ok fl =>
    cases fl with
    | ret u => exact I2.after hq
    | next => exact False.elim hq
    | brk => exact False.elim hq
    | cont => exact False.elim hq
end Any
set_option pp.maxSteps 600
set_option maxHeartbeats 1000000
namespace Any
open L2 PySem PySem.Spec PyProof.Rows LamX NdefX
/-! ### isinstance of a caught exception -/
section
variable {X : Cx} {a D : Addr} {oe : Obj} {cls : Value} {d : Option Addr} {pn : List (Addr × Obj)}
/-- the class, and the dict if it has one, of what was caught -/
def Held (cls : Value) (d : Option Addr) (D : Addr) (H : Hp) : Prop := cls = .ref D ∧ (d = none ∨ ∃ (b : Addr) (fs : List (Str × V)), d = some b ∧ H b = some (.xd fs))
theorem held_kit (C : ExcC X.K D) (hz : Zc cls d oe) (hf : ∃ vs, oe.data = .fields vs) {pins : List (Addr × Obj)} {σ : L2.St} {H : Hp} {s : Shared} (I : Inv (X.suite a ((a, oe) :: pn)) pins σ H s) (h : Held cls d D H) :
    ∃ Pr : Heap → Prop, PySem.W.KitX X.K (.ref a) (.ref D) Pr ∧ Pr s.heap := by
  obtain ⟨rfl, h⟩ := h
  have at_ := (I.pin (a, oe) (List.mem_append_left _ List.mem_cons_self)).1
  obtain ⟨vs, ev⟩ := hf
  have hcl : (PySem.W.clsIn X.K D).isSome = true := by
    obtain ⟨cd, hc, _⟩ := PySem.W.any_some C.hd
    rw [hc]
    rfl
  rcases h with rfl | ⟨b, fs, rfl, hb⟩
  · refine ⟨_, PySem.W.kitx_exc (ox := oe) (od := none) hcl C.hg C.hk C.hs C.ha C.hn C.ht C.hm, at_, hz.1, ?_, ?_⟩
    · unfold PySem.W.notCls
      rw [ev]
    · rw [hz.2]
      trivial
  · obtain ⟨mA, ns, _⟩ := (show ObjOk X.prog X.w H s.heap b (.xd fs) from I.hok b _ hb)
    obtain ⟨od, ho, _⟩ := lookIn_ns ns
    refine ⟨_, PySem.W.kitx_exc (ox := oe) (od := some od) hcl C.hg C.hk C.hs C.ha C.hn C.ht C.hm, at_, hz.1, ?_, ?_⟩
    · unfold PySem.W.notCls
      rw [ev]
    · rw [hz.2]
      exact ho
theorem call_isX1 (C : ExcC X.K D) (hz : Zc cls d oe) (hf : ∃ vs, oe.data = .fields vs) : CallR (X.suite a ((a, oe) :: pn)) (.builtin "isinstance")
    (fun xs H Q => ∃ (c : V) (u : Value) (b : Bool), xs = [.ref a, c] ∧ Held cls d D H ∧ ClsV c u ∧ PySem.W.kitOne X.K (.ref D) u = some b ∧ Q (.bl b) H) := by
  intro pins s σ H xs us Q I r h
  obtain ⟨c, u, b, rfl, hh, cv, e, q⟩ := h
  obtain ⟨u1, u2, rfl, r1, r2⟩ := vals2 r
  obtain rfl := cv.eq r2
  cases r1
  obtain ⟨Pr, Z, z⟩ := held_kit C hz hf I hh
  exact PySem.W.kia_one Z I.kIn z e (fun z => nomatch z) fun tk => ⟨.bl b, H, I.tok tk, rfl, q⟩
theorem call_isXT (C : ExcC X.K D) (hz : Zc cls d oe) (hf : ∃ vs, oe.data = .fields vs) : CallR (X.suite a ((a, oe) :: pn)) (.builtin "isinstance")
    (fun xs H Q => ∃ (tp : Addr) (cs : List V) (us : List Value) (b : Bool), xs = [.ref a, .ref tp] ∧ Held cls d D H ∧ H tp = some (.tup cs) ∧ Paired ClsV cs us ∧ PySem.W.kitAny X.K (.ref D) us = some b ∧ Q (.bl b) H) := by
  intro pins s σ H xs us Q I r h
  obtain ⟨tp, cs, ws, b, rfl, hh, ht, pc, e, q⟩ := h
  obtain ⟨u1, u2, rfl, r1, r2⟩ := vals2 r
  cases r1
  cases r2
  obtain ⟨Pr, Z, z⟩ := held_kit C hz hf I hh
  obtain ⟨_, its, rv, ot, g1, g2, n, g3⟩ := (show ObjOk X.prog X.w H s.heap tp (.tup cs) from I.hok tp _ ht)
  obtain rfl := ClsV.all pc rv
  obtain ⟨tc, td, tdat, tsl⟩ := ot
  simp only at g2 g3
  subst g2 g3
  exact PySem.W.kia_tup Z I.kIn z g1 e (fun z => nomatch z) fun tk => ⟨.bl b, H, I.tok tk, rfl, q⟩
end
/-- a reading, for a weaker wish -/
theorem pe_weak {X : Cx} {e : Expr} {t : TE} (h : PE X e t) : PE X e (fun σ H Q => ∃ Q1 : VK, t σ H Q1 ∧ ∀ v H', Q1 v H' → Q v H') := by
  refine ⟨fun pins s σ H Q I hq => ?_⟩
  obtain ⟨Q1, h1, h2⟩ := hq
  exact thn (h.run pins s σ H Q1 I h1) fun u s1 ⟨v, H1, I1, r1, q1⟩ => ⟨v, H1, I1, r1, h2 v H1 q1⟩
/-! ### repr of a thing whose text is not long -/
section
variable {X : Cx}
def rReprX (K : PySem.W.Frag) : List V → Hp → VK → Prop := fun vs H Q => ∃ v z, vs = [v] ∧ Shown K H v z ∧ z.length ≤ 2000 ∧ Q (.str z) H
theorem call_reprX (hG : X.A.guards = some []) (hu : X.A.units + 70 < cLine) : CallR X (.builtin "repr") (rReprX X.K) := by
  intro pins s σ H xs us Q I r h
  obtain ⟨v, z, rfl, hs, hz, q⟩ := h
  have e : sizeLine = 16777216 := sizeLine_eq
  obtain ⟨u, rfl, ru⟩ := vals1 r
  cases hs with
  | str y =>
    obtain ⟨t, rfl⟩ := ru
    exact PySem.P.repr_of_str ⟨.str _, H, I.tok _, ⟨_, rfl⟩, q⟩ (by omega)
  | int i hi =>
    obtain ⟨t, rfl⟩ := ru
    exact PySem.P.repr_of_int hi ⟨.str _, H, I.tok _, ⟨_, rfl⟩, q⟩
  | bl b =>
    cases ru
    exact PySem.P.repr_of_bool ⟨.str _, H, I.tok _, ⟨_, rfl⟩, q⟩
  | non =>
    cases ru
    exact PySem.P.repr_of_none ⟨.str _, H, I.tok _, ⟨_, rfl⟩, q⟩
  | dat h h1 h2 =>
    cases ru
    obtain ⟨as, rd, sm⟩ := shows_reads I h
    refine repr_of_reads' rd h1 sm hG (by omega) (fun _ _ e => e) (fun h' u tk hk => ?_) (by omega)
    exact ⟨.str _, H, I.kept hk, ⟨_, rfl⟩, q⟩
end
/-- x(), x being what was got, where what passes may look at the slots -/
theorem pe_askW {Z : Cx} {fs : List Addr} {s : Shared} {H : Hp} {f c' : Addr} {q x : Str} {j i : Nat} {tl : XK → Hp → VK → Prop} {p1 p2 : Pos} (a : Asked Z.prog Z.w Z.K Z.mg Z.base fs s H f c' q j tl) (u : ∀ {pins : List (Addr × Obj)} {σ : L2.St} {H' : Hp} {s' : Shared}, Inv Z pins σ H' s' → Un fs [] H H' s.heap s'.heap) (hG : Z.A.guards = some []) (hr : Room j Z.A)
    (hN : Z.N[i]? = some x) (hv : Vis Z.env.scope x) (hd : (x == ("__debug__" : Str)) = false := by decide) (hcd : (x == ("__classdict__" : Str)) = false := by decide) :
    PE Z (.Call (.Name x p1) [] [] p2) (fun σZ HZ Q => σZ[i]? = some (some (.ref f)) ∧ HZ c' = some (CodeO c' q) ∧ ∃ E : XK, PassesAt (L2.CX Z.prog Z.w) Z σZ E ∧ tl E HZ Q) := by
  refine ⟨fun pinsZ sZ σZ HZ Q IZ h => ?_⟩
  obtain ⟨hs, hc, E, hx, ht⟩ := h
  refine wpAny_Call_Name_kw (thn ((pe_var (pos := p1) (i := i) hN hv hd hcd).run pinsZ sZ σZ HZ (fun v H1 => v = .ref f ∧ H1 = HZ) IZ ⟨.ref f, hs, rfl, rfl⟩) fun v0 s1 ⟨v, H1, I1, r1, q1⟩ => ?_)
  obtain ⟨ev, eH⟩ := q1
  subst ev
  rw [eH] at I1
  obtain rfl : v0 = Value.ref f := r1
  refine PySem.W.callWith_F0 (a.at_ _ _ (u I1)) ?_
  refine wpAny_call (codeAny_mono (a.run Z.A Z.stack s1 HZ Q E hG hr I1.env0 (u I1) hc ht) fun r s' hq => ?_)
  cases r with
  | error e => exact hx pinsZ HZ s1 e s' I1 hq
  | ok fl =>
    cases fl with
    | ret v => exact I1.after hq
    | next => exact False.elim hq
    | brk => exact False.elim hq
    | cont => exact False.elim hq
/-! ### _law_refused -/
abbrev sRf : Stmt := top 92
abbrev nmRf : List Str := ["_law_deed", "_law_thing", "e"]
abbrev psRf : List Str := ["_law_deed", "_law_thing"]
theorem scRf : FnScope nmRf psRf (defScope sRf) := ⟨rfl, rfl, rfl, by decide +kernel, rfl, by decide +kernel, by decide +kernel⟩
/-- what is known of the classes that it names -/
structure RfC (K : PySem.W.Frag) (mg : Str → Option Value) (CN CM CP CW : Addr) : Prop where
  nr : NoRoomC K mg CN
  mM : mg "NoName" = some (.ref CM)
  mP : mg "NoProgram" = some (.ref CP)
  mW : mg "NoWord" = some (.ref CW)
  mK : mg "KeyError" = none
  mI : mg "IndexError" = none
  mR : mg "repr" = none
  no5 : PySem.W.kitAny K (.ref CN) [.ref CM, .ref CP, .ref CW, .type "KeyError", .type "IndexError"] = some false
/-- what a right refusal is -/
def RfE (CN : Addr) (H : Hp) (v : V) : XK := fun cls d H' => cls = .ref CN ∧ ∃ b, d = some b ∧ H' b = some (.xd [("name", v)]) ∧ Same H H'
def TTrf (K : PySem.W.Frag) (CN : Addr) : (XK → Hp → VK → Prop) → List V → Hp → VK → Prop := fun tl vs H Q => ∃ v, vs = [v] ∧ (∀ H', Same H H' → Small K H' v) ∧ (∀ H', Same H H' → Q (.bl true) H') ∧ tl (RfE CN H v) H (fun _ _ => False)
section
variable {P : Program} {w : World} {K : PySem.W.Frag} {mg : Str → Option Value} {base : Heap} {f CN CM CP CW : Addr} {fd : FuncData}
theorem ok_rf (O : Own mg) (R : RfC K mg CN CM CP CW) (m : mg "_law_refused" = some (.ref f)) (F : Fun K "_law_refused" "_law_refused" sRf f fd) (hB : Binds K fd psRf []) (j : Nat) : DfL P w K mg base j "_law_refused" (TTrf K CN) := by
  refine ⟨f, m, F.kp, ?_⟩
  intro A outer s H fl c' q us vs Q tl hG hr e0 ask hc rv h
  obtain ⟨v, rfl, hsm, q1, h⟩ := h
  obtain ⟨u0, rfl, ru⟩ := vals1 rv
  obtain ⟨_, _, _, _, _, _, cv, _, _, rfl, lk, hcd⟩ := F.ex
  refine run_ofS (N := nmRf) (ps := psRf) (us := [.ref fl, u0]) (vs := [.ref fl, v]) (CX := CX0) (E := E0) lk hcd scRf hr e0 (hB s [.ref fl, u0] (e0.mod.kin.keeps fun b o z => (e0.bs b o z).1) rfl) (.cons rfl (.cons ru .nil)) rfl fun hr' => ?_
  let X := (cxOf CX0 P w K mg base nmRf "_law_refused" (defScope sRf) f cv A outer s H E0).nox
  have hu : X.A.units + 70 < cLine := by have := hr'.un; show (A.deeper _).units + 70 < cLine; omega
  have hGX : X.A.guards = some [] := hG
  refine ⟨_, PSs.nox (pss_cons (ps_try_manyAs (X := X) (n := "e") (i := 2) (tb := fun W D σ H => ∃ Ech : XK, (∀ cls d H', Ech cls d H' → W cls d σ H') ∧ ∃ Q1 : VK, (σ[0]? = some (some (V.ref fl)) ∧ H c' = some (CodeO c' q) ∧ tl Ech H Q1) ∧ ∀ v H', Q1 v H' → D.nx σ H')
      rfl rfl scRf.nd rfl rfl LamX.takes0
      (fun W pn xe tk _ => ⟨fun pins s' σ H' D I ⟨Ech, hW, Q1, ⟨e1, e2, e3⟩, h'⟩ => (pss_one (ps_expr (pe_weak (pe_askW (Z := X.tr pn xe) (i := 0) ask (fun I => I.base) hG hr' rfl (.inl rfl))))).run pins s' σ H' D I
          (show tDrop _ D σ H' from ⟨Q1, ⟨e1, e2, Ech, fun pins H s e s' I c => tk e s' (XE.of_call I (fun cls d H' h => hW cls d H' h) c), e3⟩, h'⟩)⟩)
      (.cons (c := .ref CN) ⟨rfl, by decide, .inl R.nr.mN⟩ (fun a oe cls d pn hz hf =>
        pss_cons (ps_if (PW.pt (pw_or (pt_not (pt_val (pe_callB (call_isX1 R.nr.ex hz hf) rfl O.isi (by decide +kernel) (pa_cons (pv 2) (pa_cons (pe_bltn (v := .ty "LookupError") rfl R.nr.mL (by decide +kernel) rfl) pa_nil)))))
            (pw_or1 (pt_val (pe_callB (call_isXT R.nr.ex hz hf) rfl O.isi (by decide +kernel) (pa_cons (pv 2) (pa_cons (pe_tup (pa_cons (pe_glob (v := .ref CM) rfl R.mM rfl) (pa_cons (pe_glob (v := .ref CP) rfl R.mP rfl) (pa_cons (pe_glob (v := .ref CW) rfl R.mW rfl)
              (pa_cons (pe_bltn (v := .ty "KeyError") rfl R.mK (by decide +kernel) rfl) (pa_cons (pe_bltn (v := .ty "IndexError") rfl R.mI (by decide +kernel) rfl) pa_nil)))))) pa_nil))))))) (pss_one (ps_ret pe_bl)) pss_nil)
        (pss_one (ps_ret (pe_cmpR op_eq (pe_callB (show CallR (X.suite a ((a, oe) :: pn)) (.builtin "repr") (rReprX K) from call_reprX (X := X.suite a ((a, oe) :: pn)) hGX hu) rfl R.mR (by decide +kernel) (pa_cons (pe_xf R.nr.xf R.nr.no hz hf (pv 2)) pa_nil)) (pe_callB (show CallR (X.suite a ((a, oe) :: pn)) (.builtin "repr") (rReprX K) from call_reprX (X := X.suite a ((a, oe) :: pn)) hGX hu) rfl R.mR (by decide +kernel) (pa_cons (pv 1) pa_nil)) (nomark _))))) .nil))
    (pss_one (ps_ret pe_bl))), ?_⟩
  refine ⟨RfE CN H v, fun cls d H' hE => ?_, _, ⟨rfl, hc, h⟩, fun v H' h' => h'.elim⟩
  obtain ⟨rfl, b, rfl, hb, sm⟩ := hE
  refine ⟨true, R.nr.me, fun _ a ha => ?_, fun z => nomatch z⟩
  refine ⟨_, rfl, _, _, true, rfl, ⟨rfl, .inr ⟨b, _, rfl, hb⟩⟩, .ty "LookupError", R.nr.le, _, rfl, itF rfl ?_⟩
  refine ⟨_, rfl, (by show 5 ≤ sizeLine; decide), fun p hp => ?_⟩
  have s1 := same_new hp (.tup [.ref CM, .ref CP, .ref CW, .ty "KeyError", .ty "IndexError"])
  refine ⟨p, _, _, false, rfl, ⟨rfl, .inr ⟨b, _, rfl, s1 _ _ hb⟩⟩, upd_same, .cons (.own CM) (.cons (.own CP) (.cons (.own CW) (.cons (.ty "KeyError") (.cons (.ty "IndexError") .nil)))), R.no5, _, rfl, itF rfl ?_⟩
  obtain ⟨z, hz1, hz2⟩ := hsm _ (sm.trans s1)
  refine ⟨_, rfl, rfl, rfl, b, _, _, rfl, s1 _ _ hb, lk_hit, v, z, rfl, hz1, hz2, _, rfl, v, z, rfl, hz1, hz2, rfl, ?_⟩
  rw [decide_eq_true (rfl : V.str z = V.str z)]
  exact q1 _ (sm.trans s1)
end
end Any
set_option pp.maxSteps 600
set_option maxHeartbeats 1000000
namespace Any
open L2 PySem PySem.Spec PyProof.Rows LamX NdefX
/-! ### a lambda that is handed down, where there are other tables too -/
section
variable {X : Cx} {pins : List (Addr × Obj)} {σ : L2.St} {H : Hp} {s : Shared}
theorem lam_make3 {T : List NTab} {nm : Nat → Nat → Str} {c P : Addr} {ar : Arguments} {bd : Expr} {sc : Scope} {pos : Pos} {E : Value → Shared → Prop} {Q : Value → Shared → Prop} (I : Inv X pins σ H s) (base : TabB X.base X.mg c P) (mine : X.env.code = .ref c)
    (listed : (P, nm) ∈ T) (named : nm pos.line pos.col = X.env.qual ++ "<lambda>") (uni : ∀ p ∈ T, p.1 = P → p.2 = nm) (all : TabsN T H) (nod : defaultsOf ar X.env = ([], [])) (capt : ∀ y ∈ sc.names, y.2 = .free → ∃ c, X.env.cells.lookup y.1 = some c)
    (go : ∀ (f c' : Addr) (pm ctv : Value) (H1 : Hp) (s' : Shared), Inv X pins σ H1 s' → Gr T H H1 → s'.heap.get? f = some (PySem.W.kla_obj "<lambda>" (X.env.qual ++ "<lambda>") ar bd sc (cloFrom X.env.cells sc.names []) pm c' ctv) → H1 f = none → f ∉ frs X.stack → H1 c' = some (CodeO c' (X.env.qual ++ "<lambda>")) → Q (.ref f) s') :
    wpAny (model X.prog X.w) X.A (eval (.Lambda ar bd sc pos) X.env) Q E s := by
  obtain ⟨ps, at_, tri, told⟩ := (show TabN H P nm from all _ listed)
  have raw : s.heap.get? P = some { cls := .none, data := .fields ps } := I.hok P _ at_
  have glob := I.mod.glob.keeps I.bk
  have nofr : ∀ f, s.heap.objs.size ≤ f → f ∉ frs X.stack := fun f hf z => by
    rcases List.mem_cons.mp (I.stkSub _ z) with e | e
    · have h1 := I.lt
      rw [← e] at h1
      exact Nat.lt_irrefl _ (Nat.lt_of_lt_of_le h1 hf)
    · exact I.nofs hf e
  have last : ∀ (H1 : Hp) (s1 : Shared) (c' : Addr) (ctv : Value) (tk : Nat), Inv X pins σ H1 s1 → Gr T H H1 → s.heap.objs.size ≤ s1.heap.objs.size → H1 c' = some (CodeO c' (X.env.qual ++ "<lambda>")) →
      Q (.ref s1.heap.objs.size) { s1 with heap := s1.heap.push (PySem.W.kla_obj "<lambda>" (X.env.qual ++ "<lambda>") ar bd sc (cloFrom X.env.cells sc.names []) ((X.mg "__name__").getD .none) c' ctv), toks := tk } := fun H1 s1 c' ctv tk J g hsz x4 => by
    have J2 : Inv X pins σ H1 { s1 with heap := s1.heap.push (PySem.W.kla_obj "<lambda>" (X.env.qual ++ "<lambda>") ar bd sc (cloFrom X.env.cells sc.names []) ((X.mg "__name__").getD .none) c' ctv), toks := tk } := J.kept (t' := tk) fun b o e => Heap.get?_push_of_some _ e
    exact go s1.heap.objs.size c' ((X.mg "__name__").getD .none) ctv H1 _ J2 g (Heap.get?_push_size _ rfl) (J.hok.fresh (Nat.le_refl _)) (nofr _ hsz) x4
  refine PySem.W.kla_eval nod ?_
  cases seen : codeAmong pos ps.toList with
  | some cv =>
    obtain ⟨c', rfl, known⟩ := told pos cv seen
    rw [named] at known
    refine PySem.W.kla_makeFunctionHit (mg := X.mg) (c := c) (P := P) (ps := ps) (closure_ok capt) I.ok.glob glob mine (base.code.keeps I.bk) raw tri seen (base.bm.keeps I.bk) fun ctv h' tk kp hsz => ?_
    exact last H { s with heap := h', toks := tk } c' ctv tk (I.kept kp) (Gr.refl all) hsz known
  | none =>
    refine PySem.W.kla_makeFunction (mg := X.mg) (c := c) (P := P) (ps := ps) (closure_ok capt) I.ok.glob glob mine (base.code.keeps I.bk) raw tri seen base.gP (base.bm.keeps I.bk) fun c' ctv h' tk kp above below rec tab => ?_
    obtain ⟨d, oc, vs, tok, ed, g1, g2, g3⟩ := rec
    cases ed
    have new : H c' = none := I.hok.fresh above
    have J := inv_table (t' := tk) (more := #[rawInt pos.line, rawInt pos.col, .ref c']) (h' := h') I at_ (fun b o n e => kp b o n e) tab above ⟨oc, vs, tok, g1, g2, g3⟩
    exact last (putTab H P c' ps pos (X.env.qual ++ "<lambda>")) { s with heap := h', toks := tk } c' ctv tk J ⟨putTab_ext at_ new, fun b z => NdefX.upd_none (NdefX.upd_none z), putTab_tabs uni all at_ tri told new named⟩ (Nat.le_trans above (Nat.le_of_lt below)) upd_same
end
/-- the reading of x(lambda: .., es) -/
def tLamN (T : List NTab) (q : Str) (TT : (XK → Hp → VK → Prop) → List V → Hp → VK → Prop) (t : XK → TE) (ta : TA) : TE := fun σ H Q => TabsN T H ∧ ∀ (c' : Addr) (H1 : Hp), Gr T H H1 → H1 c' = some (CodeO c' q) →
  ta σ H1 fun vs H2 => H2 c' = some (CodeO c' q) ∧ TT (fun E H' Q' => t E σ H' Q') vs H2 Q
theorem pe_lamN {X : Cx} {T : List NTab} {nm : Nat → Nat → Str} {TT : (XK → Hp → VK → Prop) → List V → Hp → VK → Prop} {x : Str} {c P : Addr} {m : Nat} {params : Arguments} {body : Expr} {scope : Scope} {t : XK → TE} {ta : TA} {es : List Expr} {p lpos pos : Pos}
    (D : DfL X.prog X.w X.K X.mg X.base (m + 1) x TT) (hG : X.A.guards = some []) (hr : Room (m + 2) X.A) (hg : Gl X x) (TB : TabB X.base X.mg c P) (hcode : X.env.code = .ref c) (hmT : (P, nm) ∈ T) (named : nm lpos.line lpos.col = X.env.qual ++ "<lambda>") (hu : ∀ p ∈ T, p.1 = P → p.2 = nm)
    (L : LamS X.env.scope scope) (hdef : defaultsOf params X.env = ([], [])) (hbind : ∀ (q : Str) (cl : List (Str × Addr)) (pm cv ctv : Value), bindArgs (PySem.W.kla_fn "<lambda>" q params body scope cl pm cv ctv) ⟨[], []⟩ = pure [])
    (hbody : ∀ (A : Around) (outer : List Env) (s : Shared) (H : Hp) (E : XK) (f c' : Addr), A.guards = some [] → Room m (A.deeper (lamEnv X scope s.heap.objs.size f c')) → PE (lamCx X A outer s H E scope f c') body (t E)) (ha : PA X es ta)
    (hdb : (x == ("__debug__" : Str)) = false := by decide) (hst : starEach (.Lambda params body scope lpos :: es) X.env = (false, eval (.Lambda params body scope lpos) X.env) :: starEach es X.env := by rfl) (hpl : (backTo pos (starEach es X.env)).any (·.1) = false := by rfl) :
    PE X (.Call (.Name x p) (.Lambda params body scope lpos :: es) [] pos) (tLamN T (X.env.qual ++ "<lambda>") TT t ta) := by
  refine ⟨fun pins s σ H Q I h => ?_⟩
  obtain ⟨hT, h⟩ := h
  obtain ⟨g, hm, hk, F⟩ := D
  refine wpAny_Call_Name_kw (ld_glob I hg hm ?_ hdb)
  refine PySem.W.callWith_K (h₀ := X.base) I.ok.mod.kin hk ?_ hst hpl
  rw [hst]
  show wpAny _ _ (spliced ((false, eval (.Lambda params body scope lpos) X.env) :: backTo pos (starEach es X.env))) _ _ s
  refine Calls.spliced_cons (lam_make3 I TB hcode hmT named hu hT hdef (L.has I.ok) fun f c' pm' ctv H1 s' I1 g1 hf hfn hfr hco => ?_)
  have nL : f ≠ X.env.locals := fun z => by
    obtain ⟨_, ⟨o, es, ep, ho, hd, _⟩, _⟩ := I1.loc
    rw [← z, hf] at ho
    cases ho
    cases hd
  have nF : f ∉ X.fs := fun z => by
    obtain ⟨_, o, ho, hd⟩ := I1.funs.mem z
    rw [hf] at ho
    exact hfr (by
      rcases I1.ok.stk with e | ⟨e, _⟩
      · rw [e]; exact z
      · rw [e]
        obtain ⟨v, hv, hv2⟩ := List.mem_filterMap.mp z
        exact List.mem_filterMap.mpr ⟨v, List.mem_cons_of_mem _ hv, hv2⟩)
  have J1 : Inv X ((f, PySem.W.kla_obj "<lambda>" (X.env.qual ++ "<lambda>") params body scope (cloFrom X.env.cells scope.names []) pm' c' ctv) :: pins) σ H1 s' := by
    refine I1.pins_of fun p hp => ?_
    rcases List.mem_cons.mp hp with rfl | hp
    · exact ⟨hf, hfn, nL, nF, fun v z => by cases z⟩
    · exact I1.pin p (List.mem_append_right _ hp)
  refine thn (ha.run pos _ s' σ H1 _ J1 (h c' H1 g1 hco)) fun us s2 ⟨vs, H2, J2, rv, hc2, ht⟩ => ?_
  have I2 : Inv X pins σ H2 s2 := J2.pins_of fun p hp => J2.pin p (List.mem_append_right _ (List.mem_cons_of_mem _ hp))
  obtain ⟨hf2, hn2, _⟩ := J2.pin (f, _) (List.mem_append_right _ List.mem_cons_self)
  refine ⟨I2.kIn, ?_⟩
  show wpAny _ _ (call (.ref g) (.ref f :: us)) _ _ _
  have ask := asked_of (t := t) I2 L hf2 hn2 hfr (hbind _ _ _ _ _) fun A outer s H E hG hr => hbody A outer s H E f c' hG hr
  refine wpAny_call (codeAny_mono (F X.A X.stack s2 H2 f c' _ us vs Q _ hG hr I2.env0 ask hc2 rv ht) fun r s3 hq => ?_)
  cases r with
  | error e => exact False.elim hq
  | ok fl =>
    cases fl with
    | ret u => exact I2.after hq
    | next => exact False.elim hq
    | brk => exact False.elim hq
    | cont => exact False.elim hq
end Any
set_option pp.maxSteps 600
set_option maxHeartbeats 1000000
namespace Any
open L2 PySem PySem.Spec PyProof.Rows LamX NdefX
/-! ### things that are no room's name -/
abbrev nineX : Str := "xxxxxxxxx"
inductive OddN (n0 : Str) (H : Hp) : V → Prop
  | nil : OddN n0 H (.str "")
  | asked : OddN n0 H (.str "asked")
  | long : OddN n0 H (.str (n0 ++ nineX))
  | up : OddN n0 H (.str (Txt.upper n0))
  | non : OddN n0 H .non
  | int : OddN n0 H (.int 0)
  | bl : OddN n0 H (.bl true)
  | tup {a : Addr} (h : H a = some (.tup [.str n0])) : OddN n0 H (.ref a)
  | lst {a : Addr} (h : H a = some (.lst [.str n0])) : OddN n0 H (.ref a)
  | dct {a : Addr} (h : H a = some (.dK [])) : OddN n0 H (.ref a)
theorem OddN.keep {n0 : Str} {H H' : Hp} {v : V} (h : OddN n0 H v) (s : ∀ a o, (∀ ps, o ≠ .tbl ps) → H a = some o → H' a = some o) : OddN n0 H' v := by
  cases h with
  | nil => exact .nil
  | asked => exact .asked
  | long => exact .long
  | up => exact .up
  | non => exact .non
  | int => exact .int
  | bl => exact .bl
  | tup h => exact .tup (s _ _ (fun _ z => by cases z) h)
  | lst h => exact .lst (s _ _ (fun _ z => by cases z) h)
  | dct h => exact .dct (s _ _ (fun _ z => by cases z) h)
theorem upper_l : ∀ (l : List Nat), (∀ c ∈ l, 97 ≤ c ∧ c ≤ 122) → (Txt.upper ⟨l.toArray⟩).cps.toList = l.map (· - 32)
  | [], _ => by decide
  | c :: r, h => by
    have hc := h c List.mem_cons_self
    have e : (⟨(c :: r).toArray⟩ : Str) = ⟨#[c]⟩ ++ ⟨r.toArray⟩ := s_ext (by rw [s_app]; rfl)
    rw [e, PySem.W.KOpn.upper_app, PySem.W.KOpn.upper_one (by omega), s_app, upper_l r fun x hx => h x (List.mem_cons_of_mem _ hx), if_pos hc]
    rfl
theorem upper_of {x : Str} (h : Nm x) : (Txt.upper x).cps.toList = x.cps.toList.map (· - 32) := by
  have z := upper_l x.cps.toList h.low
  rwa [show (⟨x.cps.toList.toArray⟩ : Str) = x from s_ext rfl] at z
theorem ok_of {y : Str} (h : ∀ c ∈ y.cps.toList, 65 ≤ c ∧ c ≤ 122) : PyData.strOk y = true := by
  unfold PyData.strOk
  rw [Array.all_eq_true']
  intro c hc
  have := h c (by simpa using hc)
  exact decide_eq_true (by omega)
theorem repr_short {y : Str} (h : ∀ c ∈ y.cps.toList, 65 ≤ c ∧ c ≤ 122) (l : y.length ≤ 20) : (reprText y).length ≤ 300 := by
  have := StrLaws.reprText_len y fun c hc => Nat.lt_of_le_of_lt (h c hc).2 (by decide)
  omega
theorem nm_codes {x : Str} (h : Nm x) : ∀ c ∈ x.cps.toList, 65 ≤ c ∧ c ≤ 122 := fun c hc => by
  have := h.low c hc
  omega
theorem long_codes {x : Str} (h : Nm x) : ∀ c ∈ (x ++ nineX).cps.toList, 65 ≤ c ∧ c ≤ 122 := fun c hc => by
  rw [s_app] at hc
  rcases List.mem_append.mp hc with hc | hc
  · exact nm_codes h c hc
  · have all : ∀ c ∈ nineX.cps.toList, 65 ≤ c ∧ c ≤ 122 := by decide +kernel
    exact all c hc
theorem up_codes {x : Str} (h : Nm x) : ∀ c ∈ (Txt.upper x).cps.toList, 65 ≤ c ∧ c ≤ 90 := fun c hc => by
  rw [upper_of h] at hc
  obtain ⟨d, hd, rfl⟩ := List.mem_map.mp hc
  have := h.low d hd
  show 65 ≤ d - 32 ∧ d - 32 ≤ 90
  omega
theorem up_len {x : Str} (h : Nm x) : (Txt.upper x).length = x.length := by
  rw [s_len, s_len, upper_of h, List.length_map]
theorem ne_data {K : PySem.W.Frag} {H : Hp} {x : Str} {v : V} {d : PyData} (hx : Nm x) (h1 : Dp K H v d) (h2 : SeqAt.shaped d = true) (h3 : PyData.eqv (.str x) d = false) : NeV K H x v := by
  refine .inl ⟨d, h1, ?_, h2, h3⟩
  unfold SeqAt.shaped
  show (PyData.strOk x && decide (0 ≤ 64)) = true
  rw [nm_ok hx]
  rfl
theorem ne_strV {K : PySem.W.Frag} {H : Hp} {x y : Str} (hx : Nm x) (hy : PyData.strOk y = true) (ne : x ≠ y) : NeV K H x (.str y) := by
  refine ne_data hx (.str y) ?_ ?_
  · unfold SeqAt.shaped
    show (PyData.strOk y && decide (0 ≤ 64)) = true
    rw [hy]
    rfl
  · simp only [PyData.eqv]
    exact decide_eq_false ne
theorem OddN.ne {K : PySem.W.Frag} {H : Hp} {n0 x : Str} {v : V} (h : OddN n0 H v) (h0 : Nm n0) (hx : Nm x) : NeV K H x v := by
  have o0 := nm_ok h0
  cases h with
  | nil => exact ne_strV hx (by decide +kernel) (nm_ne hx)
  | asked => exact ne_strV hx (by decide +kernel) fun e => hx.kept (by rw [e]; decide)
  | long =>
    exact ne_strV hx (ok_of (long_codes h0)) fun e => by
      have l := congrArg Str.length e
      rw [s_lapp] at l
      have h8 := hx.hi
      have : nineX.length = 9 := by decide +kernel
      omega
  | up =>
    exact ne_strV hx (ok_of fun c hc => by have := up_codes h0 c hc; omega) fun e => by
      have l := hx.lo
      rw [s_len] at l
      cases q : x.cps.toList with
      | nil => rw [q] at l; simp at l
      | cons c r =>
        have a := hx.low c (by rw [q]; exact List.mem_cons_self)
        have b := up_codes h0 c (by rw [← e, q]; exact List.mem_cons_self)
        omega
  | non => exact ne_data hx .non rfl (by simp only [PyData.eqv])
  | int => exact ne_data hx (.int 0) rfl (by simp only [PyData.eqv])
  | bl => exact ne_data hx (.bl true) rfl (by simp only [PyData.eqv])
  | tup h =>
    refine ne_data (d := .tuple [.str n0]) hx (.tup (SqT.of h) (.cons (.str _) .nil)) ?_ (by simp only [PyData.eqv])
    unfold SeqAt.shaped
    show ((PyData.strOk n0 && true) && decide _) = true
    rw [o0]
    rfl
  | lst h =>
    refine ne_data (d := .list [.str n0]) hx (.lst (SqL.of h) (.cons (.str _) .nil)) ?_ (by simp only [PyData.eqv])
    unfold SeqAt.shaped
    show ((PyData.strOk n0 && true) && decide _) = true
    rw [o0]
    rfl
  | dct h => exact .inr ⟨_, _, rfl, h⟩
theorem OddN.small {K : PySem.W.Frag} {H : Hp} {n0 : Str} {v : V} (h : OddN n0 H v) (h0 : Nm n0) : Small K H v := by
  have hl := h0.hi
  have r0 := repr_short (nm_codes h0) (by omega)
  cases h with
  | nil => exact ⟨_, .str _, by decide +kernel⟩
  | asked => exact ⟨_, .str _, by decide +kernel⟩
  | long =>
    exact ⟨_, .str _, by
      have : nineX.length = 9 := by decide +kernel
      have := repr_short (long_codes h0) (by rw [s_lapp]; omega)
      omega⟩
  | up =>
    exact ⟨_, .str _, by
      have := repr_short (y := Txt.upper n0) (fun c hc => by have := up_codes h0 c hc; omega) (by rw [up_len h0]; omega)
      omega⟩
  | non => exact ⟨_, .non, by decide +kernel⟩
  | int => exact ⟨_, .int 0 (by decide +kernel), by decide +kernel⟩
  | bl => exact ⟨_, .bl true, by decide +kernel⟩
  | tup h =>
    refine ⟨_, .dat (d := .tuple [.str n0]) (.seq (.tup (SqT.of h) (.cons (.str _) .nil)) rfl) rfl (by show 0 + 1 ≤ 60; decide), ?_⟩
    simp only [PyData.shown, PyData.shownAll]
    show (("(" : Str) ++ Str.join ", " [reprText n0] ++ ",)").length ≤ 2000
    rw [s_lapp, s_lapp]
    have e1 : ("(" : Str).length = 1 := by decide +kernel
    have e2 : (",)" : Str).length = 2 := by decide +kernel
    have e3 : Str.join ", " [reprText n0] = reprText n0 := rfl
    rw [e3]
    omega
  | lst h =>
    refine ⟨_, .dat (d := .list [.str n0]) (.seq (.lst (SqL.of h) (.cons (.str _) .nil)) rfl) rfl (by show 0 + 1 ≤ 60; decide), ?_⟩
    simp only [PyData.shown, PyData.shownAll]
    show ((("[" : Str) ++ "" ++ reprText n0) ++ "]").length ≤ 2000
    rw [s_lapp, s_lapp, s_lapp]
    have e1 : ("[" : Str).length = 1 := by decide +kernel
    have e2 : ("]" : Str).length = 1 := by decide +kernel
    have e3 : ("" : Str).length = 0 := by decide +kernel
    omega
  | dct h => exact ⟨_, .dat (d := .dict []) (.dct h .nil) (by decide +kernel) (by decide +kernel), by decide +kernel⟩
end Any
set_option pp.maxSteps 600
set_option maxHeartbeats 4000000
namespace Any
open L2 PySem PySem.Spec PyProof.Rows LamX NdefX
/-! ### the law -/
def forB : Stmt → List Stmt
  | .For _ _ b _ _ => b
  | _ => []
def stA (l : List Stmt) (i : Nat) : Stmt := l.getD i (.Pass ⟨0, 0, 0, 0⟩)
abbrev sLaw : Stmt := top 94
abbrev nmLaw : List Str := ["_law_script", "_law_at", "_law_bag_here", "_law_turn", "_law_one", "_law_nicks_here", "_law_due", "_law_some", "_law_thing", "_law_tree"]
theorem scLaw : FnScope nmLaw ["_law_script"] (defScope sLaw) := ⟨rfl, rfl, rfl, by decide +kernel, rfl, by decide +kernel, by decide +kernel⟩
/-- the name of the law's lambdas -/
def qLaw : Str := (envOfC "law" (defScope sLaw) 0 0 .none).qual ++ "<lambda>"
abbrev turnB : List Stmt := forB (stA (forB (stA (defBody sLaw) 0)) 1)
def DfK (P : Program) (w : World) (K : PySem.W.Frag) (mg : Str → Option Value) (base : Heap) (k : Nat) (x : Str) (n : Nat) (ps ks : List Str) (gV : List V → List V → List V) (sp : Sp) : Prop :=
  ∃ f fd g, mg x = some (.ref f) ∧ PySem.W.keepIn K (.ref f) = true ∧ FnOk P w K mg base CX0 k f fd ps sp ∧ KBn K fd ps n ks g gV
/-- a def that lets an exception out -/
def DfX (P : Program) (w : World) (K : PySem.W.Frag) (mg : Str → Option Value) (base : Heap) (k : Nat) (x : Str) (ps : List Str) (sp : Sp) : Prop :=
  ∃ f fd, mg x = some (.ref f) ∧ PySem.W.keepIn K (.ref f) = true ∧ FnG P w K mg base (L2.CX P w) k f fd ps sp ∧ Binds K fd ps []
section
variable {X : Cx} {k n : Nat} {x m : Str} {C : Addr} {ps ks : List Str} {sp : Sp} {p pos : Pos} {e : Expr} {es : List Expr} {t tk : TA} {kws : List Keyword} {gV : List V → List V → List V}
theorem pe_DK0 (D : DfK X.prog X.w X.K X.mg X.base k x 0 ps ks gV sp) (hr : Room k X.A) (hg : Gl X x) (hkw : PK X kws tk) (hall : (backToKw pos (keywordEach kws X.env)).all (·.1.isSome) = true := by rfl)
    (hks : (backToKw pos (keywordEach kws X.env)).filterMap (·.1) = ks := by rfl) (h1 : (x == ("__debug__" : Str)) = false := by decide)
    (h3 : ((backTo pos (starEach [] X.env)).any (·.1) || (backToKw pos (keywordEach kws X.env)).any (·.1.isNone)) = false := by rfl) :
    PE X (.Call (.Name x p) [] kws pos) (fun σ H Q => tk σ H fun zs H1 => zs.length = ks.length ∧ sp (gV [] zs) H1 Q E0) := by
  obtain ⟨f, fd, g, hm, hk, F, hb⟩ := D
  exact pe_callK0 F hr hg hm hk hb pass0 hkw hall hks h1 h3
theorem pe_DX {E : XK} (D : DfX X.prog X.w X.K X.mg X.base k x ps sp) (hG : X.A.guards = some []) (hr : Room k X.A) (hg : Gl X x) (hx : Passes (L2.CX X.prog X.w) X E) (ha : PA X (e :: es) t) (hdb : (x == ("__debug__" : Str)) = false := by decide)
    (he : starEach (e :: es) X.env = (false, eval e X.env) :: starEach es X.env := by rfl) (hpl : (backTo pos (starEach es X.env)).any (·.1) = false := by rfl) : PE X (.Call (.Name x p) (e :: es) [] pos) (tCall sp [] E t) := by
  obtain ⟨f, fd, hm, hk, F, hb⟩ := D
  exact pe_callGX F hG hr hg hm hk hb hx ha hdb he hpl
theorem op_mulS : OpR X (binaryOp .Mult) (fun x y H Q => ∃ (z : Str) (n : Int), x = .str z ∧ y = .int n ∧ MulOk z n ∧ Q (.str (Txt.mul z n)) H) := by
  intro pins s σ H x y v u Q I rx ry h
  obtain ⟨z, n, rfl, rfl, hk, q⟩ := h
  obtain ⟨t, rfl⟩ := rx
  obtain ⟨t', rfl⟩ := ry
  exact SB.mul hk fun t2 k => ⟨.str _, H, I.tok _, ⟨_, rfl⟩, q⟩
end
theorem mul9 : MulOk ("x" : Str) 9 := ⟨by decide, (fun _ _ => by decide +kernel), (fun _ _ => by decide +kernel)⟩
/-- what the law asks -/
structure Fns (P : Program) (w : World) (K : PySem.W.Frag) (mg : Str → Option Value) (base : Heap) (T_ : List NTab) (C D CN : Addr) : Prop where
  O : Own mg
  mr : mg "range" = none
  RC : RoomC K C
  TP : HeldC K D
  rms : Mf P w K mg base D 1 "rooms" ["self"] (spRms D)
  bag : Df P w K mg base 1 "_law_bag" ["_law_script", "_law_at"] (spBag K)
  take : Df P w K mg base 1 "_law_take" psTk spTake
  prog : Df P w K mg base 32 "_law_program" psPg (spProg T_ C D)
  home : Df P w K mg base 47 "_law_home" ["_law_tree", "_law_one"] (spLH C D)
  right : Df P w K mg base 57 "_law_right" ["_law_tree", "_law_nick"] (spLR C D 9)
  whole : Df P w K mg base 1 "_law_whole" ["_law_thing", "_law_due"] spWh
  bh : Df P w K mg base 15 "beats_home" ["program", "name"] (spBt vHome C D)
  bhk : DfK P w K mg base 15 "beats_home" 0 ["program", "name"] ["program", "name"] (fun vs zs => vs ++ zs) (spBt vHome C D)
  brk : DfK P w K mg base 16 "beats_right" 0 ["program", "name"] ["name", "program"] (fun vs zs => vs ++ zs.reverse) (spBt vRight C D)
  bo : Df P w K mg base 16 "beats_of" ["program"] (spBO C D)
  bok : DfK P w K mg base 16 "beats_of" 0 ["program"] ["program"] (fun vs zs => vs ++ zs) (spBO C D)
  bhx : DfX P w K mg base 15 "beats_home" ["program", "name"] (spROX K C D CN)
  brx : DfX P w K mg base 16 "beats_right" ["program", "name"] (spROX K C D CN)
  refu : DfL P w K mg base 17 "_law_refused" (TTrf K CN)
section
variable {P : Program} {w : World} {K : PySem.W.Frag} {mg : Str → Option Value} {base : Heap} {T_ : List NTab} {f c Pt C D_ CN : Addr} {fd : FuncData}
theorem PgOk.gr {H H' : Hp} {x : Addr} {rs : List Rm} (h : PgOk C D_ H x rs) (g : Gr T_ H H') : PgOk C D_ H' x rs := by
  obtain ⟨R, ⟨dx, v, h1⟩, h2⟩ := h
  exact ⟨R, ⟨dx, v, g.ins h1⟩, h2.gr g⟩
/-- an odd thing is asked -/
theorem law_odd (N : Fns P w K mg base T_ C D_ CN) (TB : TabB base mg c Pt) (inT : (Pt, fun _ _ => qLaw) ∈ T_) (uni : ∀ p ∈ T_, p.1 = Pt → p.2 = fun _ _ => qLaw) (A : Around) (outer : List Env) (s : Shared) (H0 : Hp) (E : XK) (hG : A.guards = some []) (hr : Room 60 (A.deeper (envOfC "law" (defScope sLaw) s.heap.objs.size f (.ref c)))) :
    ∃ t, PSs (cxOf CX0 P w K mg base nmLaw "law" (defScope sLaw) f (.ref c) A outer s H0 E).nox (turnB.drop 4) t ∧
      ∀ (D : Ends) (H : Hp) (b x L : Addr) (n0 : Str) (names : List Str) (rs : List Rm) (k : Nat) (z0 z1 z3 z4 z6 z7 z8 : Option V), Bag H b (k + 1) → PgOk C D_ H x rs → Right rs → H L = some (.lst (names.map V.str)) → names[0]? = some n0 → Nm n0 → TabsN T_ H →
        (∀ H' z7 z8, Kg T_ b H H' → Bag H' b k → D.nx [z0, z1, some (.ref b), z3, z4, some (.ref L), z6, z7, z8, some (.ref x)] H') → t D [z0, z1, some (.ref b), z3, z4, some (.ref L), z6, z7, z8, some (.ref x)] H := by
  have hG' : (A.deeper (envOfC "law" (defScope sLaw) s.heap.objs.size f (.ref c))).guards = some [] := hG
  have hr1 := hr.mono (show 1 ≤ 60 by decide)
  have hr18 := hr.mono (show 16 + 2 ≤ 60 by decide)
  have hs : sizeLine = 16777216 := sizeLine_eq
  let X := (cxOf CX0 P w K mg base nmLaw "law" (defScope sLaw) f (.ref c) A outer s H0 E).nox
  refine ⟨_, pss_cons (ps_set (i := 7) scLaw.nd rfl (Or.inl rfl) (pe_lst (pa_cons pe_str (pa_cons pe_str (pa_cons (pe_op op_add_str (pe_ix ix_list (pv 5) pe_int (fun _ _ => rfl)) (pe_op op_mulS pe_str pe_int)) (pa_cons pe_non (pa_cons pe_int (pa_cons pe_bl
      (pa_cons (pe_tup (pa_cons (pe_ix ix_list (pv 5) pe_int (fun _ _ => rfl)) pa_nil)) (pa_cons (pe_lst (pa_cons (pe_ix ix_list (pv 5) pe_int (fun _ _ => rfl)) pa_nil)) (pa_cons pe_dnewK (pa_cons (pe_upper (pe_ix ix_list (pv 5) pe_int (fun _ _ => rfl))) pa_nil))))))))))))
    (pss_cons (ps_set (i := 8) scLaw.nd rfl (Or.inr rfl) (pe_ix ix_list (pv 7) (pe_D N.take hr1 rfl (pa_cons (pv 2) (pa_cons (pe_callB call_len_seq rfl N.O.len PySem.boot_len (pa_cons (pv 7) pa_nil)) pa_nil))) (fun _ _ => rfl)))
    (pss_cons (ps_if (pt_not (pt_val (pe_lamN (T := T_) (nm := fun _ _ => qLaw) (m := 16) N.refu hG' hr18 rfl TB rfl inT rfl uni (show LamS (defScope sLaw) _ from lamS_by (by decide +kernel)) rfl (fun _ _ _ _ _ => rfl)
        (fun A o s H E f c' hG hr => pe_DX N.bhx hG (hr.mono (by decide)) rfl (passes_call (takes_of rfl rfl rfl rfl) fun _ _ _ _ h => h) (pa_cons (pv 9) (pa_cons (pv 8) pa_nil))) (pa_cons (pv 8) pa_nil)))) (pss_one (ps_ret pe_bl)) pss_nil)
    (pss_one (ps_if (pt_not (pt_val (pe_lamN (T := T_) (nm := fun _ _ => qLaw) (m := 16) N.refu hG' hr18 rfl TB rfl inT rfl uni (show LamS (defScope sLaw) _ from lamS_by (by decide +kernel)) rfl (fun _ _ _ _ _ => rfl)
        (fun A o s H E f c' hG hr => pe_DX N.brx hG hr rfl (passes_call (takes_of rfl rfl rfl rfl) fun _ _ _ _ h => h) (pa_cons (pv 9) (pa_cons (pv 8) pa_nil))) (pa_cons (pv 8) pa_nil)))) (pss_one (ps_ret pe_bl)) pss_nil)))), ?_⟩
  intro D H b x L n0 names rs k z0 z1 z3 z4 z6 z7 z8 hB hpg ok hL h0 nm0 hT q
  have at0 : atI (names.map V.str) ((0 : Nat) : Int) = some (.str n0) := atI_nat (by rw [List.getElem?_map, h0]; rfl)
  have l0 : n0.length ≤ 8 := nm0.hi
  have e9 : Txt.mul "x" 9 = nineX := by decide +kernel
  have n9 : nineX.length = 9 := by decide +kernel
  refine ⟨_, rfl, L, _, _, _, rfl, rfl, SqL.of hL, at0, "x", 9, rfl, rfl, mul9, _, _, rfl, rfl, by rw [e9, n9]; omega, ?_⟩
  rw [e9]
  refine ⟨_, rfl, L, _, _, _, rfl, rfl, SqL.of hL, at0, (by show 1 ≤ sizeLine; omega), fun p1 n1 => ?_⟩
  have s1 := same_new n1 (.tup [.str n0])
  refine ⟨_, rfl, L, _, _, _, rfl, rfl, SqL.of (s1 _ _ hL), at0, (by show 1 ≤ sizeLine; omega), fun p2 n2 => fun p3 n3 => ?_⟩
  have s2 := same_new n2 (.lst [.str n0])
  have s3 := same_new n3 (.dK [])
  have s13 := s1.trans (s2.trans s3)
  refine ⟨_, rfl, L, _, _, _, rfl, rfl, SqL.of (s13 _ _ hL), at0, ⟨_, rfl⟩, n0, rfl, rfl, by omega, (by show 10 ≤ sizeLine; omega), fun p4 n4 => ?_⟩
  have s4 := same_new (H := upd (upd (upd H p1 (.tup [.str n0])) p2 (.lst [.str n0])) p3 (.dK [])) n4 (.lst [.str "", .str "asked", .str (n0 ++ nineX), .non, .int 0, .bl true, .ref p1, .ref p2, .ref p3, .str (Txt.upper n0)])
  have sA := s13.trans s4
  have g1 := s4 _ _ (s3 _ _ (s2 _ _ (@upd_same H p1 (.tup [.str n0]))))
  have g2 := s4 _ _ (s3 _ _ (@upd_same _ p2 (.lst [.str n0])))
  have g3 := s4 _ _ (@upd_same _ p3 (.dK []))
  have g4 := @upd_same (upd (upd (upd H p1 (.tup [.str n0])) p2 (.lst [.str n0])) p3 (.dK [])) p4 (.lst [.str "", .str "asked", .str (n0 ++ nineX), .non, .int 0, .bl true, .ref p1, .ref p2, .ref p3, .str (Txt.upper n0)])
  have f1 : p1 ≠ b := hB.ne n1
  have f2 : p2 ≠ b := (hB.keep s1).ne n2
  have f3 : p3 ≠ b := ((hB.keep s1).keep s2).ne n3
  have f4 : p4 ≠ b := (((hB.keep s1).keep s2).keep s3).ne n4
  clear s4
  generalize upd (upd (upd (upd H p1 (.tup [.str n0])) p2 (.lst [.str n0])) p3 (.dK [])) p4 (.lst [.str "", .str "asked", .str (n0 ++ nineX), .non, .int 0, .bl true, .ref p1, .ref p2, .ref p3, .str (Txt.upper n0)]) = H4 at *
  have B4 := hB.keep sA
  refine ⟨_, rfl, _, rfl, _, rfl, p4, _, rfl, .inl (SqL.of g4), b, 10, k, rfl, B4, by decide, by decide, fun d H5 k5 B5 d0 d1 => ?_⟩
  have g1 := k5 _ _ f1 g1
  have g2 := k5 _ _ f2 g2
  have g3 := k5 _ _ f3 g3
  have g4 := k5 _ _ f4 g4
  obtain ⟨v, hv, tv⟩ : ∃ v, atI [V.str "", .str "asked", .str (n0 ++ nineX), .non, .int 0, .bl true, .ref p1, .ref p2, .ref p3, .str (Txt.upper n0)] d = some v ∧ OddN n0 H5 v := by
    have : d = 0 ∨ d = 1 ∨ d = 2 ∨ d = 3 ∨ d = 4 ∨ d = 5 ∨ d = 6 ∨ d = 7 ∨ d = 8 ∨ d = 9 := by omega
    rcases this with rfl | rfl | rfl | rfl | rfl | rfl | rfl | rfl | rfl | rfl
    · exact ⟨_, rfl, .nil⟩
    · exact ⟨_, rfl, .asked⟩
    · exact ⟨_, rfl, .long⟩
    · exact ⟨_, rfl, .non⟩
    · exact ⟨_, rfl, .int⟩
    · exact ⟨_, rfl, .bl⟩
    · exact ⟨_, rfl, .tup g1⟩
    · exact ⟨_, rfl, .lst g2⟩
    · exact ⟨_, rfl, .dct g3⟩
    · exact ⟨_, rfl, .up⟩
  refine ⟨p4, _, _, _, rfl, rfl, SqL.of g4, hv, ?_⟩
  have kg5 : Kg T_ b H H5 := ((Kg.refl hT).same sA).kept B4 k5
  have hpg5 : PgOk C D_ H5 x rs := by
    obtain ⟨R, ⟨dx, vv, h1⟩, as, h2, h3⟩ := hpg.keep sA
    obtain ⟨ys, hb⟩ := B4.lst
    exact ⟨R, ⟨dx, vv, k5 _ _ (ne_of h1 hb (by intro z; cases z)) h1⟩, as, k5 _ _ (ne_of h2 hb (by intro z; cases z)) h2, paired_imp (fun _ _ y => y.kept B4 k5) h3⟩
  have nms : ∀ r ∈ rs, Nm r.name := fun r hr => by
    obtain ⟨i, hi⟩ := List.getElem?_of_mem hr
    exact (ok.all i r hi).name
  -- what each of both is told
  have tell : ∀ (H1 : Hp), PgOk C D_ H1 x rs → OddN n0 H1 v → ∃ (y R : Addr) (u : V) (rs' : List Rm), [V.ref x, v] = [.ref y, u] ∧ HeldAt D_ H1 y R ∧ RsAt C H1 R rs' ∧ (∀ r ∈ rs', NeV K H1 r.name u) ∧ (∀ H', Same H1 H' → Small K H' u) ∧ ∀ bb H', Same H1 H' → H' bb = some (.xd [("name", u)]) → RfE CN H1 v (.ref CN) (some bb) H' := fun H1 hp tv1 => by
    obtain ⟨R, h1, h2⟩ := hp
    exact ⟨x, R, v, rs, rfl, h1, h2, fun r hr => tv1.ne nm0 (nms r hr), fun H' sm => (tv1.keep fun a o _ h => sm _ _ h).small nm0, fun bb H' sm hb => ⟨rfl, bb, rfl, hb, sm⟩⟩
  refine ⟨kg5.tabs, fun c1 H6 e6 hc6 => ⟨_, rfl, hc6, v, rfl, ?_⟩⟩
  have tv6 := tv.keep fun a o n h => e6.ext a o h n
  have pg6 := hpg5.gr e6
  refine ⟨fun H' sm => (tv6.keep fun a o _ h => sm _ _ h).small nm0, fun H7 s7 => ?_, _, rfl, _, rfl, tell H6 pg6 tv6⟩
  refine ⟨_, rfl, itF rfl ?_⟩
  have g7 := e6.same s7
  refine ⟨g7.tabs, fun c2 H8 e8 hc8 => ⟨_, rfl, hc8, v, rfl, ?_⟩⟩
  have g8 := g7.trans e8
  have tv8 := tv.keep fun a o n h => g8.ext a o h n
  have pg8 := hpg5.gr g8
  refine ⟨fun H' sm => (tv8.keep fun a o _ h => sm _ _ h).small nm0, fun H9 s9 => ?_, _, rfl, _, rfl, tell H8 pg8 tv8⟩
  have g9 := g8.same s9
  exact ⟨_, rfl, itF rfl (q H9 _ _ (kg5.gr g9) (B5.gr g9))⟩
end
end Any
set_option pp.maxSteps 600
set_option maxHeartbeats 4000000
namespace Any
open L2 PySem PySem.Spec PyProof.Rows LamX NdefX
section
variable {P : Program} {w : World} {K : PySem.W.Frag} {mg : Str → Option Value} {base : Heap} {T_ : List NTab} {f c Pt C D_ CN : Addr} {fd : FuncData}
/-- a program is asked -/
theorem law_asks (N : Fns P w K mg base T_ C D_ CN) (TB : TabB base mg c Pt) (inT : (Pt, fun _ _ => qLaw) ∈ T_) (uni : ∀ p ∈ T_, p.1 = Pt → p.2 = fun _ _ => qLaw) (A : Around) (outer : List Env) (s : Shared) (H0 : Hp) (E : XK) (hG : A.guards = some []) (hr : Room 60 (A.deeper (envOfC "law" (defScope sLaw) s.heap.objs.size f (.ref c)))) :
    ∃ t, PSs (cxOf CX0 P w K mg base nmLaw "law" (defScope sLaw) f (.ref c) A outer s H0 E).nox (turnB.drop 1) t ∧
      ∀ (D : Ends) (H : Hp) (b x : Addr) (rs : List Rm) (k : Nat) (z0 z1 z3 z4 z5 z6 z7 z8 : Option V), Bag H b (k + 1) → PgOk C D_ H x rs → Right rs → TabsN T_ H →
        (∀ H' z4 z5 z6 z7 z8 z9, Kg T_ b H H' → Bag H' b k → D.nx [z0, z1, some (.ref b), z3, z4, z5, z6, z7, z8, z9] H') → t D [z0, z1, some (.ref b), z3, z4, z5, z6, z7, z8, some (.ref x)] H := by
  obtain ⟨t4, ht4, odd⟩ := law_odd N TB inT uni A outer s H0 E hG hr
  have hr1 := hr.mono (show 1 ≤ 60 by decide)
  have hr15 := hr.mono (show 15 ≤ 60 by decide)
  have hr16 := hr.mono (show 16 ≤ 60 by decide)
  have hr47 := hr.mono (show 47 ≤ 60 by decide)
  have hr57 := hr.mono (show 57 ≤ 60 by decide)
  have hs : sizeLine = 16777216 := sizeLine_eq
  have TP := N.TP
  have RC := N.RC
  refine ⟨_, pss_cons (ps_setLc (i := 5) (own := [("_law_one", 4)]) (g := gName 4) (tt := tYes) (te := tFld K (tVar 4) "name") (by rfl) scLaw.nd rfl rfl (sw_true rfl rfl rfl (by decide +kernel)) (pi_tup (pe_Mz N.rms TP.cl (pv 9) hr1)) (blkOk_by (N := nmLaw) (sc := defScope sLaw) (by decide +kernel))
        (fun _ _ _ _ _ => pg_name (i := 4) scLaw.nd rfl (Or.inl rfl)) (fun _ _ _ _ _ => pts_nil) (fun _ _ _ _ _ => pe_fld (pv 4) rfl))
    (pss_cons (ps_for PassesOwn.never rfl (pi_tup (pe_Mz N.rms TP.cl (pv 9) hr1)) (pg_name (i := 4) scLaw.nd rfl (Or.inl rfl))
      (pss_cons (ps_set (i := 6) scLaw.nd rfl (Or.inl rfl) (pe_D N.home hr47 rfl (pa_cons (pv 9) (pa_cons (pv 4) pa_nil))))
      (pss_cons (ps_if (PW.pt (pw_or (pt_not (pt_val (pe_D N.whole hr1 rfl (pa_cons (pe_D N.bh hr15 rfl (pa_cons (pv 9) (pa_cons (pe_fld (pv 4) rfl) pa_nil))) (pa_cons (pv 6) pa_nil)))))
          (pw_or1 (pt_cmpR op_ne (pe_DK0 N.bhk hr15 rfl (pk_cons (pv 9) (pk_cons (pe_fld (pv 4) rfl) pk_nil))) (pv 6) (nomark _))))) (pss_one (ps_ret pe_bl)) pss_nil)
      (pss_one (ps_if (pt_not (pt_val (pe_D N.whole hr1 rfl (pa_cons (pe_DK0 N.brk hr16 rfl (pk_cons (pe_fld (pv 4) rfl) (pk_cons (pv 9) pk_nil))) (pa_cons (pe_D N.right hr57 rfl (pa_cons (pv 9) (pa_cons (pe_fld (pv 4) rfl) pa_nil))) pa_nil))))) (pss_one (ps_ret pe_bl)) pss_nil)))))
    (pss_cons (ps_if (PW.pt (pw_or (pt_not (pt_val (pe_D N.whole hr1 rfl (pa_cons (pe_D N.bo hr16 rfl (pa_cons (pv 9) pa_nil)) (pa_cons (pe_D N.right hr57 rfl (pa_cons (pv 9) (pa_cons (pe_ix ix_list (pv 5) pe_int (fun _ _ => rfl)) pa_nil))) pa_nil)))))
        (pw_or1 (pt_cmpR op_ne (pe_DK0 N.bok hr16 rfl (pk_cons (pv 9) pk_nil)) (pe_D N.bo hr16 rfl (pa_cons (pv 9) pa_nil)) (nomark _))))) (pss_one (ps_ret pe_bl)) pss_nil)
    ht4)), ?_⟩
  intro D H b x rs k z0 z1 z3 z4 z5 z6 z7 z8 hB hpg ok hT q
  obtain ⟨R, ⟨dx, vv, hx⟩, as, hR, hp⟩ := id hpg
  have hl := paired_len hp
  have lo := ok.lo
  have hi := ok.hi
  refine ⟨_, rfl, x, dx, _, rfl, hx, pf_none (by decide +kernel) (by decide +kernel), x, R, rfl, ⟨dx, vv, hx⟩, R, rfl, ⟨_, SqT.of hR⟩, fun L nL => ?_⟩
  refine turns_tup (K := K) (a := R) (xs := as.map V.ref) (rs.map fun o => some (V.str o.name)) nL (fun Hc sm => SqT.of (sm _ _ hR)) (by rw [List.length_map, List.length_map]; exact hl.symm) (by rw [List.length_map]; omega) ?_ ?_
  · intro j z o Hc Y Nx hz ho sm hY hN
    obtain ⟨e', he', rfl⟩ := refs_at hz
    obtain ⟨r', hr', dx', n', a', b', s'', k', t', p', y', h1', h2'⟩ := paired_get hp he'
    rw [List.getElem?_map, hr'] at ho
    have hn' := h2'.name
    subst hn'
    exact ⟨rfl, _, rfl, e', C, dx', _, _, rfl, sm _ _ h1', RC.cl, RC.n1, rf_name, hY _ (Option.some.inj ho).symm Hc same_refl⟩
  intro H1 h1 sm1
  rw [fm_some (fun o : Rm => V.str o.name)] at h1
  have e1 : rs.map (fun o : Rm => V.str o.name) = (rs.map (·.name)).map V.str := by rw [List.map_map]; rfl
  rw [e1] at h1
  obtain ⟨r0, hr0⟩ : ∃ r0, rs[0]? = some r0 := ⟨_, List.getElem?_eq_getElem (by omega)⟩
  have hn0 : (rs.map (·.name))[0]? = some r0.name := by rw [List.getElem?_map, hr0]; rfl
  refine ⟨_, rfl, x, dx, _, rfl, sm1 _ _ hx, pf_none (by decide +kernel) (by decide +kernel), x, R, rfl, ⟨dx, vv, sm1 _ _ hx⟩, R, rfl, ⟨_, SqT.of (sm1 _ _ hR)⟩, ?_⟩
  refine for_tup (K := K) (a := R) (xs := as.map V.ref) (fun i σ Hc => ∃ z4 z6 : Option V, σ = [z0, z1, some (.ref b), z3, z4, some (.ref L), z6, z7, z8, some (.ref x)] ∧ Same H1 Hc) ⟨_, _, rfl, .refl _⟩ ?_ ?_ ?_
  · rintro i σ Hc _ ⟨z4, z6, rfl, sm⟩
    exact SqT.of (sm _ _ (sm1 _ _ hR))
  · rintro i v σ Hc hv ⟨z4, z6, rfl, sm⟩
    obtain ⟨e, he, rfl⟩ := refs_at hv
    obtain ⟨r, hir, hat⟩ := paired_get hp he
    have s2 := sm1.trans sm
    have pgc := hpg.keep s2
    refine ⟨_, rfl, _, rfl, x, e, rs, i, r, rfl, pgc, ok, hir, hat.keep s2, fun H2 t2 => ?_⟩
    have s3 := s2.trans t2
    obtain ⟨dy, n', a', b', s', k', t', p', y', g1, g2⟩ := hat
    have hnm := g2.name
    subst hnm
    refine ⟨_, rfl, _, rfl, e, C, dy, _, _, rfl, s3 _ _ g1, RC.cl, RC.n1, rf_name, x, rs, i, r, rfl, hpg.keep s3, ok, hir, fun H3 t3 => ?_⟩
    have s4 := s3.trans t3
    refine ⟨_, rfl, vHome rs r, vHome rs r, rfl, _, rfl, ?_⟩
    refine itF (by rw [decide_eq_true rfl]; rfl) ?_
    refine ⟨_, rfl, _, rfl, e, C, dy, _, _, rfl, s4 _ _ g1, RC.cl, RC.n1, rf_name, rfl, x, rs, i, r, rfl, hpg.keep s4, ok, hir, fun H4 t4 => ?_⟩
    have s5 := s4.trans t4
    refine ⟨_, rfl, rfl, _, rfl, itF (by rw [decide_eq_true rfl]; rfl) ?_⟩
    refine ⟨_, rfl, e, C, dy, _, _, rfl, s5 _ _ g1, RC.cl, RC.n1, rf_name, _, rfl, rfl, x, rs, i, r, rfl, hpg.keep s5, ok, hir, fun H5 t5 => ?_⟩
    have s6 := s5.trans t5
    refine ⟨_, rfl, _, rfl, e, C, dy, _, _, rfl, s6 _ _ g1, RC.cl, RC.n1, rf_name, x, rs, i, r, rfl, hpg.keep s6, ok, hir, by omega, fun H6 t6 => ?_⟩
    refine ⟨vRight rs r, vRight rs r, rfl, _, rfl, itF (by rw [decide_eq_true rfl]; rfl) ⟨_, _, rfl, sm.trans (t2.trans (t3.trans (t4.trans (t5.trans t6))))⟩⟩
  · rintro σ Hc ⟨z4, z6, rfl, sm⟩
    have s2 := sm1.trans sm
    have at0 : atI ((rs.map (·.name)).map V.str) ((0 : Nat) : Int) = some (.str r0.name) := atI_nat (by rw [List.getElem?_map, hn0]; rfl)
    refine ⟨_, rfl, x, rs, r0, rfl, hpg.keep s2, ok, hr0, fun H2 t2 => ?_⟩
    have s3 := s2.trans t2
    refine ⟨_, rfl, _, rfl, L, _, _, _, rfl, rfl, SqL.of ((sm.trans t2) _ _ h1), at0, x, rs, 0, r0, rfl, hpg.keep s3, ok, hr0, by omega, fun H3 t3 => ?_⟩
    have s4 := s3.trans t3
    refine ⟨Rt rs r0.name, Rt rs r0.name, rfl, _, rfl, itF (by rw [decide_eq_true rfl]; rfl) ?_⟩
    refine ⟨_, rfl, rfl, x, rs, r0, rfl, hpg.keep s4, ok, hr0, fun H4 t4 => ?_⟩
    have s5 := s4.trans t4
    refine ⟨_, rfl, x, rs, r0, rfl, hpg.keep s5, ok, hr0, fun H5 t5 => ?_⟩
    have s6 := s5.trans t5
    refine ⟨rfl, _, rfl, itF (by rw [decide_eq_true rfl]; rfl) ?_⟩
    have kg6 : Kg T_ b H H5 := (Kg.refl hT).same s6
    refine odd D H5 b x L r0.name (rs.map (·.name)) rs k z0 z1 z3 z4 z6 z7 z8 (hB.keep s6) (hpg.keep s6) ok ((sm.trans (t2.trans (t3.trans (t4.trans t5)))) _ _ h1) hn0 (ok.all 0 r0 hr0).name kg6.tabs (fun H' z7 z8 kg Bk => q H' _ _ _ _ _ _ (kg6.trans kg) Bk)
/-- one turn: a program is drawn and asked -/
theorem law_turn (N : Fns P w K mg base T_ C D_ CN) (TB : TabB base mg c Pt) (inT : (Pt, fun _ _ => qLaw) ∈ T_) (uni : ∀ p ∈ T_, p.1 = Pt → p.2 = fun _ _ => qLaw) (A : Around) (outer : List Env) (s : Shared) (H0 : Hp) (E : XK) (hG : A.guards = some []) (hr : Room 60 (A.deeper (envOfC "law" (defScope sLaw) s.heap.objs.size f (.ref c)))) :
    ∃ t, PSs (cxOf CX0 P w K mg base nmLaw "law" (defScope sLaw) f (.ref c) A outer s H0 E).nox turnB t ∧
      ∀ (D : Ends) (H : Hp) (b : Addr) (i k : Nat) (z0 z1 z4 z5 z6 z7 z8 z9 : Option V), i < 2 → Bag H b (k + pc 3 + 1) → TabsN T_ H →
        (∀ H' z4 z5 z6 z7 z8 z9, Kg T_ b H H' → Bag H' b k → D.nx [z0, z1, some (.ref b), some (.int (0 + (i : Int))), z4, z5, z6, z7, z8, z9] H') → t D [z0, z1, some (.ref b), some (.int (0 + (i : Int))), z4, z5, z6, z7, z8, z9] H := by
  obtain ⟨t1, ht1, asks⟩ := law_asks N TB inT uni A outer s H0 E hG hr
  have hr32 := hr.mono (show 32 ≤ 60 by decide)
  have hs : sizeLine = 16777216 := sizeLine_eq
  refine ⟨_, pss_cons (ps_set (i := 9) scLaw.nd rfl (Or.inr rfl) (pe_D N.prog hr32 rfl (pa_cons (pv 2) (pa_cons pe_int (pa_cons (pe_ix ix_list (pe_lst (pa_cons (pe_tup (pa_cons pe_int (pa_cons pe_int (pa_cons pe_int (pa_cons pe_int pa_nil))))) (pa_cons (pe_tup (pa_cons pe_int (pa_cons pe_int (pa_cons pe_int (pa_cons pe_int pa_nil))))) pa_nil))) (pv 3) (fun _ _ => rfl)) pa_nil))))) ht1, ?_⟩
  intro D H b i k z0 z1 z4 z5 z6 z7 z8 z9 hi hB hT q
  have p23 : pc 2 ≤ pc 3 := by decide +kernel
  refine ⟨_, rfl, (by show 4 ≤ sizeLine; omega), fun p1 n1 => ⟨(by show 4 ≤ sizeLine; omega), fun p2 n2 => ⟨(by show 2 ≤ sizeLine; omega), fun p3 n3 => ?_⟩⟩⟩
  have s1 := same_new n1 (.tup [.int 9, .int 4, .int 10, .int 3])
  have s2 := same_new n2 (.tup [.int 3, .int 7, .int 10, .int 2])
  have s3 := same_new n3 (.lst [.ref p1, .ref p2])
  have g1 := s3 _ _ (s2 _ _ (@upd_same H p1 (.tup [.int 9, .int 4, .int 10, .int 3])))
  have g2 := s3 _ _ (@upd_same (upd H p1 (.tup [.int 9, .int 4, .int 10, .int 3])) p2 (.tup [.int 3, .int 7, .int 10, .int 2]))
  have g3 := @upd_same (upd (upd H p1 (.tup [.int 9, .int 4, .int 10, .int 3])) p2 (.tup [.int 3, .int 7, .int 10, .int 2])) p3 (.lst [.ref p1, .ref p2])
  have sA := s1.trans (s2.trans s3)
  generalize upd (upd (upd H p1 (.tup [.int 9, .int 4, .int 10, .int 3])) p2 (.tup [.int 3, .int 7, .int 10, .int 2])) p3 (.lst [.ref p1, .ref p2]) = H3 at *
  have B3 := hB.keep sA
  have kg3 : Kg T_ b H H3 := (Kg.refl hT).same sA
  have : i = 0 ∨ i = 1 := by omega
  rcases this with rfl | rfl
  · refine ⟨_, rfl, p3, _, _, _, rfl, rfl, SqL.of g3, atI_nat (j := 0) rfl, b, p1, 8, k + 1, 3, 10, 9, 4, rfl, by decide, by decide, B3.less (by omega), g1, by decide, ⟨by decide, by decide⟩, ⟨by decide, by decide⟩, by decide, kg3.tabs, fun x rs H4 _ k4 B4 hpg ok => ?_⟩
    exact asks D H4 b x rs k z0 z1 _ z4 z5 z6 z7 z8 B4 hpg ok k4.tabs (fun H' z4 z5 z6 z7 z8 z9 kg Bk => q H' _ _ _ _ _ _ (kg3.trans (k4.trans kg)) Bk)
  · refine ⟨_, rfl, p3, _, _, _, rfl, rfl, SqL.of g3, atI_nat (j := 1) rfl, b, p2, 8, k + 1, 2, 10, 3, 7, rfl, by decide, by decide, B3.less (by omega), g2, by decide, ⟨by decide, by decide⟩, ⟨by decide, by decide⟩, by decide, kg3.tabs, fun x rs H4 _ k4 B4 hpg ok => ?_⟩
    exact asks D H4 b x rs k z0 z1 _ z4 z5 z6 z7 z8 B4 hpg ok k4.tabs (fun H' z4 z5 z6 z7 z8 z9 kg Bk => q H' _ _ _ _ _ _ (kg3.trans (k4.trans kg)) Bk)
end
end Any
set_option pp.maxSteps 600
set_option maxHeartbeats 4000000
namespace Any
open L2 PySem PySem.Spec PyProof.Rows LamX NdefX
/-- a room made by its name alone: what lacks is e1, e2, e3 (empty tuples) and such -/
def Mk0R (P : Program) (w : World) (K : PySem.W.Frag) (mg : Str → Option Value) (base : Heap) (C e1 e2 e3 : Addr) : Prop :=
  ∃ f fd ds, mg "Room" = some (.ref C) ∧ Mk K C f ∧ FnOk P w K mg base CX0 1 f fd psRI (spRInit C) ∧ Binds K fd psRI ds ∧ Vals [.str "", .ref e1, .ref e2, .non, .non, .non, .ref e3] ds
theorem pe_R0 {X : Cx} {C e1 e2 e3 : Addr} {p pos : Pos} {e : Expr} {es : List Expr} {t : TA} (D : Mk0R X.prog X.w X.K X.mg X.base C e1 e2 e3) (hr : Room 2 X.A) (hg : Gl X "Room") (ha : PA X (e :: es) t)
    (he : starEach (e :: es) X.env = (false, eval e X.env) :: starEach es X.env := by rfl) (hpl : (backTo pos (starEach es X.env)).any (·.1) = false := by rfl) : PE X (.Call (.Name "Room" p) (e :: es) [] pos) (tMake C (spRInit C) [.str "", .ref e1, .ref e2, .non, .non, .non, .ref e3] E0 t) := by
  obtain ⟨f, fd, ds, hm, M, F, hb, hd⟩ := D
  exact pe_make M F hr hg hm hb hd pass0 ha (by decide) he hpl
abbrev rmA : Rm := ⟨"a", "", [], [], none, none, none, .nil⟩
theorem right_a : Right [rmA] := by
  refine ⟨Nat.le_refl _, by show 1 ≤ 8; decide, fun i r h => ?_⟩
  cases i with
  | succ i => simp at h
  | zero =>
    cases h
    refine ⟨by decide +kernel, (fun m => by cases m), ⟨fun _ => rfl, fun h => absurd rfl h⟩, ⟨Nat.zero_le _, (fun b hb => by cases hb), List.nodup_nil⟩, rfl, ⟨Nat.zero_le _, fun t ht => by cases ht⟩, fun _ => ⟨⟨rfl, rfl, rfl⟩, ?_⟩, fun h => absurd rfl h⟩
    refine ⟨?_, ?_, ?_, ?_⟩
    · show Bd.ok _ _ _ .nil
      unfold Bd.ok
      trivial
    · show Bd.len .nil ≤ 12
      unfold Bd.len
      decide
    · show Bd.dp .nil ≤ 4
      unfold Bd.dp
      decide
    · show Bd.tot .nil ≤ 30
      unfold Bd.tot
      decide
theorem rt_a : Rt [rmA] "a" = 1 := by
  have z := rt_at right_a (i := 0) (r := rmA) rfl
  have e : ben [rmA] rmA.name = [] := by decide +kernel
  rw [e] at z
  have h : rmA.home (Wt [rmA]) = 1 := by
    unfold Rm.home
    show (if ("" : Str) = "" then (1 : Int) else 4) + Bd.wt _ .nil = 1
    unfold Bd.wt
    rw [if_pos rfl]
    rfl
  rw [h] at z
  exact z
structure FunL (K : PySem.W.Frag) (x qual : Str) (st : Stmt) (f : Addr) (fd : FuncData) (c : Addr) : Prop where
  ex : ∃ (oc : Value) (od : Option Addr) (kV doc pm : Value) (an : Option Addr) (ct : Value) (osl : Array (Option Value)),
    fd = PySem.W.fnOf x qual (defArgs st) (defBody st) (defScope st) .none kV doc pm an (.ref c) ct ∧ K.lookup f = some ⟨oc, od, .func fd, osl⟩ ∧ PySem.W.codeIn K (.ref c) qual = true
theorem funL_g {P : Program} {w : World} {K : PySem.W.Frag} {mg : Str → Option Value} {base : Heap} {f c : Addr} {fd : FuncData} {x ql : Str} {st : Stmt} {N ps : List Str} {k : Nat} {sp : Sp} (F : FunL K x ql st f fd c) (S : FnScope N ps (defScope st)) (ln : ∀ vs H Q E, sp vs H Q E → vs.length = ps.length)
    (hb : ∀ (A : Around) (out : List Env) (s : Shared) (H : Hp) (vs : List V) (Q : VK) (E : XK), A.guards = some [] → Room k (A.deeper (envOfC ql (defScope st) s.heap.objs.size f (.ref c))) → sp vs H Q E →
      ∃ t, PSs (cxOf CX0 P w K mg base N ql (defScope st) f (.ref c) A out s H E).nox (defBody st) t ∧ t ⟨fun _ H' => Q .non H', Q, fun _ _ => False, fun _ _ => False⟩ (L2.start N vs) H) : FnG P w K mg base CX0 (k + 1) f fd ps sp := by
  obtain ⟨_, _, _, _, _, _, _, _, rfl, lk, hc⟩ := F.ex
  refine fn_g lk hc S ln fun A out s H vs Q E hg hr hs => ?_
  obtain ⟨t, h, q⟩ := hb A out s H vs Q E hg hr hs
  exact ⟨t, h.nox, q⟩
def spLaw (K : PySem.W.Frag) (T_ : List NTab) (es : List Addr) : Sp := fun vs H Q _ => ∃ (a : Addr) (ns : List Int), vs = [.ref a] ∧ SqL K H a (ns.map V.int) ∧ TabsN T_ H ∧ (∀ e ∈ es, H e = some (.tup [])) ∧ ∀ H', Q (.bl true) H'
section
variable {P : Program} {w : World} {K : PySem.W.Frag} {mg : Str → Option Value} {base : Heap} {T_ : List NTab} {f c Pt C D_ CN e1 e2 e3 : Addr} {fd : FuncData}
/-- the last line -/
theorem law_end (N : Fns P w K mg base T_ C D_ CN) (MR : Mk0R P w K mg base C e1 e2 e3) (MP : Mk1 P w K mg base 30 "Program" D_ ["self", "rooms"] (spPInit T_ C D_)) (A : Around) (outer : List Env) (s : Shared) (H0 : Hp) (E : XK) (hr : Room 60 (A.deeper (envOfC "law" (defScope sLaw) s.heap.objs.size f (.ref c)))) :
    ∃ t, PSs (cxOf CX0 P w K mg base nmLaw "law" (defScope sLaw) f (.ref c) A outer s H0 E).nox ((defBody sLaw).drop 1) t ∧ ∀ (D : Ends) (σ : L2.St) (H : Hp), TabsN T_ H → H e1 = some (.tup []) → H e2 = some (.tup []) → H e3 = some (.tup []) → (∀ H', D.rt (.bl true) H') → t D σ H := by
  have hs : sizeLine = 16777216 := sizeLine_eq
  refine ⟨_, pss_one (ps_ret (pe_cmpR op_eq (pe_D N.bo (hr.mono (by decide)) rfl (pa_cons (pe_C MP (hr.mono (by decide)) rfl (pa_cons (pe_tup (pa_cons (pe_R0 MR (hr.mono (by decide)) rfl (pa_cons pe_str pa_nil)) pa_nil)) pa_nil)) pa_nil)) pe_int (nomark _))), ?_⟩
  intro D σ H hT h1 h2 h3 q
  intro x dx hx hdx ne
  refine ⟨x, dx, .str "a", .str "", .ref e1, .ref e2, .non, .non, .non, .ref e3, rfl, upd_same, rfl, ?_⟩
  have s1 : Same H (upd (upd (upd H dx (.own x)) x (.ins C dx [])) x (.ins C dx (roomF (.str "a") (.str "") (.ref e1) (.ref e2) .non .non .non (.ref e3)))) := fun c o hc => by
    rw [upd_ne (ne_of_none hc hx), upd_ne (ne_of_none hc hx), upd_ne (ne_of_none hc hdx)]
    exact hc
  have hat : RmAt C (upd (upd (upd H dx (.own x)) x (.ins C dx [])) x (.ins C dx (roomF (.str "a") (.str "") (.ref e1) (.ref e2) .non .non .non (.ref e3)))) x rmA :=
    ⟨dx, _, _, _, _, _, _, _, _, upd_same, rfl, rfl, ⟨e1, rfl, [], s1 _ _ h1, .nil⟩, ⟨e2, rfl, [], s1 _ _ h2, .nil⟩, rfl, rfl, rfl, ⟨e3, rfl, [], s1 _ _ h3, by unfold BdL; rfl⟩⟩
  generalize upd (upd (upd H dx (.own x)) x (.ins C dx [])) x (.ins C dx (roomF (.str "a") (.str "") (.ref e1) (.ref e2) .non .non .non (.ref e3))) = H1 at *
  refine ⟨(by show 1 ≤ sizeLine; omega), fun R hR => ?_⟩
  have s2 := same_new hR (.tup [.ref x])
  have r1 : RsAt C (upd H1 R (.tup [.ref x])) R [rmA] := ⟨[x], upd_same, .cons (hat.keep s2) .nil⟩
  intro y dy hy hdy ney
  have s3 : Same (upd H1 R (.tup [.ref x])) (upd (upd (upd H1 R (.tup [.ref x])) dy (.own y)) y (.ins D_ dy [])) := fun a o ha => by
    rw [upd_ne (ne_of_none ha hy), upd_ne (ne_of_none ha hdy)]
    exact ha
  have g1 := Gr.of hT ((s1.trans s2).trans s3)
  have gR := Gr.of hT (s1.trans s2)
  refine ⟨y, dy, R, [rmA], rfl, upd_same, r1.keepS s3, right_a, g1.tabs, fun p H3 k3 h3' hp3 => ⟨rfl, ?_⟩⟩
  have g3 : Gr T_ (upd H1 R (.tup [.ref x])) H3 := gr_kg (Gr.of gR.tabs s3) hy k3
  refine ⟨y, [rmA], rmA, rfl, ⟨R, ⟨dy, _, h3'⟩, r1.gr g3⟩, right_a, rfl, fun H4 _ => ⟨rfl, ?_⟩⟩
  rw [rt_a]
  exact q H4
theorem ok_law (N : Fns P w K mg base T_ C D_ CN) (MR : Mk0R P w K mg base C e1 e2 e3) (MP : Mk1 P w K mg base 30 "Program" D_ ["self", "rooms"] (spPInit T_ C D_)) (mmax : mg "max" = none) (mmin : mg "min" = none) (TB : TabB base mg c Pt) (inT : (Pt, fun _ _ => qLaw) ∈ T_) (uni : ∀ p ∈ T_, p.1 = Pt → p.2 = fun _ _ => qLaw)
    (F : FunL K "law" "law" sLaw f fd c) : FnG P w K mg base CX0 61 f fd ["_law_script"] (spLaw K T_ [e1, e2, e3]) := by
  refine funL_g F scLaw (fun vs H Q E h => ?_) (fun A outer s H vs Q E hG hr h => ?_)
  · obtain ⟨a, ns, rfl, _⟩ := h
    rfl
  obtain ⟨a, ns, rfl, hS, hT, he, q⟩ := h
  obtain ⟨tE, htE, fin⟩ := law_end (f := f) (c := c) N MR MP A outer s H E hr
  obtain ⟨tT, htT, turn⟩ := law_turn (f := f) (c := c) N TB inT uni A outer s H E hG hr
  have hr1 := hr.mono (show 1 ≤ 60 by decide)
  have pb : 2 * (pc 3 + 1) ≤ 1000000000 := by decide +kernel
  refine ⟨_, pss_cons (ps_for PassesOwn.never rfl (pi_range1 rfl N.mr (pa_cons (pe_callB (call_max2 rfl) rfl mmax (by decide +kernel) (pa_cons pe_int (pa_cons (pe_callB (call_min2 rfl) rfl mmin (by decide +kernel) (pa_cons pe_int (pa_cons (pe_callB call_len_seq rfl N.O.len PySem.boot_len (pa_cons (pv 0) pa_nil)) pa_nil))) pa_nil))) pa_nil)) (pg_name (i := 1) scLaw.nd rfl (Or.inl rfl))
      (pss_cons (ps_set (i := 2) scLaw.nd rfl (Or.inl rfl) (pe_D N.bag hr1 rfl (pa_cons (pv 0) (pa_cons (pv 1) pa_nil))))
      (pss_one (ps_for PassesOwn.never rfl (pi_range1 rfl N.mr (pa_cons pe_int pa_nil)) (pg_name (i := 3) scLaw.nd rfl (Or.inl rfl)) htT)))) htE, ?_⟩
  refine ⟨_, rfl, a, _, rfl, .inl hS, _, _, rfl, _, _, rfl, _, rfl, ?_, ?_, ?_⟩
  · split <;> (try split) <;> omega
  · rw [List.length_map]
    split <;> (try split) <;> omega
  refine for_range (lo := 0) (fun i σ Hc => ∃ z1 z2 z3 z4 z5 z6 z7 z8 z9 : Option V, σ = [some (.ref a), z1, z2, z3, z4, z5, z6, z7, z8, z9] ∧ Gr T_ H Hc) ⟨_, _, _, _, _, _, _, _, _, rfl, .refl hT⟩ ?_ ?_
  · rintro i σ Hc hi ⟨z1, z2, z3, z4, z5, z6, z7, z8, z9, rfl, g⟩
    have hi4 : i < 4 := by
      rw [List.length_map] at hi
      split at hi <;> (try split at hi) <;> omega
    refine ⟨_, rfl, _, rfl, a, ns, _, rfl, g.seq hS, by omega, by omega, fun b H1 nb s1 B1 => ?_⟩
    have g1 := g.same s1
    have nb0 : H b = none := g.no b nb
    refine ⟨2, rfl, by decide, by decide, ?_⟩
    refine for_range (lo := 0) (fun j σ Hd => ∃ y3 y4 y5 y6 y7 y8 y9 : Option V, σ = [some (.ref a), some (.int (0 + (i : Int))), some (.ref b), y3, y4, y5, y6, y7, y8, y9] ∧ Kg T_ b H1 Hd ∧ Bag Hd b ((2 - j) * (pc 3 + 1))) ⟨_, _, _, _, _, _, _, rfl, .refl g1.tabs, B1.less (by omega)⟩ ?_ ?_
    · rintro j σ Hd hj ⟨y3, y4, y5, y6, y7, y8, y9, rfl, kg, Bd⟩
      have hj : j < 2 := hj
      obtain ⟨e, he⟩ : ∃ e, 2 - j = e + 1 := ⟨1 - j, by omega⟩
      have he2 : 2 - (j + 1) = e := by omega
      rw [he, Nat.succ_mul] at Bd
      refine turn _ Hd b j (e * (pc 3 + 1)) _ _ y4 y5 y6 y7 y8 y9 hj (Bd.less (by omega)) kg.tabs (fun H' z4 z5 z6 z7 z8 z9 kg' Bk => ⟨_, _, _, _, _, _, _, rfl, kg.trans kg', ?_⟩)
      rw [he2]
      exact Bk
    · rintro σ Hd ⟨y3, y4, y5, y6, y7, y8, y9, rfl, kg, Bd⟩
      exact ⟨_, _, _, _, _, _, _, _, _, rfl, gr_kg g1 nb0 kg⟩
  · rintro σ Hc ⟨z1, z2, z3, z4, z5, z6, z7, z8, z9, rfl, g⟩
    exact fin _ _ Hc g.tabs (g.tup (he e1 (by simp))) (g.tup (he e2 (by simp))) (g.tup (he e3 (by simp))) q
end
end Any
set_option pp.maxSteps 600
set_option maxHeartbeats 4000000
namespace Any
open L2 PySem PySem.Spec PyProof.Rows LamX NdefX
/-! ### a room made of its name alone: its parts are empty tuples of the kept part -/
def tNo : TE := fun _ _ _ => False
theorem pe_nv {X : Cx} {e : Expr} : PE X e tNo := ⟨fun _ _ _ _ _ _ h => h.elim⟩
theorem sqt_keep {K : PySem.W.Frag} {H H' : Hp} {a : Addr} {xs : List V} (h : SqT K H a xs) (s : Same H H') : SqT K H' a xs := by
  rcases h with (h | ⟨o, h⟩) | h
  · exact .inl (.inl (s _ _ h))
  · exact .inl (.inr ⟨o, s _ _ h⟩)
  · exact .inr h
structure RmK (K : PySem.W.Frag) (C : Addr) (H : Hp) (x dx e1 e2 e3 : Addr) : Prop where
  at_ : H x = some (.ins C dx (roomF (.str "a") (.str "") (.ref e1) (.ref e2) .non .non .non (.ref e3)))
  b1 : SqT K H e1 []
  b2 : SqT K H e2 []
  b3 : SqT K H e3 []
theorem RmK.keep {K : PySem.W.Frag} {C : Addr} {H H' : Hp} {x dx e1 e2 e3 : Addr} (h : RmK K C H x dx e1 e2 e3) (s : Same H H') : RmK K C H' x dx e1 e2 e3 := ⟨s _ _ h.at_, sqt_keep h.b1 s, sqt_keep h.b2 s, sqt_keep h.b3 s⟩
/-- the tuple of that room -/
def OneK (K : PySem.W.Frag) (C : Addr) (H : Hp) (R x dx e1 e2 e3 : Addr) : Prop := H R = some (.tup [.ref x]) ∧ RmK K C H x dx e1 e2 e3
theorem OneK.keep {K : PySem.W.Frag} {C : Addr} {H H' : Hp} {R x dx e1 e2 e3 : Addr} (h : OneK K C H R x dx e1 e2 e3) (s : Same H H') : OneK K C H' R x dx e1 e2 e3 := ⟨s _ _ h.1, h.2.keep s⟩
theorem tyx_tup {K : PySem.W.Frag} {H : Hp} {a : Addr} {xs : List V} (h : SqT K H a xs) : TyX K H (.ref a) (.type "tuple") := by
  rcases h with (h | ⟨o, h⟩) | ⟨o, its, n, h1, h2, _⟩
  · exact .base (.tup h)
  · exact .fTuple h
  · exact .kTuple h1 h2
def spA1 (K : PySem.W.Frag) (C : Addr) (v : V) : Sp := fun vs H Q _ => ∃ R x dx e1 e2 e3, vs = [.ref R] ∧ OneK K C H R x dx e1 e2 e3 ∧ ∀ H', Same H H' → Q v H'
def spA2 (K : PySem.W.Frag) (C : Addr) (v : V) : Sp := fun vs H Q _ => ∃ R x dx e1 e2 e3, vs = [.ref R, .int 0] ∧ OneK K C H R x dx e1 e2 e3 ∧ ∀ H', Same H H' → Q v H'
def spA3 (K : PySem.W.Frag) (C : Addr) (v : V) : Sp := fun vs H Q _ => ∃ R x dx e1 e2 e3 wd, vs = [.ref R, .int 0, .ref wd] ∧ OneK K C H R x dx e1 e2 e3 ∧ ∀ H', Same H H' → Q v H'
/-- of an empty tuple -/
def spE (K : PySem.W.Frag) (v : V) : Sp := fun vs H Q _ => ∃ e, vs = [.ref e] ∧ SqT K H e [] ∧ ∀ H', Same H H' → Q v H'
/-- of the room -/
def spRo (K : PySem.W.Frag) (C : Addr) (v : V) : Sp := fun vs H Q _ => ∃ x dx e1 e2 e3, vs = [.ref x] ∧ RmK K C H x dx e1 e2 e3 ∧ ∀ H', Same H H' → Q v H'
section
variable {P : Program} {w : World} {K : PySem.W.Frag} {mg : Str → Option Value} {base : Heap} {f C D : Addr} {fd : FuncData}
theorem no_turn {g : TG} {tt : TT} {te : TE} {vs : List Nat} {σ : L2.St} {H1 : Hp} {e D : Addr} {Qd : Hp → Prop} (he : SqT K H1 e []) (hD : H1 D = none) (q : ∀ H', Same H1 H' → H' D = some (.lst []) → Qd H') : Turns (Itt K e) g tt te vs σ H1 D Qd :=
  turns_tup (K := K) (a := e) (xs := []) [] hD (fun Hc sm => sqt_keep he sm) rfl (Nat.zero_le _) (fun i x o Hc Y N hx => by simp at hx) (fun Hc hc sm => q Hc sm hc)
theorem a_rooms (O : Own mg) (T : RoomC K C) (TI : RoomI K C) (mR : mg "Room" = some (.ref C)) (F : Fun K "are_rooms" "are_rooms" sRooms f fd) {t8 : Tok} (m8 : mg "MOST_ROOMS" = some (.int 8 t8)) : FnOk P w K mg base CX0 1 f fd ["things"] (spA1 K C (.bl true)) := by
  refine F.ok scRooms (fun vs H Q E h => ?_) (fun cdv A outer s H vs Q E hr h => ?_)
  · obtain ⟨R, x, dx, e1, e2, e3, rfl, _⟩ := h
    rfl
  obtain ⟨R, x, dx, e1, e2, e3, rfl, ⟨hR, hx⟩, q⟩ := h
  have hs : sizeLine = 16777216 := sizeLine_eq
  refine ⟨_, pss_cons (ps_if (PW.pt (pw_or (pt_not (pt_val (pe_callB call_isi rfl O.isi (by decide +kernel) (pa_cons (pv 0) (pa_cons (pe_bltn (v := .ty "tuple") rfl O.tuple (by decide +kernel) rfl) pa_nil)))))
      (pw_or1 (pt_not (pt_chain op_le op_le pe_int (pe_callB call_len_seq rfl O.len PySem.boot_len (pa_cons (pv 0) pa_nil)) (pe_glob (v := .int 8) rfl m8 ⟨_, rfl⟩)))))) (pss_one (ps_ret pe_bl)) pss_nil)
    (pss_one (ps_ret (pe_callB (cr_all rfl) rfl O.all (by decide +kernel) (pa_cons (pe_lc (own := [("thing", 1)]) (g := gName 1) (tt := tYes) rfl scRooms.nd
            (pi_tup (pv 0)) (blkOk_by (N := ["things", "thing"]) (sc := defScope sRooms) (by decide +kernel))
            (fun _ _ _ _ _ => pg_name (i := 1) scRooms.nd rfl (Or.inl rfl)) (fun _ _ _ _ _ => pts_nil)
            (fun _ _ _ _ _ => pe_callB (show CallR _ (.builtin "isinstance") (rIsi K) from call_isi) rfl O.isi (by decide +kernel) (pa_cons (pv 1) (pa_cons (pe_glob (v := .ref C) rfl mR rfl) pa_nil)))) pa_nil)))), ?_⟩
  refine ⟨_, rfl, _, _, _, _, true, rfl, .ty "tuple", .base (.tup hR), kb "tuple" "tuple" true, _, rfl, itF rfl ?_⟩
  refine ⟨_, rfl, R, _, rfl, .inr (SqT.of hR), _, _, rfl, rfl, _, rfl, itT rfl ⟨_, _, rfl, rfl, _, rfl, itF rfl ?_⟩⟩
  refine ⟨_, rfl, R, rfl, ⟨_, SqT.of hR⟩, fun D hD => ?_⟩
  refine turns_tup (K := K) (a := R) (xs := [.ref x]) [some (.bl true)] hD (fun Hc sm => SqT.of (sm _ _ hR)) rfl (by show 1 ≤ sizeLine; omega) ?_ ?_
  · intro i z o Hc Y N hz ho sm hY hN
    cases i with
    | succ i => simp at hz
    | zero =>
      cases hz
      exact ⟨rfl, _, rfl, _, _, _, _, true, rfl, .own C, .base (.ins (sm _ _ hx.at_) T.cl TI.ha TI.hn TI.htk TI.hm), TI.one, hY _ (Option.some.inj ho).symm Hc same_refl⟩
  · intro Hc hc sm
    exact ⟨D, [true], rfl, SqL.of hc, q Hc sm⟩
theorem a_name (T : RoomC K C) (GN : Df P w K mg base 1 "is_name" ["thing"] spName) (F : Fun K "name_fits" "name_fits" sNameF f fd) : FnOk P w K mg base CX0 2 f fd ["rooms", "at"] (spA2 K C (.bl true)) := by
  refine F.ok scNameF (fun vs H Q E h => ?_) (fun cdv A outer s H vs Q E hr h => ?_)
  · obtain ⟨R, x, dx, e1, e2, e3, rfl, _⟩ := h
    rfl
  obtain ⟨R, x, dx, e1, e2, e3, rfl, ⟨hR, hx⟩, q⟩ := h
  have hs : sizeLine = 16777216 := sizeLine_eq
  refine ⟨_, pss_cons (ps_set (i := 2) scNameF.nd rfl (Or.inl rfl) (pe_fld (pe_ix ix_tup (pv 0) (pv 1) (fun _ _ => rfl)) rfl))
    (pss_one (ps_ret (pe_and (pe_D GN hr rfl (pa_cons (pv 2) pa_nil)) (pe_one (pe_cmpR op_notIn_seq (pv 2) (pe_lc (own := [("room", 3)]) (g := gName 3) (tt := tYes) (te := tNo) rfl scNameF.nd
            (pi_tup (pe_slice sl_tup (pv 0) po_none (po_some (pv 1)))) (blkOk_by (N := ["rooms", "at", "name", "room"]) (sc := defScope sNameF) (by decide +kernel))
            (fun _ _ _ _ _ => pg_name (i := 3) scNameF.nd rfl (Or.inl rfl)) (fun _ _ _ _ _ => pts_nil) (fun _ _ _ _ _ => pe_nv)) (by rfl)))))), ?_⟩
  refine ⟨_, rfl, _, rfl, R, _, 0, _, rfl, rfl, SqT.of hR, atI_nat (j := 0) rfl, x, C, dx, _, _, rfl, hx.at_, T.cl, T.n1, rf_name, ?_⟩
  refine ⟨_, rfl, "a", rfl, by decide +kernel, fun H1 s1 => ⟨_, rfl, itT rfl ?_⟩⟩
  refine ⟨_, rfl, _, rfl, _, rfl, 0, rfl, R, _, rfl, SqT.of (s1 _ _ hR), ?_, fun p2 hp2 => ⟨p2, rfl, ⟨_, SqT.of upd_same⟩, fun L hL => ?_⟩⟩
  · intro z
    have e := z.2
    rw [show (some (0 : Int)) = some (((0 : Nat) : Int)) from rfl, HT.sIx_nat] at e
    have e : (0 : Nat) = 1 := e
    cases e
  have ec : cutV [V.ref x] none (some (0 : Int)) = [] := cut_to [V.ref x] 0 (Nat.zero_le _)
  rw [ec] at hL ⊢
  have s2 := s1.trans (same_new hp2 (.tup []))
  refine no_turn (K := K) (SqT.of upd_same) hL (fun Hc sm hc => ?_)
  exact ⟨L, _, rfl, .inl (SqL.of hc), rfl, rfl, q Hc (s2.trans sm)⟩
theorem a_above (T : RoomC K C) (F : Fun K "above_fits" "above_fits" sAboveF f fd) : FnOk P w K mg base CX0 2 f fd ["rooms", "at"] (spA2 K C (.bl true)) := by
  refine F.ok scAboveF (fun vs H Q E h => ?_) (fun cdv A outer s H vs Q E hr h => ?_)
  · obtain ⟨R, x, dx, e1, e2, e3, rfl, _⟩ := h
    rfl
  obtain ⟨R, x, dx, e1, e2, e3, rfl, ⟨hR, hx⟩, q⟩ := h
  refine ⟨_, pss_cons (ps_set (i := 2) scAboveF.nd rfl (Or.inl rfl) (pe_fld (pe_ix ix_tup (pv 0) (pv 1) (fun _ _ => rfl)) rfl))
    (pss_cons (ps_if (pt_cmpR op_eq (pv 1) pe_int (nomark _)) (pss_one (ps_ret (pe_cmpR op_eq (pv 2) pe_str (nomark _)))) pss_nil) (pss_one ps_never)), ?_⟩
  refine ⟨_, rfl, _, rfl, R, _, 0, _, rfl, rfl, SqT.of hR, atI_nat (j := 0) rfl, x, C, dx, _, _, rfl, hx.at_, T.cl, T.n2, rf_above, ?_⟩
  exact ⟨_, rfl, rfl, _, rfl, itT rfl ⟨_, rfl, rfl, q H same_refl⟩⟩
theorem a_first (T : RoomC K C) (F : Fun K "first_fault" "first_fault" sFirstF f fd) : FnOk P w K mg base CX0 1 f fd ["room"] (spRo K C (.str "")) := by
  refine F.ok scFirstF (fun vs H Q E h => ?_) (fun cdv A outer s H vs Q E hr h => ?_)
  · obtain ⟨x, dx, e1, e2, e3, rfl, _⟩ := h
    rfl
  obtain ⟨x, dx, e1, e2, e3, rfl, hx, q⟩ := h
  have h1 := hx.at_
  refine ⟨_, pss_cons (ps_if (pt_cmpR op_notN (pe_fld (pv 0) rfl) pe_non (nomark _)) (pss_one (ps_ret pe_str)) pss_nil)
    (pss_cons (ps_if (pt_cmpR op_notN (pe_fld (pv 0) rfl) pe_non (nomark _)) (pss_one (ps_ret pe_str)) pss_nil)
    (pss_cons (ps_if (pt_cmpR op_notN (pe_fld (pv 0) rfl) pe_non (nomark _)) (pss_one (ps_ret pe_str)) pss_nil)
    (pss_one (ps_ret pe_str)))), ?_⟩
  refine ⟨_, rfl, x, C, dx, _, _, rfl, h1, T.cl, T.n5, rf_ask, rfl, _, rfl, itF rfl ?_⟩
  refine ⟨_, rfl, x, C, dx, _, _, rfl, h1, T.cl, T.n6, rf_told, rfl, _, rfl, itF rfl ?_⟩
  exact ⟨_, rfl, x, C, dx, _, _, rfl, h1, T.cl, T.n7, rf_promise, rfl, _, rfl, itF rfl (q H same_refl)⟩
theorem a_boxes (O : Own mg) (mset : mg "set" = none) (msrt : mg "sorted" = none) (F : Fun K "boxes_fit" "boxes_fit" sBoxesF f fd) {t4 : Tok} (m4 : mg "MOST_BOXES" = some (.int 4 t4)) : FnOk P w K mg base CX0 4 f fd ["boxes"] (spE K (.bl true)) := by
  refine F.ok scBoxesF (fun vs H Q E h => ?_) (fun cdv A outer s H vs Q E hr h => ?_)
  · obtain ⟨e, rfl, _⟩ := h
    rfl
  obtain ⟨c, rfl, hc, q⟩ := h
  have hs : sizeLine = 16777216 := sizeLine_eq
  refine ⟨_, pss_cons (ps_if (PW.pt (pw_or (pt_not (pt_val (pe_callB call_isi rfl O.isi (by decide +kernel) (pa_cons (pv 0) (pa_cons (pe_bltn (v := .ty "tuple") rfl O.tuple (by decide +kernel) rfl) pa_nil)))))
      (pw_or1 (pt_cmpR op_gt (pe_callB call_len_seq rfl O.len PySem.boot_len (pa_cons (pv 0) pa_nil)) (pe_glob (v := .int 4) rfl m4 ⟨_, rfl⟩) (nomark _))))) (pss_one (ps_ret pe_bl)) pss_nil)
    (pss_cons (ps_if (pt_not (pt_val (pe_callB (cr_all rfl) rfl O.all (by decide +kernel) (pa_cons (pe_lc (own := [("box", 2)]) (g := gName 2) (tt := tYes) (te := tNo) rfl scBoxesF.nd (pi_tup (pv 0)) (blkOk_by (N := ["boxes", "names", "box"]) (sc := defScope sBoxesF) (by decide +kernel))
        (fun _ _ _ _ _ => pg_name (i := 2) scBoxesF.nd rfl (Or.inl rfl)) (fun _ _ _ _ _ => pts_nil) (fun _ _ _ _ _ => pe_nv)) pa_nil)))) (pss_one (ps_ret pe_bl)) pss_nil)
    (pss_cons (ps_setLc (i := 1) (own := [("box", 2)]) (g := gName 2) (tt := tYes) (te := tNo) (by rfl) scBoxesF.nd rfl rfl (sw_true rfl rfl rfl (by decide +kernel)) (pi_tup (pv 0)) (blkOk_by (N := ["boxes", "names", "box"]) (sc := defScope sBoxesF) (by decide +kernel))
        (fun _ _ _ _ _ => pg_name (i := 2) scBoxesF.nd rfl (Or.inl rfl)) (fun _ _ _ _ _ => pts_nil) (fun _ _ _ _ _ => pe_nv))
    (pss_one (ps_ret (pe_cmpR (op_eqV hr.units) (pv 1) (pe_callB (cr_sortedX rfl) rfl msrt (by decide +kernel) (pa_cons (pe_callTy (cr_setX rfl) rfl mset (by decide +kernel) (pa_cons (pv 1) pa_nil)) pa_nil)) (nomark _)))))), ?_⟩
  refine ⟨_, rfl, _, _, _, _, true, rfl, .ty "tuple", tyx_tup hc, kb "tuple" "tuple" true, _, rfl, itF rfl ?_⟩
  refine ⟨_, rfl, _, _, rfl, .inr hc, _, _, rfl, rfl, _, rfl, itF rfl ?_⟩
  refine ⟨_, rfl, c, rfl, ⟨_, hc⟩, fun D hD => ?_⟩
  refine no_turn (K := K) hc hD (fun H1 s1 hc1 => ?_)
  refine ⟨D, [], rfl, SqL.of hc1, _, rfl, itF rfl ?_⟩
  refine ⟨_, rfl, c, rfl, ⟨_, sqt_keep hc s1⟩, fun D2 hD2 => ?_⟩
  refine no_turn (K := K) (sqt_keep hc s1) hD2 (fun H2 s2 hc2 => ?_)
  have s3 := s1.trans s2
  refine ⟨_, rfl, _, rfl, D2, [], rfl, SqL.of hc2, List.nodup_nil, (by decide), fun p2 hp2 => ?_⟩
  refine ⟨p2, [], rfl, upd_same, (by decide), fun ys p3 pm srt hp3 => ?_⟩
  have ey : ys = [] := List.perm_nil.mp pm
  subst ey
  have s4 := Same.trans (same_new hp2 _) (same_new hp3 (.lst []))
  exact ⟨1, by decide, .inl ⟨D2, p3, _, _, rfl, rfl, SqL.of (s4 _ _ hc2), SqL.of upd_same, .nil⟩, q _ (s3.trans s4)⟩
end
end Any
set_option pp.maxSteps 600
set_option maxHeartbeats 4000000
namespace Any
open L2 PySem PySem.Spec PyProof.Rows LamX NdefX
/-- of an empty body -/
def spE5 (K : PySem.W.Frag) : Sp := fun vs H Q _ => ∃ (e b w_ n : Addr), vs = [.ref e, .ref b, .ref w_, .ref n, .int 4] ∧ SqT K H e [] ∧ ∀ H', Same H H' → Q (.bl true) H'
def spE4 (K : PySem.W.Frag) : Sp := fun vs H Q _ => ∃ (e b w_ n : Addr), vs = [.ref e, .ref b, .ref w_, .ref n] ∧ SqT K H e [] ∧ ∀ H', Same H H' → Q (.bl true) H'
/-- .. that hands back an empty list -/
def spEL (K : PySem.W.Frag) : Sp := fun vs H Q _ => ∃ e, vs = [.ref e] ∧ SqT K H e [] ∧ ∀ p H', Same H H' → H' p = some (.lst []) → Q (.ref p) H'
def spRoL (K : PySem.W.Frag) (C : Addr) : Sp := fun vs H Q _ => ∃ x dx e1 e2 e3, vs = [.ref x] ∧ RmK K C H x dx e1 e2 e3 ∧ ∀ p H', Same H H' → H' p = some (.lst []) → Q (.ref p) H'
section
variable {P : Program} {w : World} {K : PySem.W.Frag} {mg : Str → Option Value} {base : Heap} {f C D : Addr} {fd : FuncData}
theorem for_none {e : Addr} {g : TG} {tb : TS} {D : Ends} {σ : L2.St} {H : Hp} (he : SqT K H e []) (q : D.nx σ H) : Loop (Itt K e) g tb D σ H :=
  for_tup (K := K) (a := e) (xs := []) (fun i σ' H' => σ' = σ ∧ H' = H) ⟨rfl, rfl⟩ (fun i σ' H' _ h => by rw [h.2]; exact he) (fun i x σ' H' hx => by simp at hx) (fun σ' H' h => by rw [h.1, h.2]; exact q)
theorem a_says (O : Own mg) (T : RoomC K C) (F : Fun K "sayings_fit" "sayings_fit" sSaysF f fd) {t4 : Tok} (m4 : mg "MOST_SAYINGS" = some (.int 4 t4)) : FnOk P w K mg base CX0 17 f fd ["room"] (spRo K C (.bl true)) := by
  refine F.ok scSaysF (fun vs H Q E h => ?_) (fun cdv A outer s H vs Q E hr h => ?_)
  · obtain ⟨x, dx, e1, e2, e3, rfl, _⟩ := h
    rfl
  obtain ⟨x, dx, e1, e2, e3, rfl, hx, q⟩ := h
  have h1 := hx.at_
  refine ⟨_, pss_cons (ps_if (PW.pt (pw_or (pt_not (pt_val (pe_callB call_isi rfl O.isi (by decide +kernel) (pa_cons (pe_fld (pv 0) rfl) (pa_cons (pe_bltn (v := .ty "tuple") rfl O.tuple (by decide +kernel) rfl) pa_nil)))))
      (pw_or1 (pt_cmpR op_gt (pe_callB call_len_seq rfl O.len PySem.boot_len (pa_cons (pe_fld (pv 0) rfl) pa_nil)) (pe_glob (v := .int 4) rfl m4 ⟨_, rfl⟩) (nomark _))))) (pss_one (ps_ret pe_bl)) pss_nil)
    (pss_cons (ps_set (i := 1) scSaysF.nd rfl (Or.inr rfl) (pe_dc (own := [("name", 2), ("bound", 3), ("first", 4)]) (g := gTup K 3 (gCons (gName 2) (gCons (gName 3) (gCons (gName 4) gNil)))) (tt := tYes) (tk := tNo) (tv := tNo) rfl scSaysF.nd (pi_tup (pe_fld (pv 0) rfl)) (blkOk_by (N := nmSy) (sc := defScope sSaysF) (by decide +kernel))
        (fun _ _ _ _ _ => pg_tup rfl (pgs_cons (pg_name (i := 2) scSaysF.nd rfl (Or.inl rfl)) (pgs_cons (pg_name (i := 3) scSaysF.nd rfl (Or.inl rfl)) (pgs_cons (pg_name (i := 4) scSaysF.nd rfl (Or.inl rfl)) pgs_nil))))
        (fun _ _ _ _ _ => pts_nil) (fun _ _ _ _ _ => pe_nv) (fun _ _ _ _ _ => pe_nv)))
    (pss_cons (ps_if (pt_not (pt_val (pe_callB (cr_all rfl) rfl O.all (by decide +kernel) (pa_cons (pe_lc (own := [("saying", 5)]) (g := gName 5) (tt := tYes) (te := tNo) rfl scSaysF.nd (pi_tup (pe_fld (pv 0) rfl)) (blkOk_by (N := nmSy) (sc := defScope sSaysF) (by decide +kernel))
        (fun _ _ _ _ _ => pg_name (i := 5) scSaysF.nd rfl (Or.inl rfl)) (fun _ _ _ _ _ => pts_nil) (fun _ _ _ _ _ => pe_nv)) pa_nil)))) (pss_one (ps_ret pe_bl)) pss_nil)
    (pss_one (ps_ret (pe_callB (cr_all rfl) rfl O.all (by decide +kernel) (pa_cons (pe_lc (own := [("saying", 5)]) (g := gName 5) (tt := tYes) (te := tNo) rfl scSaysF.nd (pi_tup (pe_fld (pv 0) rfl)) (blkOk_by (N := nmSy) (sc := defScope sSaysF) (by decide +kernel))
        (fun _ _ _ _ _ => pg_name (i := 5) scSaysF.nd rfl (Or.inl rfl)) (fun _ _ _ _ _ => pts_nil) (fun _ _ _ _ _ => pe_nv)) pa_nil)))))), ?_⟩
  refine ⟨_, rfl, x, C, dx, _, _, rfl, h1, T.cl, T.n4, rf_sayings, _, _, _, _, true, rfl, .ty "tuple", tyx_tup hx.b2, kb "tuple" "tuple" true, _, rfl, itF rfl ?_⟩
  refine ⟨_, rfl, x, C, dx, _, _, rfl, h1, T.cl, T.n4, rf_sayings, _, _, rfl, .inr hx.b2, _, _, rfl, rfl, _, rfl, itF rfl ?_⟩
  refine ⟨_, rfl, x, C, dx, _, _, rfl, h1, T.cl, T.n3, rf_boxes, e1, rfl, ⟨_, hx.b1⟩, fun D hD => ?_⟩
  refine dc_tup (K := K) (a := e1) (xs := []) (fun i Hc => Same H Hc) (same_new hD _) (fun i Hc _ z => sqt_keep hx.b1 z) (fun i v Hc hv _ => by simp at hv) (fun Hc sm => ?_)
  refine ⟨_, rfl, x, C, dx, _, _, rfl, sm _ _ h1, T.cl, T.n4, rf_sayings, e2, rfl, ⟨_, sqt_keep hx.b2 sm⟩, fun D2 hD2 => ?_⟩
  refine no_turn (K := K) (sqt_keep hx.b2 sm) hD2 (fun H2 s2 hc2 => ⟨D2, [], rfl, SqL.of hc2, _, rfl, itF rfl ?_⟩)
  have s3 := sm.trans s2
  refine ⟨_, rfl, x, C, dx, _, _, rfl, s3 _ _ h1, T.cl, T.n4, rf_sayings, e2, rfl, ⟨_, sqt_keep hx.b2 s3⟩, fun D3 hD3 => ?_⟩
  exact no_turn (K := K) (sqt_keep hx.b2 s3) hD3 (fun H4 s4 hc4 => ⟨D3, [], rfl, SqL.of hc4, q H4 (s3.trans s4)⟩)
theorem a_names (T : RoomC K C) (F : Fun K "box_names" "box_names" sNames f fd) : FnOk P w K mg base CX0 1 f fd ["room"] (spRoL K C) := by
  refine F.ok scNames (fun vs H Q E h => ?_) (fun cdv A outer s H vs Q E hr h => ?_)
  · obtain ⟨x, dx, e1, e2, e3, rfl, _⟩ := h
    rfl
  obtain ⟨x, dx, e1, e2, e3, rfl, hx, q⟩ := h
  refine ⟨_, pss_one (ps_ret (pe_lc (own := [("name", 1), ("bound", 2), ("first", 3)]) (g := gTup K 3 (gCons (gName 1) (gCons (gName 2) (gCons (gName 3) gNil)))) (tt := tYes) (te := tNo) rfl scNames.nd (pi_tup (pe_fld (pv 0) rfl)) (blkOk_by (N := ["room", "name", "bound", "first"]) (sc := defScope sNames) (by decide +kernel))
    (fun _ _ _ _ _ => pg_tup rfl (pgs_cons (pg_name (i := 1) scNames.nd rfl (Or.inl rfl)) (pgs_cons (pg_name (i := 2) scNames.nd rfl (Or.inl rfl)) (pgs_cons (pg_name (i := 3) scNames.nd rfl (Or.inl rfl)) pgs_nil))))
    (fun _ _ _ _ _ => pts_nil) (fun _ _ _ _ _ => pe_nv))), ?_⟩
  refine ⟨_, rfl, x, C, dx, _, _, rfl, hx.at_, T.cl, T.n3, rf_boxes, e1, rfl, ⟨_, hx.b1⟩, fun D hD => ?_⟩
  exact no_turn (K := K) hx.b1 hD (fun H2 s2 hc2 => q D H2 s2 hc2)
theorem a_all (F : Fun K "all_steps" "all_steps" sAll f fd) : FnOk P w K mg base CX0 1 f fd ["body"] (spEL K) := by
  refine F.ok scAll (fun vs H Q E h => ?_) (fun cdv A outer s H vs Q E hr h => ?_)
  · obtain ⟨e, rfl, _⟩ := h
    rfl
  obtain ⟨e, rfl, he, q⟩ := h
  refine ⟨_, pss_cons (ps_set (i := 1) scAll.nd rfl (Or.inl rfl) (pe_lst pa_nil))
    (pss_cons (ps_for PassesOwn.never rfl (pi_tup (pv 0)) (pg_name (i := 2) scAll.nd rfl (Or.inl rfl)) (pss_cons ps_never (pss_one ps_never)))
    (pss_one (ps_ret (pv 1)))), ?_⟩
  refine ⟨by decide, fun L hL => ?_⟩
  have s1 := same_new hL (.lst [])
  refine ⟨_, rfl, e, rfl, ⟨_, sqt_keep he s1⟩, ?_⟩
  exact for_none (K := K) (sqt_keep he s1) ⟨_, rfl, q L _ s1 upd_same⟩
end
end Any
set_option pp.maxSteps 600
set_option maxHeartbeats 4000000
namespace Any
open L2 PySem PySem.Spec PyProof.Rows LamX NdefX
/-- a program of that room alone -/
def PgK (K : PySem.W.Frag) (C D : Addr) (H : Hp) (x R r dx e1 e2 e3 : Addr) : Prop := HeldAt D H x R ∧ OneK K C H R r dx e1 e2 e3
theorem PgK.keep {K : PySem.W.Frag} {C D : Addr} {H H' : Hp} {x R r dx e1 e2 e3 : Addr} (h : PgK K C D H x R r dx e1 e2 e3) (s : Same H H') : PgK K C D H' x R r dx e1 e2 e3 := ⟨h.1.keep s, h.2.keep s⟩
def spPI1 (K : PySem.W.Frag) (C D : Addr) : Sp := fun vs H Q _ => ∃ x dp R r dx e1 e2 e3, vs = [.ref x, .ref R] ∧ H x = some (.ins D dp []) ∧ OneK K C H R r dx e1 e2 e3 ∧ ∀ H', PgK K C D H' x R r dx e1 e2 e3 → Q .non H'
def spRO1 (K : PySem.W.Frag) (C D : Addr) : Sp := fun vs H Q _ => ∃ x R r dx e1 e2 e3, vs = [.ref x, .str "a"] ∧ PgK K C D H x R r dx e1 e2 e3 ∧ Q (.ref r) H
def spBe1 (K : PySem.W.Frag) (C D : Addr) : Sp := fun vs H Q _ => ∃ x R r dx e1 e2 e3, vs = [.ref x, .str "a"] ∧ PgK K C D H x R r dx e1 e2 e3 ∧ ∀ p H', Same H H' → H' p = some (.lst []) → Q (.ref p) H'
def spBW1 (K : PySem.W.Frag) : Sp := fun vs H Q _ => ∃ e W, vs = [.ref e, .ref W] ∧ SqT K H e [] ∧ ∀ H', Same H H' → Q (.int 0) H'
def spTb1 (K : PySem.W.Frag) (C D : Addr) (v : Int) : Sp := fun vs H Q _ => ∃ x R r dx e1 e2 e3, vs = [.ref x] ∧ PgK K C D H x R r dx e1 e2 e3 ∧ ∀ p H', Same H H' → H' p = some (.dK (bx [("a", v)])) → Q (.ref p) H'
def spHB1 (K : PySem.W.Frag) (C : Addr) : Sp := fun vs H Q _ => ∃ r W dx e1 e2 e3, vs = [.ref r, .ref W] ∧ RmK K C H r dx e1 e2 e3 ∧ H W = some (.dK (bx [("a", 0)])) ∧ Q (.int 1) H
def spBO1 (K : PySem.W.Frag) (C D : Addr) : Sp := fun vs H Q _ => ∃ x R r dx e1 e2 e3, vs = [.ref x] ∧ PgK K C D H x R r dx e1 e2 e3 ∧ ∀ H', Q (.int 1) H'
section
variable {P : Program} {w : World} {K : PySem.W.Frag} {mg : Str → Option Value} {base : Heap} {f C D : Addr} {fd : FuncData}
theorem a_bfits (O : Own mg) (F : Fun K "body_fits" "body_fits" sBFits f fd) {t12 : Tok} (m12 : mg "MOST_IN_BODY" = some (.int 12 t12)) : FnOk P w K mg base CX0 1 f fd psB (spE5 K) := by
  refine F.ok scBFits (fun vs H Q E h => ?_) (fun cdv A outer s H vs Q E hr h => ?_)
  · obtain ⟨e, b, w_, n, rfl, _⟩ := h
    rfl
  obtain ⟨e, b, w_, n, rfl, he, q⟩ := h
  refine ⟨_, pss_cons (ps_if (PW.pt (pw_or (pt_not (pt_val (pe_callB call_isi rfl O.isi (by decide +kernel) (pa_cons (pv 0) (pa_cons (pe_bltn (v := .ty "tuple") rfl O.tuple (by decide +kernel) rfl) pa_nil)))))
      (pw_or1 (pt_cmpR op_gt (pe_callB call_len_seq rfl O.len PySem.boot_len (pa_cons (pv 0) pa_nil)) (pe_glob (v := .int 12) rfl m12 ⟨_, rfl⟩) (nomark _))))) (pss_one (ps_ret pe_bl)) pss_nil)
    (pss_cons (ps_if (pt_cmpR op_eq (pv 4) pe_int (nomark _)) (pss_one ps_never) pss_nil)
    (pss_one (ps_ret (pe_callB (cr_all rfl) rfl O.all (by decide +kernel) (pa_cons (pe_lc (own := [("step", 5)]) (g := gName 5) (tt := tYes) (te := tNo) rfl scBFits.nd (pi_tup (pv 0)) (blkOk_by (N := nmB) (sc := defScope sBFits) (by decide +kernel))
        (fun _ _ _ _ _ => pg_name (i := 5) scBFits.nd rfl (Or.inl rfl)) (fun _ _ _ _ _ => pts_nil) (fun _ _ _ _ _ => pe_nv)) pa_nil))))), ?_⟩
  refine ⟨_, rfl, _, _, _, _, true, rfl, .ty "tuple", tyx_tup he, kb "tuple" "tuple" true, _, rfl, itF rfl ?_⟩
  refine ⟨_, rfl, _, _, rfl, .inr he, _, _, rfl, rfl, _, rfl, itF rfl ?_⟩
  refine ⟨_, rfl, rfl, _, rfl, itF rfl ⟨_, rfl, e, rfl, ⟨_, he⟩, fun D hD => ?_⟩⟩
  exact no_turn (K := K) he hD (fun H4 s4 hc4 => ⟨D, [], rfl, SqL.of hc4, q H4 s4⟩)
theorem a_isbody (O : Own mg) (F : Fun K "is_body" "is_body" sBody f fd) (BF : Df P w K mg base 1 "body_fits" psB (spE5 K)) (AL : Df P w K mg base 1 "all_steps" ["body"] (spEL K)) {t4 t30 : Tok} (m4 : mg "MOST_DEEP_STEP" = some (.int 4 t4)) (m30 : mg "MOST_STEPS" = some (.int 30 t30)) : FnOk P w K mg base CX0 2 f fd ps4 (spE4 K) := by
  refine F.ok scBody (fun vs H Q E h => ?_) (fun cdv A outer s H vs Q E hr h => ?_)
  · obtain ⟨e, b, w_, n, rfl, _⟩ := h
    rfl
  obtain ⟨e, b, w_, n, rfl, he, q⟩ := h
  refine ⟨_, pss_one (ps_ret (pe_and (pe_D BF hr rfl (pa_cons (pv 0) (pa_cons (pv 1) (pa_cons (pv 2) (pa_cons (pv 3) (pa_cons (pe_glob (v := .int 4) rfl m4 ⟨_, rfl⟩) pa_nil))))))
    (pe_one (pe_cmpR op_le (pe_callB call_len_seq rfl O.len PySem.boot_len (pa_cons (pe_D AL hr rfl (pa_cons (pv 0) pa_nil)) pa_nil)) (pe_glob (v := .int 30) rfl m30 ⟨_, rfl⟩) (nomark _))))), ?_⟩
  refine ⟨_, rfl, _, rfl, _, rfl, _, rfl, e, b, w_, n, rfl, he, fun H1 s1 => ⟨_, rfl, itT rfl ?_⟩⟩
  refine ⟨_, rfl, e, rfl, sqt_keep he s1, fun p H2 s2 h2 => ⟨p, [], rfl, .inl (SqL.of h2), _, _, rfl, rfl, q H2 (s1.trans s2)⟩⟩
theorem a_bodyf (T : RoomC K C) (F : Fun K "body_fault" "body_fault" sBodyF f fd) (IB : Df P w K mg base 2 "is_body" ps4 (spE4 K)) (BN : Df P w K mg base 1 "box_names" ["room"] (spRoL K C)) : FnOk P w K mg base CX0 3 f fd ["rooms", "at", "words"] (spA3 K C (.str "")) := by
  refine F.ok scBodyF (fun vs H Q E h => ?_) (fun cdv A outer s H vs Q E hr h => ?_)
  · obtain ⟨R, x, dx, e1, e2, e3, wd, rfl, _⟩ := h
    rfl
  obtain ⟨R, x, dx, e1, e2, e3, wd, rfl, ⟨hR, hx⟩, q⟩ := h
  have hs : sizeLine = 16777216 := sizeLine_eq
  refine ⟨_, pss_cons (ps_set (i := 3) scBodyF.nd rfl (Or.inr rfl) (pe_ix ix_tup (pv 0) (pv 1) (fun _ _ => rfl)))
    (pss_cons (ps_setLc (i := 4) (own := [("other", 5)]) (g := gName 5) (tt := tTest (tOp rEq (tFld K (tVar 5) "above") (tFld K (tVar 3) "name"))) (te := tFld K (tVar 5) "name") (by rfl) scBodyF.nd rfl rfl (sw_true rfl rfl rfl (by decide +kernel)) (pi_tup (pv 0)) (blkOk_by (N := nmBo) (sc := defScope sBodyF) (by decide +kernel))
          (fun _ _ _ _ _ => pg_name (i := 5) scBodyF.nd rfl (Or.inl rfl)) (fun _ _ _ _ _ => pts_one (pt_cmpR op_eq (pe_fld (pv 5) rfl) (pe_fld (pv 3) rfl) (nomark _))) (fun _ _ _ _ _ => pe_fld (pv 5) rfl))
    (pss_cons (ps_if (pt_val (pe_D IB hr rfl (pa_cons (pe_fld (pv 3) rfl) (pa_cons (pe_D BN (hr.mono (by decide)) rfl (pa_cons (pv 3) pa_nil)) (pa_cons (pv 2) (pa_cons (pv 4) pa_nil)))))) (pss_one (ps_ret pe_str)) pss_nil)
    (pss_one ps_never))), ?_⟩
  refine ⟨_, rfl, _, rfl, R, _, 0, _, rfl, rfl, SqT.of hR, atI_nat (j := 0) rfl, ?_⟩
  refine ⟨_, rfl, R, rfl, ⟨_, SqT.of hR⟩, fun D hD => ?_⟩
  refine turns_tup (K := K) (a := R) (xs := [.ref x]) [none] hD (fun Hc sm => SqT.of (sm _ _ hR)) rfl (by show 1 ≤ sizeLine; omega) ?_ ?_
  · intro j z o Hc Y N hz2 ho sm hY hN
    cases j with
    | succ j => simp at hz2
    | zero =>
      cases hz2
      refine ⟨rfl, _, rfl, x, C, dx, _, _, rfl, sm _ _ hx.at_, T.cl, T.n2, rf_above, _, rfl, x, C, dx, _, _, rfl, sm _ _ hx.at_, T.cl, T.n1, rf_name, rfl, _, rfl, itF (by decide +kernel) ?_⟩
      exact hN (Option.some.inj ho).symm Hc same_refl
  · intro Hc hc2 sm
    have hc2 : Hc D = some (.lst []) := hc2
    refine ⟨_, rfl, x, C, dx, _, _, rfl, sm _ _ hx.at_, T.cl, T.n8, rf_body, ?_⟩
    refine ⟨_, rfl, x, dx, e1, e2, e3, rfl, hx.keep sm, fun l H2 s2 hL => ⟨_, rfl, _, rfl, ?_⟩⟩
    have s3 := sm.trans s2
    exact ⟨e3, l, wd, D, rfl, sqt_keep hx.b3 s3, fun H3 s4 => ⟨_, rfl, itT rfl (q H3 (s3.trans s4))⟩⟩
theorem a_fault (T : RoomC K C) (F : Fun K "fault_of" "fault_of" sFault f fd) (D1 : Df P w K mg base 2 "name_fits" psRA (spA2 K C (.bl true))) (D2 : Df P w K mg base 2 "above_fits" psRA (spA2 K C (.bl true))) (D3 : Df P w K mg base 4 "boxes_fit" ["boxes"] (spE K (.bl true))) (D4 : Df P w K mg base 17 "sayings_fit" ["room"] (spRo K C (.bl true)))
    (D5 : Df P w K mg base 1 "first_fault" ["room"] (spRo K C (.str ""))) (D7 : Df P w K mg base 3 "body_fault" ["rooms", "at", "words"] (spA3 K C (.str ""))) : FnOk P w K mg base CX0 18 f fd psRA (spA2 K C (.str "")) := by
  refine F.ok scFault (fun vs H Q E h => ?_) (fun cdv A outer s H vs Q E hr h => ?_)
  · obtain ⟨R, x, dx, e1, e2, e3, rfl, _⟩ := h
    rfl
  obtain ⟨R, x, dx, e1, e2, e3, rfl, hO, q⟩ := h
  obtain ⟨hR, hx⟩ := id hO
  have hr2 := hr.mono (show 2 ≤ 17 by decide)
  refine ⟨_, pss_cons (ps_set (i := 2) scFault.nd rfl (Or.inl rfl) (pe_ix ix_tup (pv 0) (pv 1) (fun _ _ => rfl)))
    (pss_cons (ps_if (pt_not (pt_val (pe_D D1 hr2 rfl (pa_cons (pv 0) (pa_cons (pv 1) pa_nil))))) (pss_one (ps_ret pe_str)) pss_nil)
    (pss_cons (ps_if (pt_not (pt_val (pe_D D2 hr2 rfl (pa_cons (pv 0) (pa_cons (pv 1) pa_nil))))) (pss_one (ps_ret pe_str)) pss_nil)
    (pss_cons (ps_if (pt_not (pt_val (pe_D D3 (hr.mono (by decide)) rfl (pa_cons (pe_fld (pv 2) rfl) pa_nil)))) (pss_one (ps_ret pe_str)) pss_nil)
    (pss_cons (ps_if (pt_not (pt_val (pe_D D4 hr rfl (pa_cons (pv 2) pa_nil)))) (pss_one (ps_ret pe_str)) pss_nil)
    (pss_cons (ps_if (pt_cmpR op_eq (pv 1) pe_int (nomark _)) (pss_one (ps_ret (pe_orT (pe_D D5 (hr.mono (by decide)) rfl (pa_cons (pv 2) pa_nil)) (pe_one (pe_D D7 (hr.mono (by decide)) rfl (pa_cons (pv 0) (pa_cons (pv 1) (pa_cons (pe_tup pa_nil) pa_nil)))))))) pss_nil)
    (pss_one ps_never)))))), ?_⟩
  refine ⟨_, rfl, _, rfl, R, _, 0, _, rfl, rfl, SqT.of hR, atI_nat (j := 0) rfl, ?_⟩
  refine ⟨_, rfl, _, rfl, R, x, dx, e1, e2, e3, rfl, hO, fun H1 s1 => ⟨_, rfl, itF rfl ?_⟩⟩
  refine ⟨_, rfl, _, rfl, R, x, dx, e1, e2, e3, rfl, hO.keep s1, fun H2 s2 => ⟨_, rfl, itF rfl ?_⟩⟩
  have s2 := s1.trans s2
  refine ⟨_, rfl, x, C, dx, _, _, rfl, s2 _ _ hx.at_, T.cl, T.n3, rf_boxes, e1, rfl, sqt_keep hx.b1 s2, fun H3 s3 => ⟨_, rfl, itF rfl ?_⟩⟩
  have s3 := s2.trans s3
  refine ⟨_, rfl, x, dx, e1, e2, e3, rfl, hx.keep s3, fun H4 s4 => ⟨_, rfl, itF rfl ?_⟩⟩
  have s4 := s3.trans s4
  refine ⟨_, rfl, rfl, _, rfl, itT rfl ?_⟩
  refine ⟨_, rfl, x, dx, e1, e2, e3, rfl, hx.keep s4, fun H5 s5 => ⟨false, no_str, itF rfl ?_⟩⟩
  have s5 := s4.trans s5
  refine ⟨_, rfl, _, rfl, by show 0 ≤ sizeLine; decide, fun wd hwd => ?_⟩
  have s6 := s5.trans (same_new hwd (.tup []))
  exact ⟨R, x, dx, e1, e2, e3, wd, rfl, hO.keep s6, fun H7 s7 => q H7 (s6.trans s7)⟩
theorem a_pinit (O : Own mg) (mr : mg "range" = none) (TP : ProgC K D) (F : Fun K "__init__" "Program.__init__" sPInit f fd) (D1 : Df P w K mg base 1 "are_rooms" ["things"] (spA1 K C (.bl true))) (D2 : Df P w K mg base 18 "fault_of" psRA (spA2 K C (.str ""))) : FnOk P w K mg base CX0 30 f fd ["self", "rooms"] (spPI1 K C D) := by
  refine F.ok scPInit (fun vs H Q E h => ?_) (fun cdv A outer s H vs Q E hr h => ?_)
  · obtain ⟨x, dp, R, r, dx, e1, e2, e3, rfl, _⟩ := h
    rfl
  obtain ⟨x, dp, R, r, dx, e1, e2, e3, rfl, hx, hO, q⟩ := h
  refine ⟨_, pss_cons (ps_if (pt_not (pt_val (pe_D D1 (hr.mono (by decide)) rfl (pa_cons (pv 1) pa_nil)))) (pss_one ps_never) pss_nil)
    (pss_cons (ps_for PassesOwn.never rfl (pi_range1 rfl mr (pa_cons (pe_callB call_len_seq rfl O.len PySem.boot_len (pa_cons (pv 1) pa_nil)) pa_nil)) (pg_name (i := 2) scPInit.nd rfl (Or.inl rfl))
      (pss_cons (ps_set (i := 3) scPInit.nd rfl (Or.inl rfl) (pe_D D2 (hr.mono (by decide)) rfl (pa_cons (pv 1) (pa_cons (pv 2) pa_nil))))
      (pss_one (ps_if (pt_cmpR op_ne (pv 3) pe_str (nomark _)) (pss_one ps_never) pss_nil))))
    (pss_cons (ps_fld (pv 0) (pv 1) rfl) (pss_one (ps_fld (pv 0) (pe_tup pa_nil) rfl)))), ?_⟩
  refine ⟨_, rfl, R, r, dx, e1, e2, e3, rfl, hO, fun H1 s1 => ⟨_, rfl, itF rfl ?_⟩⟩
  refine ⟨_, rfl, R, _, rfl, .inr (SqT.of (hO.keep s1).1), _, rfl, (by show -2 ^ 62 ≤ (1 : Int); decide), (by show (1 : Int) < 2 ^ 62; decide), ?_⟩
  refine for_range (lo := 0) (fun i σ Hc => ∃ y z, σ = [some (.ref x), some (.ref R), y, z] ∧ Same H Hc) ⟨_, _, rfl, s1⟩ ?_ ?_
  · rintro i σ Hc hi ⟨y, z, rfl, sm⟩
    have hi' : i = 0 := by
      have : i < 1 := hi
      omega
    subst hi'
    refine ⟨_, rfl, _, rfl, R, r, dx, e1, e2, e3, rfl, hO.keep sm, fun H2 s2 => ⟨_, rfl, rfl, _, rfl, itF ?_ ⟨_, _, rfl, sm.trans s2⟩⟩⟩
    rw [decide_eq_true rfl]
    rfl
  · rintro σ Hc ⟨y, z, rfl, sm⟩
    refine ⟨_, rfl, _, rfl, x, D, dp, [], rfl, sm _ _ hx, TP.cl, TP.held, (by show 0 < 1000; decide), ?_⟩
    have hOc := hO.keep sm
    have xr : R ≠ x := ne_of hOc.1 (sm _ _ hx) (by intro z; cases z)
    have rx : r ≠ x := ne_of hOc.2.at_ (sm _ _ hx) (by intro z; cases z)
    have sq : ∀ {e : Addr}, SqT K Hc e [] → ∀ {H5 : Hp}, Kept x Hc H5 → SqT K H5 e [] := fun {e} h {H5} k => by
      rcases h with (h | ⟨o, h⟩) | h
      · exact .inl (.inl (k _ _ (ne_of h (sm _ _ hx) (by intro z; cases z)) h))
      · exact .inl (.inr ⟨o, k _ _ (ne_of h (sm _ _ hx) (by intro z; cases z)) h⟩)
      · exact .inr h
    have k1 : Kept x Hc (upd Hc x (.ins D dp (putF "held" (.ref R) []))) := Kept.put _
    have e0 : upd Hc x (.ins D dp (putF "held" (.ref R) [])) x = some (.ins D dp [("held", .ref R)]) := upd_same
    generalize upd Hc x (.ins D dp (putF "held" (.ref R) [])) = H5 at *
    refine ⟨by show 0 ≤ sizeLine; decide, fun p hp => ?_⟩
    have s6 := same_new hp (.tup [])
    refine ⟨_, rfl, x, D, dp, [("held", .ref R)], rfl, s6 _ _ e0, TP.cl, TP.drawn, (by show 1 < 1000; decide), ?_⟩
    have ef : putF "drawn" (.ref p) ([("held", .ref R)] : List (Str × V)) = ([("held", .ref R), ("drawn", .ref p)] : List (Str × V)) := by simp (decide := true) [putF]
    rw [ef]
    have k2 : Kept x Hc (upd (upd H5 p (.tup [])) x (.ins D dp [("held", .ref R), ("drawn", .ref p)])) := k1.trans ((Kept.of s6).trans (Kept.put _))
    exact q _ ⟨⟨dp, _, upd_same⟩, k2 _ _ xr hOc.1, k2 _ _ rx hOc.2.at_, sq hOc.2.b1 k2, sq hOc.2.b2 k2, sq hOc.2.b3 k2⟩
end
end Any
set_option pp.maxSteps 600
set_option maxHeartbeats 4000000
namespace Any
open L2 PySem PySem.Spec PyProof.Rows LamX NdefX
section
variable {P : Program} {w : World} {K : PySem.W.Frag} {mg : Str → Option Value} {base : Heap} {f C D : Addr} {fd : FuncData}
theorem a_ro (T : RoomC K C) (TP : HeldC K D) (F : Fun K "room_of" "Program.room_of" sRO f fd) : FnOk P w K mg base CX0 1 f fd ["self", "name"] (spRO1 K C D) := by
  refine F.ok scRO (fun vs H Q E h => ?_) (fun cdv A outer s H vs Q E hr h => ?_)
  · obtain ⟨x, R, r, dx, e1, e2, e3, rfl, _⟩ := h
    rfl
  obtain ⟨x, R, r, dx, e1, e2, e3, rfl, ⟨⟨dp, v, hx⟩, hR, hat⟩, q⟩ := h
  refine ⟨_, pss_cons (ps_for PassesOwn.never rfl (pi_tup (pe_fld (pv 0) rfl)) (pg_name (i := 2) scRO.nd rfl (Or.inl rfl)) (pss_one (ps_if (pt_cmpR op_eq (pe_fld (pv 2) rfl) (pv 1) (nomark _)) (pss_one (ps_ret (pv 2))) pss_nil))) (pss_one ps_never), ?_⟩
  refine ⟨_, rfl, x, D, dp, _, _, rfl, hx, TP.cl, TP.held, pf_held, R, rfl, ⟨_, SqT.of hR⟩, ?_⟩
  refine for_tup (K := K) (a := R) (xs := [.ref r]) (fun j σ Hc => j = 0 ∧ ∃ y, σ = [some (.ref x), some (.str "a"), y] ∧ Hc = H) ⟨rfl, _, rfl, rfl⟩ ?_ ?_ ?_
  · rintro j σ Hc _ ⟨_, y, rfl, rfl⟩
    exact SqT.of hR
  · rintro j z σ Hc hz ⟨rfl, y, rfl, rfl⟩
    cases hz
    exact ⟨_, rfl, r, C, dx, _, _, rfl, hat.at_, T.cl, T.n1, rf_name, _, rfl, rfl, _, rfl, itT (decide_eq_true rfl) ⟨_, rfl, q⟩⟩
  · rintro σ Hc ⟨h, _⟩
    cases h
theorem a_ben (T : RoomC K C) (TP : HeldC K D) (MO : Mf P w K mg base D 1 "room_of" ["self", "name"] (spRO1 K C D)) (F : Fun K "beneath" "Program.beneath" sBen f fd) : FnOk P w K mg base CX0 2 f fd ["self", "name"] (spBe1 K C D) := by
  refine F.ok scBen (fun vs H Q E h => ?_) (fun cdv A outer s H vs Q E hr h => ?_)
  · obtain ⟨x, R, r, dx, e1, e2, e3, rfl, _⟩ := h
    rfl
  obtain ⟨x, R, r, dx, e1, e2, e3, rfl, hpg, q⟩ := h
  obtain ⟨⟨dp, v, hx⟩, hR, hat⟩ := id hpg
  have hs : sizeLine = 16777216 := sizeLine_eq
  refine ⟨_, pss_cons (ps_set (i := 2) scBen.nd rfl (Or.inr rfl) (pe_M MO TP.cl (pv 0) hr (pa_cons (pv 1) pa_nil)))
    (pss_one (ps_ret (pe_lc (own := [("room", 3)]) (g := gName 3) (tt := tTest (tOp rEq (tFld K (tVar 3) "above") (tFld K (tVar 2) "name"))) (te := tFld K (tVar 3) "name") rfl scBen.nd (pi_tup (pe_fld (pv 0) rfl)) (blkOk_by (N := ["self", "name", "above", "room"]) (sc := defScope sBen) (by decide +kernel))
          (fun _ _ _ _ _ => pg_name (i := 3) scBen.nd rfl (Or.inl rfl)) (fun _ _ _ _ _ => pts_one (pt_cmpR op_eq (pe_fld (pv 3) rfl) (pe_fld (pv 2) rfl) (nomark _))) (fun _ _ _ _ _ => pe_fld (pv 3) rfl)))), ?_⟩
  refine ⟨_, rfl, x, dp, _, rfl, hx, pf_none (by decide +kernel) (by decide +kernel), _, rfl, x, R, r, dx, e1, e2, e3, rfl, hpg, ?_⟩
  refine ⟨_, rfl, x, D, dp, _, _, rfl, hx, TP.cl, TP.held, pf_held, R, rfl, ⟨_, SqT.of hR⟩, fun L hL => ?_⟩
  refine turns_tup (K := K) (a := R) (xs := [.ref r]) [none] hL (fun Hc sm => SqT.of (sm _ _ hR)) rfl (by show 1 ≤ sizeLine; omega) ?_ ?_
  · intro j z o Hc Y N hz2 ho sm hY hN
    cases j with
    | succ j => simp at hz2
    | zero =>
      cases hz2
      refine ⟨rfl, _, rfl, r, C, dx, _, _, rfl, sm _ _ hat.at_, T.cl, T.n2, rf_above, _, rfl, r, C, dx, _, _, rfl, sm _ _ hat.at_, T.cl, T.n1, rf_name, rfl, _, rfl, itF (by decide +kernel) ?_⟩
      exact hN (Option.some.inj ho).symm Hc same_refl
  · intro Hc hc2 sm
    exact q L Hc sm hc2
theorem a_bw (O : Own mg) (F : Fun K "body_weight" "body_weight" sBW f fd) : FnOk P w K mg base CX0 1 f fd ["body", "weights"] (spBW1 K) := by
  refine F.ok scBW (fun vs H Q E h => ?_) (fun cdv A outer s H vs Q E hr h => ?_)
  · obtain ⟨e, W, rfl, _⟩ := h
    rfl
  obtain ⟨e, W, rfl, he, q⟩ := h
  refine ⟨_, pss_one (ps_ret (pe_callB (cr_sum rfl) rfl O.sum (by decide +kernel) (pa_cons (pe_lc (own := [("step", 2)]) (g := gName 2) (tt := tYes) (te := tNo) rfl scBW.nd (pi_tup (pv 0)) (blkOk_by (N := ["body", "weights", "step"]) (sc := defScope sBW) (by decide +kernel))
    (fun _ _ _ _ _ => pg_name (i := 2) scBW.nd rfl (Or.inl rfl)) (fun _ _ _ _ _ => pts_nil) (fun _ _ _ _ _ => pe_nv)) pa_nil))), ?_⟩
  refine ⟨_, rfl, e, rfl, ⟨_, he⟩, fun L hL => ?_⟩
  exact no_turn (K := K) he hL (fun H4 s4 hc4 => ⟨L, [], rfl, SqL.of hc4, q H4 s4⟩)
theorem rev1 {K : PySem.W.Frag} {H : Hp} {R r : Addr} (h : H R = some (.tup [.ref r])) : SqT K H R [.ref r] := SqT.of h
theorem a_bws (T : RoomC K C) (TP : HeldC K D) (MR : Mf P w K mg base D 1 "rooms" ["self"] (spRms D)) (B : Df P w K mg base 1 "body_weight" ["body", "weights"] (spBW1 K)) (F : Fun K "body_weights" "body_weights" sBWs f fd) : FnOk P w K mg base CX0 14 f fd ["program"] (spTb1 K C D 0) := by
  refine F.ok scBWs (fun vs H Q E h => ?_) (fun cdv A outer s H vs Q E hr h => ?_)
  · obtain ⟨x, R, r, dx, e1, e2, e3, rfl, _⟩ := h
    rfl
  obtain ⟨x, R, r, dx, e1, e2, e3, rfl, hpg, q⟩ := h
  obtain ⟨⟨dp, v, hx⟩, hR, hat⟩ := id hpg
  have hr1 := hr.mono (show 1 ≤ 13 by decide)
  have hu := Nat.lt_of_le_of_lt (Nat.add_le_add_left (show 1 ≤ 64 by decide) _) hr.units
  refine ⟨_, pss_cons (ps_set (i := 1) scBWs.nd rfl (Or.inl rfl) pe_dnewK)
    (pss_cons (ps_for PassesOwn.never rfl (pi_tup (pe_revT (pe_Mz MR TP.cl (pv 0) hr1) (pe_un un_neg pe_int))) (pg_name (i := 2) scBWs.nd rfl (Or.inl rfl))
      (pss_one (ps_asg (pe_D B hr1 rfl (pa_cons (pe_fld (pv 2) rfl) (pa_cons (pv 1) pa_nil))) (pg_sub (pv 1) (pe_fld (pv 2) rfl) (set_dict hu)))))
    (pss_one (ps_ret (pv 1)))), ?_⟩
  refine fun L hL => ?_
  have s1 := same_new hL (.dK [])
  refine ⟨_, rfl, x, dp, _, rfl, s1 _ _ hx, pf_none (by decide +kernel) (by decide +kernel), x, R, rfl, ⟨dp, v, s1 _ _ hx⟩, ?_⟩
  refine ⟨_, rfl, R, [.ref r], rfl, SqT.of (s1 _ _ hR), Nat.le_refl _, rfl, fun p2 hp2 => ?_⟩
  have Lp : L ≠ p2 := ne_of_none upd_same hp2
  refine ⟨p2, rfl, ⟨_, SqT.of upd_same⟩, ?_⟩
  have s2 := s1.trans (same_new hp2 (.tup [.ref r]))
  refine for_tup (K := K) (a := p2) (xs := [.ref r]) (fun i σ Hc => ∃ y, σ = [some (.ref x), some (.ref L), y] ∧ Same H Hc ∧ Hc p2 = some (.tup [.ref r]) ∧ Hc L = some (.dK (bx (if i = 0 then [] else [("a", 0)])))) ⟨_, rfl, s2, upd_same, by rw [upd_ne Lp]; exact upd_same⟩ ?_ ?_ ?_
  · rintro i σ Hc _ ⟨y, rfl, sm, hp3, hL3⟩
    exact SqT.of hp3
  · rintro i z σ Hc hz ⟨y, rfl, sm, hp3, hL3⟩
    cases i with
    | succ i => simp at hz
    | zero =>
      cases hz
      refine ⟨_, rfl, r, C, dx, _, _, rfl, sm _ _ hat.at_, T.cl, T.n8, rf_body, _, rfl, e3, L, rfl, sqt_keep hat.b3 sm, fun H4 s4 => ?_⟩
      have hL4 := s4 _ _ hL3
      refine ⟨_, rfl, _, rfl, r, C, dx, _, _, rfl, s4 _ _ (sm _ _ hat.at_), T.cl, T.n1, rf_name, L, _, rfl, DPut.k (k := Sum.inr "a") hL4 (by rw [sizeLine_eq]; decide), ?_⟩
      refine ⟨_, rfl, same_put (sm.trans s4) hL, by rw [upd_ne Lp.symm]; exact s4 _ _ hp3, ?_⟩
      rw [upd_same]
      rfl
  · rintro σ Hc ⟨y, rfl, sm, hp3, hL3⟩
    exact ⟨_, rfl, q L Hc sm hL3⟩
theorem a_hb (T : RoomC K C) (F : Fun K "home_beats" "home_beats" sHB f fd) : FnOk P w K mg base CX0 1 f fd ["room", "weights"] (spHB1 K C) := by
  refine F.ok scHB (fun vs H Q E h => ?_) (fun cdv A outer s H vs Q E hr h => ?_)
  · obtain ⟨r, W, dx, e1, e2, e3, rfl, _⟩ := h
    rfl
  obtain ⟨r, W, dx, e1, e2, e3, rfl, hat, hW, q⟩ := h
  refine ⟨_, pss_one (ps_ret (pe_op op_add (pe_ifExp (pt_cmpR op_eq (pe_fld (pv 0) rfl) pe_str (nomark _)) pe_int pe_int)
    (pe_dget (Nat.lt_of_le_of_lt (Nat.add_le_add_left (show 1 ≤ 64 by decide) _) hr.units) (pv 1) (pe_fld (pv 0) rfl) (fun _ _ => rfl)))), ?_⟩
  have h1 := hat.at_
  refine ⟨_, rfl, r, C, dx, _, _, rfl, h1, T.cl, T.n2, rf_above, rfl, _, rfl, itT (decide_eq_true rfl) ?_⟩
  exact ⟨_, rfl, _, rfl, r, C, dx, _, _, rfl, h1, T.cl, T.n1, rf_name, W, _, rfl, get_str hW rfl, _, _, rfl, rfl, q⟩
theorem a_rb (T : RoomC K C) (TP : HeldC K D) (mm : mg "max" = none) (MR : Mf P w K mg base D 1 "rooms" ["self"] (spRms D)) (MB : Mf P w K mg base D 2 "beneath" ["self", "name"] (spBe1 K C D))
    (BW : Df P w K mg base 14 "body_weights" ["program"] (spTb1 K C D 0)) (HB : Df P w K mg base 1 "home_beats" ["room", "weights"] (spHB1 K C)) (F : Fun K "right_beats" "right_beats" sRB f fd) : FnOk P w K mg base CX0 15 f fd ["program"] (spTb1 K C D 1) := by
  refine F.ok scRB (fun vs H Q E h => ?_) (fun cdv A outer s H vs Q E hr h => ?_)
  · obtain ⟨x, R, r, dx, e1, e2, e3, rfl, _⟩ := h
    rfl
  obtain ⟨x, R, r, dx, e1, e2, e3, rfl, hpg, q⟩ := h
  obtain ⟨⟨dp, v, hx⟩, hR, hat⟩ := id hpg
  have hr1 := hr.mono (show 1 ≤ 14 by decide)
  have hr2 := hr.mono (show 2 ≤ 14 by decide)
  have hu := Nat.lt_of_le_of_lt (Nat.add_le_add_left (show 1 ≤ 64 by decide) _) hr.units
  refine ⟨_, pss_cons (ps_set (i := 1) scRB.nd rfl (Or.inl rfl) (pe_D BW hr rfl (pa_cons (pv 0) pa_nil)))
    (pss_cons (ps_set (i := 2) scRB.nd rfl (Or.inr rfl) pe_dnewK)
    (pss_cons (ps_for PassesOwn.never rfl (pi_tup (pe_revT (pe_Mz MR TP.cl (pv 0) hr1) (pe_un un_neg pe_int))) (pg_name (i := 3) scRB.nd rfl (Or.inl rfl))
      (pss_cons (ps_setLc (i := 4) (own := [("name", 5)]) (g := gName 5) (tt := tYes) (te := tNo) (by rfl) scRB.nd rfl rfl (sw_true rfl rfl rfl (by decide +kernel)) (pi_list (pe_M MB TP.cl (pv 0) hr2 (pa_cons (pe_fld (pv 3) rfl) pa_nil))) (blkOk_by (N := nmRB) (sc := defScope sRB) (by decide +kernel))
          (fun _ _ _ _ _ => pg_name (i := 5) scRB.nd rfl (Or.inl rfl)) (fun _ _ _ _ _ => pts_nil) (fun _ _ _ _ _ => pe_nv))
      (pss_one (ps_asg (pe_op op_add (pe_callBK (cr_maxD0 rfl) rfl mm (by decide +kernel) (pa_cons (pv 4) pa_nil) (pk_cons pe_int pk_nil)) (pe_D HB hr1 rfl (pa_cons (pv 3) (pa_cons (pv 1) pa_nil)))) (pg_sub (pv 2) (pe_fld (pv 3) rfl) (set_dict hu))))))
    (pss_one (ps_ret (pv 2))))), ?_⟩
  refine ⟨_, rfl, x, R, r, dx, e1, e2, e3, rfl, hpg, fun W H1 s1 hW1 => fun L hL => ?_⟩
  have WL : W ≠ L := ne_of_none hW1 hL
  have s1' := s1.trans (same_new hL (.dK []))
  have hLn : H L = none := by
    cases e : H L with
    | none => rfl
    | some o => rw [s1 _ _ e] at hL; cases hL
  refine ⟨_, rfl, x, dp, _, rfl, s1' _ _ hx, pf_none (by decide +kernel) (by decide +kernel), x, R, rfl, ⟨dp, v, s1' _ _ hx⟩, ?_⟩
  refine ⟨_, rfl, R, [.ref r], rfl, SqT.of (s1' _ _ hR), Nat.le_refl _, rfl, fun p2 hp2 => ?_⟩
  have Lp : L ≠ p2 := ne_of_none upd_same hp2
  refine ⟨p2, rfl, ⟨_, SqT.of upd_same⟩, ?_⟩
  have s2 := s1'.trans (same_new hp2 (.tup [.ref r]))
  have hW2 := same_new hp2 (.tup [.ref r]) _ _ (same_new hL (.dK []) _ _ hW1)
  refine for_tup (K := K) (a := p2) (xs := [.ref r]) (fun i σ Hc => ∃ y z u, σ = [some (.ref x), some (.ref W), some (.ref L), y, z, u] ∧ Same H Hc ∧ Hc p2 = some (.tup [.ref r]) ∧ Hc W = some (.dK (bx [("a", 0)])) ∧ Hc L = some (.dK (bx (if i = 0 then [] else [("a", 1)])))) ⟨_, _, _, rfl, s2, upd_same, hW2, by rw [upd_ne Lp]; exact upd_same⟩ ?_ ?_ ?_
  · rintro i σ Hc _ ⟨y, z, u, rfl, sm, hp3, hW3, hL3⟩
    exact SqT.of hp3
  · rintro i z σ Hc hz ⟨y, y1, u, rfl, sm, hp3, hW3, hL3⟩
    cases i with
    | succ i => simp at hz
    | zero =>
      cases hz
      refine ⟨_, rfl, x, dp, _, rfl, sm _ _ hx, pf_none (by decide +kernel) (by decide +kernel), _, rfl, r, C, dx, _, _, rfl, sm _ _ hat.at_, T.cl, T.n1, rf_name, x, R, r, dx, e1, e2, e3, rfl, hpg.keep sm, fun b1 H4 s4 hB1 => ?_⟩
      refine ⟨b1, rfl, ⟨[], SqL.of hB1⟩, fun c1 hc1 => ?_⟩
      refine turns_list (K := K) (a := b1) (xs := []) [] hc1 (fun H s => SqL.of (s _ _ hB1)) rfl (Nat.zero_le _) (fun j z o Hd Y N hz2 => by simp at hz2) (fun Hd hd2 sm2 => ?_)
      have s5 := s4.trans sm2
      have hL5 := s5 _ _ hL3
      have hW5 := s5 _ _ hW3
      have hd2 : Hd c1 = some (.lst []) := hd2
      refine ⟨_, rfl, ?_⟩
      dsimp only [tNil, tCons, tC]
      refine maxD0_of (ns := []) (SqL.of hd2) (fun y hy => by cases hy) ?_
      refine ⟨_, rfl, _, rfl, r, W, dx, e1, e2, e3, rfl, hat.keep (sm.trans s5), hW5, _, _, rfl, rfl, ?_⟩
      refine ⟨_, rfl, _, rfl, r, C, dx, _, _, rfl, s5 _ _ (sm _ _ hat.at_), T.cl, T.n1, rf_name, L, _, rfl, DPut.k (k := Sum.inr "a") hL5 (by rw [sizeLine_eq]; decide), ?_⟩
      refine ⟨_, _, _, rfl, same_put (sm.trans s5) hLn, by rw [upd_ne (ne_of hp3 hL3 (by intro z; cases z))]; exact s5 _ _ hp3, by rw [upd_ne WL]; exact hW5, ?_⟩
      rw [upd_same]
      rfl
  · rintro σ Hc ⟨y, z, u, rfl, sm, hp3, hW3, hL3⟩
    exact ⟨_, rfl, q L Hc sm hL3⟩
theorem a_bo (T : RoomC K C) (TP : HeldC K D) (MR : Mf P w K mg base D 1 "rooms" ["self"] (spRms D)) (RB : Df P w K mg base 15 "right_beats" ["program"] (spTb1 K C D 1)) (F : Fun K "beats_of" "beats_of" sBO f fd) : FnOk P w K mg base CX0 16 f fd ["program"] (spBO1 K C D) := by
  refine F.ok scBO (fun vs H Q E h => ?_) (fun cdv A outer s H vs Q E hr h => ?_)
  · obtain ⟨x, R, r, dx, e1, e2, e3, rfl, _⟩ := h
    rfl
  obtain ⟨x, R, r, dx, e1, e2, e3, rfl, hpg, q⟩ := h
  obtain ⟨⟨dp, v, hx⟩, hR, hat⟩ := id hpg
  have hr1 := hr.mono (show 1 ≤ 15 by decide)
  have hu := Nat.lt_of_le_of_lt (Nat.add_le_add_left (show 1 ≤ 64 by decide) _) hr.units
  refine ⟨_, pss_one (ps_ret (pe_dget hu (pe_D RB hr rfl (pa_cons (pv 0) pa_nil)) (pe_fld (pe_ix ix_tup (pe_Mz MR TP.cl (pv 0) hr1) pe_int (fun _ _ => rfl)) rfl) (fun _ _ => rfl))), ?_⟩
  refine ⟨_, rfl, x, R, r, dx, e1, e2, e3, rfl, hpg, fun W H1 s1 hW1 => ?_⟩
  refine ⟨_, rfl, x, dp, _, rfl, s1 _ _ hx, pf_none (by decide +kernel) (by decide +kernel), x, R, rfl, ⟨dp, v, s1 _ _ hx⟩, ?_⟩
  refine ⟨R, _, 0, _, rfl, rfl, SqT.of (s1 _ _ hR), atI_nat (j := 0) rfl, ?_⟩
  exact ⟨r, C, dx, _, _, rfl, s1 _ _ hat.at_, T.cl, T.n1, rf_name, W, _, rfl, get_str hW1 rfl, q H1⟩
end
end Any
set_option pp.maxSteps 600
set_option maxHeartbeats 4000000
namespace Any
open L2 PySem PySem.Spec PyProof.Rows LamX NdefX
def spLawK (K : PySem.W.Frag) (T_ : List NTab) : Sp := fun vs H Q _ => ∃ (a : Addr) (ns : List Int), vs = [.ref a] ∧ SqL K H a (ns.map V.int) ∧ TabsN T_ H ∧ ∀ H', Q (.bl true) H'
section
variable {P : Program} {w : World} {K : PySem.W.Frag} {mg : Str → Option Value} {base : Heap} {T_ : List NTab} {f c Pt C D_ CN e1 e2 e3 : Addr} {fd : FuncData}
/-- the last line -/
theorem law_endK (N : Fns P w K mg base T_ C D_ CN) (MR : Mk0R P w K mg base C e1 e2 e3) (q1 : ∀ H, SqT K H e1 []) (q2 : ∀ H, SqT K H e2 []) (q3 : ∀ H, SqT K H e3 []) (MP : Mk1 P w K mg base 30 "Program" D_ ["self", "rooms"] (spPI1 K C D_)) (BO : Df P w K mg base 16 "beats_of" ["program"] (spBO1 K C D_)) (A : Around) (outer : List Env) (s : Shared) (H0 : Hp) (E : XK) (hr : Room 60 (A.deeper (envOfC "law" (defScope sLaw) s.heap.objs.size f (.ref c)))) :
    ∃ t, PSs (cxOf CX0 P w K mg base nmLaw "law" (defScope sLaw) f (.ref c) A outer s H0 E).nox ((defBody sLaw).drop 1) t ∧ ∀ (D : Ends) (σ : L2.St) (H : Hp), (∀ H', D.rt (.bl true) H') → t D σ H := by
  have hs : sizeLine = 16777216 := sizeLine_eq
  refine ⟨_, pss_one (ps_ret (pe_cmpR op_eq (pe_D BO (hr.mono (by decide)) rfl (pa_cons (pe_C MP (hr.mono (by decide)) rfl (pa_cons (pe_tup (pa_cons (pe_R0 MR (hr.mono (by decide)) rfl (pa_cons pe_str pa_nil)) pa_nil)) pa_nil)) pa_nil)) pe_int (nomark _))), ?_⟩
  intro D σ H q
  intro x dx hx hdx ne
  refine ⟨x, dx, .str "a", .str "", .ref e1, .ref e2, .non, .non, .non, .ref e3, rfl, upd_same, rfl, ?_⟩
  have hat : RmK K C (upd (upd (upd H dx (.own x)) x (.ins C dx [])) x (.ins C dx (roomF (.str "a") (.str "") (.ref e1) (.ref e2) .non .non .non (.ref e3)))) x dx e1 e2 e3 := ⟨upd_same, q1 _, q2 _, q3 _⟩
  generalize upd (upd (upd H dx (.own x)) x (.ins C dx [])) x (.ins C dx (roomF (.str "a") (.str "") (.ref e1) (.ref e2) .non .non .non (.ref e3))) = H1 at *
  refine ⟨(by show 1 ≤ sizeLine; omega), fun R hR => ?_⟩
  have s2 := same_new hR (.tup [.ref x])
  have hO : OneK K C (upd H1 R (.tup [.ref x])) R x dx e1 e2 e3 := ⟨upd_same, hat.keep s2⟩
  intro y dy hy hdy ney
  have s3 : Same (upd H1 R (.tup [.ref x])) (upd (upd (upd H1 R (.tup [.ref x])) dy (.own y)) y (.ins D_ dy [])) := fun a o ha => by
    rw [upd_ne (ne_of_none ha hy), upd_ne (ne_of_none ha hdy)]
    exact ha
  refine ⟨y, dy, R, x, dx, e1, e2, e3, rfl, upd_same, hO.keep s3, fun H3 hpg => ⟨rfl, ?_⟩⟩
  exact ⟨y, R, x, dx, e1, e2, e3, rfl, hpg, fun H4 => ⟨rfl, q H4⟩⟩
theorem ok_lawK (N : Fns P w K mg base T_ C D_ CN) (MR : Mk0R P w K mg base C e1 e2 e3) (q1 : ∀ H, SqT K H e1 []) (q2 : ∀ H, SqT K H e2 []) (q3 : ∀ H, SqT K H e3 []) (MP : Mk1 P w K mg base 30 "Program" D_ ["self", "rooms"] (spPI1 K C D_)) (BO : Df P w K mg base 16 "beats_of" ["program"] (spBO1 K C D_)) (mmax : mg "max" = none) (mmin : mg "min" = none) (TB : TabB base mg c Pt) (inT : (Pt, fun _ _ => qLaw) ∈ T_) (uni : ∀ p ∈ T_, p.1 = Pt → p.2 = fun _ _ => qLaw)
    (F : FunL K "law" "law" sLaw f fd c) : FnG P w K mg base CX0 61 f fd ["_law_script"] (spLawK K T_) := by
  refine funL_g F scLaw (fun vs H Q E h => ?_) (fun A outer s H vs Q E hG hr h => ?_)
  · obtain ⟨a, ns, rfl, _⟩ := h
    rfl
  obtain ⟨a, ns, rfl, hS, hT, q⟩ := h
  obtain ⟨tE, htE, fin⟩ := law_endK (f := f) (c := c) N MR q1 q2 q3 MP BO A outer s H E hr
  obtain ⟨tT, htT, turn⟩ := law_turn (f := f) (c := c) N TB inT uni A outer s H E hG hr
  have hr1 := hr.mono (show 1 ≤ 60 by decide)
  have pb : 2 * (pc 3 + 1) ≤ 1000000000 := by decide +kernel
  refine ⟨_, pss_cons (ps_for PassesOwn.never rfl (pi_range1 rfl N.mr (pa_cons (pe_callB (call_max2 rfl) rfl mmax (by decide +kernel) (pa_cons pe_int (pa_cons (pe_callB (call_min2 rfl) rfl mmin (by decide +kernel) (pa_cons pe_int (pa_cons (pe_callB call_len_seq rfl N.O.len PySem.boot_len (pa_cons (pv 0) pa_nil)) pa_nil))) pa_nil))) pa_nil)) (pg_name (i := 1) scLaw.nd rfl (Or.inl rfl))
      (pss_cons (ps_set (i := 2) scLaw.nd rfl (Or.inl rfl) (pe_D N.bag hr1 rfl (pa_cons (pv 0) (pa_cons (pv 1) pa_nil))))
      (pss_one (ps_for PassesOwn.never rfl (pi_range1 rfl N.mr (pa_cons pe_int pa_nil)) (pg_name (i := 3) scLaw.nd rfl (Or.inl rfl)) htT)))) htE, ?_⟩
  refine ⟨_, rfl, a, _, rfl, .inl hS, _, _, rfl, _, _, rfl, _, rfl, ?_, ?_, ?_⟩
  · split <;> (try split) <;> omega
  · rw [List.length_map]
    split <;> (try split) <;> omega
  refine for_range (lo := 0) (fun i σ Hc => ∃ z1 z2 z3 z4 z5 z6 z7 z8 z9 : Option V, σ = [some (.ref a), z1, z2, z3, z4, z5, z6, z7, z8, z9] ∧ Gr T_ H Hc) ⟨_, _, _, _, _, _, _, _, _, rfl, .refl hT⟩ ?_ ?_
  · rintro i σ Hc hi ⟨z1, z2, z3, z4, z5, z6, z7, z8, z9, rfl, g⟩
    have hi4 : i < 4 := by
      rw [List.length_map] at hi
      split at hi <;> (try split at hi) <;> omega
    refine ⟨_, rfl, _, rfl, a, ns, _, rfl, g.seq hS, by omega, by omega, fun b H1 nb s1 B1 => ?_⟩
    have g1 := g.same s1
    have nb0 : H b = none := g.no b nb
    refine ⟨2, rfl, by decide, by decide, ?_⟩
    refine for_range (lo := 0) (fun j σ Hd => ∃ y3 y4 y5 y6 y7 y8 y9 : Option V, σ = [some (.ref a), some (.int (0 + (i : Int))), some (.ref b), y3, y4, y5, y6, y7, y8, y9] ∧ Kg T_ b H1 Hd ∧ Bag Hd b ((2 - j) * (pc 3 + 1))) ⟨_, _, _, _, _, _, _, rfl, .refl g1.tabs, B1.less (by omega)⟩ ?_ ?_
    · rintro j σ Hd hj ⟨y3, y4, y5, y6, y7, y8, y9, rfl, kg, Bd⟩
      have hj : j < 2 := hj
      obtain ⟨e, he⟩ : ∃ e, 2 - j = e + 1 := ⟨1 - j, by omega⟩
      have he2 : 2 - (j + 1) = e := by omega
      rw [he, Nat.succ_mul] at Bd
      refine turn _ Hd b j (e * (pc 3 + 1)) _ _ y4 y5 y6 y7 y8 y9 hj (Bd.less (by omega)) kg.tabs (fun H' z4 z5 z6 z7 z8 z9 kg' Bk => ⟨_, _, _, _, _, _, _, rfl, kg.trans kg', ?_⟩)
      rw [he2]
      exact Bk
    · rintro σ Hd ⟨y3, y4, y5, y6, y7, y8, y9, rfl, kg, Bd⟩
      exact ⟨_, _, _, _, _, _, _, _, _, rfl, gr_kg g1 nb0 kg⟩
  · rintro σ Hc ⟨z1, z2, z3, z4, z5, z6, z7, z8, z9, rfl, g⟩
    exact fin _ _ Hc q
end
end Any
set_option pp.maxSteps 600
set_option maxHeartbeats 4000000
namespace Any
open L2 PySem PySem.Spec PyProof.Rows LamX NdefX
/-! ### how what the law calls with keywords binds -/
abbrev kwsRm (e1 e2 e3 : Addr) : List (Str × V) := [("above", .str ""), ("boxes", .ref e1), ("sayings", .ref e2), ("ask", .non), ("told", .non), ("promise", .non), ("body", .ref e3)]
section
variable {P : Program} {w : World} {K : PySem.W.Frag} {mg : Str → Option Value} {base : Heap} {f C e1 e2 e3 : Addr} {fd : FuncData}
theorem kb_r7 {kws : List (Str × V)} (F : FunD K "__init__" "Room.__init__" (defArgs sRInit) (defBody sRInit) (defScope sRInit) [] kws f fd) : KBn K fd psRI 2 ks7 (fun us ws => us ++ ws) (fun us ws => us ++ ws) := by
  obtain ⟨oc, od, dV, kV, doc, pm, an, cdv, ct, osl, rfl, lk, hcd, hD, hK⟩ := F.ex
  have hd : dV = .none := hD.elim (fun z => z.2) (fun z => absurd rfl z.1)
  subst hd
  refine ⟨fun s us ws _ l1 l2 => ?_, fun r1 r2 => r1.append r2⟩
  match us, ws, l1, l2 with
  | [u1, u2], [w1, w2, w3, w4, w5, w6, w7], _, _ => exact .of_eq (by first | kernel_rfl | rfl)
theorem kb_r3 (F : FunD K "__init__" "Room.__init__" (defArgs sRInit) (defBody sRInit) (defScope sRInit) [] (kwsRm e1 e2 e3) f fd) : ∃ g : List Value → List Value → List Value, KBn K fd psRI 2 ks3 g (fun vs zs => vs ++ [.str ""] ++ zs.take 2 ++ [.non, .non, .non] ++ zs.drop 2) := by
  obtain ⟨mv, h⟩ := F.kbinds0 (ps := psRI) 2 ks3 [("above", .str ""), ("ask", .non), ("told", .non), ("promise", .non)] (fun us mv ws => us ++ mv.take 1 ++ ws.take 2 ++ mv.drop 1 ++ ws.drop 2) (by simp) (by simp)
    (fun r1 r2 r3 => (((r1.append (r2.take 1)).append (r3.take 2)).append (r2.drop 1)).append (r3.drop 2)) fun D doc pm an cdv ct us mv ws l1 l2 l3 => by
    match us, mv, ws, l1, l2, l3 with
    | [u1, u2], [m1, m2, m3, m4], [w1, w2, w3], _, _, _ => exact ⟨_, _, _, _, _, _, rfl, rfl, _, _, _, _, _, _, rfl, rfl, _, _, _, _, _, _, rfl, rfl, _, _, _, _, _, _, rfl, rfl, rfl⟩
  exact ⟨_, h⟩
theorem kb_r0 (F : FunD K "__init__" "Room.__init__" (defArgs sRInit) (defBody sRInit) (defScope sRInit) [] (kwsRm e1 e2 e3) f fd) : ∃ ds, Vals [.str "", .ref e1, .ref e2, .non, .non, .non, .ref e3] ds ∧ Binds K fd psRI ds := by
  refine F.binds0 2 (by simp) rfl fun D doc pm an cdv ct us ks l1 l2 => ?_
  match us, ks, l1, l2 with
  | [u1, u2], [w1, w2, w3, w4, w5, w6, w7], _, _ => exact ⟨_, _, _, _, _, _, rfl, rfl, _, _, _, _, _, _, rfl, rfl, _, _, _, _, _, _, rfl, rfl, _, _, _, _, _, _, rfl, rfl, _, _, _, _, _, _, rfl, rfl, _, _, _, _, _, _, rfl, rfl, _, _, _, _, _, _, rfl, rfl, rfl⟩
theorem kb_bh (F : Fun K "beats_home" "beats_home" sBH f fd) : KBn K fd ["program", "name"] 0 ["program", "name"] (fun us ws => us ++ ws) (fun us ws => us ++ ws) := by
  obtain ⟨oc, od, kV, doc, pm, an, cdv, ct, osl, rfl, lk, hcd⟩ := F.ex
  refine ⟨fun s us ws _ l1 l2 => ?_, fun r1 r2 => r1.append r2⟩
  match us, ws, l1, l2 with
  | [], [w1, w2], _, _ => exact .of_eq rfl
theorem kb_br (F : Fun K "beats_right" "beats_right" sBR f fd) : KBn K fd ["program", "name"] 0 ["name", "program"] (fun us ws => us ++ ws.reverse) (fun us ws => us ++ ws.reverse) := by
  obtain ⟨oc, od, kV, doc, pm, an, cdv, ct, osl, rfl, lk, hcd⟩ := F.ex
  refine ⟨fun s us ws _ l1 l2 => ?_, fun r1 r2 => r1.append r2.reverse⟩
  match us, ws, l1, l2 with
  | [], [w1, w2], _, _ => exact .of_eq rfl
theorem kb_bo (F : Fun K "beats_of" "beats_of" sBO f fd) : KBn K fd ["program"] 0 ["program"] (fun us ws => us ++ ws) (fun us ws => us ++ ws) := by
  obtain ⟨oc, od, kV, doc, pm, an, cdv, ct, osl, rfl, lk, hcd⟩ := F.ex
  refine ⟨fun s us ws _ l1 l2 => ?_, fun r1 r2 => r1.append r2⟩
  match us, ws, l1, l2 with
  | [], [w1], _, _ => exact .of_eq rfl
/-- the room by its keywords -/
theorem room_m {D_ : Addr} (T : RoomC K C) (mR : mg "Room" = some (.ref C)) (M : Mk K C f) (F : FunD K "__init__" "Room.__init__" (defArgs sRInit) (defBody sRInit) (defScope sRInit) [] (kwsRm e1 e2 e3) f fd) : RoomM P w K mg base C ∧ Mk0R P w K mg base C e1 e2 e3 := by
  obtain ⟨g, h3⟩ := kb_r3 F
  obtain ⟨ds, hd, h0⟩ := kb_r0 F
  exact ⟨⟨⟨f, fd, _, mR, M, ok_rinit T F, kb_r7 F⟩, ⟨f, fd, g, mR, M, ok_rinit T F, h3⟩⟩, ⟨f, fd, ds, mR, M, ok_rinit T F, h0, hd⟩⟩
end
/-! ### which classes an exception is under -/
theorem kit_blt {K : PySem.W.Frag} {D : Addr} {B : String} {b : Bool} (e : PySem.W.kitMeta B = true) (h : PySem.W.subIn K (.ref D) (.type B) = some b) : PySem.W.kitOne K (.ref D) (.type B) = some b := by
  unfold PySem.W.kitOne PySem.W.kitCls
  rw [if_neg (by simp)]
  dsimp only
  rw [if_pos e]
  exact h
theorem kit_self {K : PySem.W.Frag} {D : Addr} : PySem.W.kitOne K (.ref D) (.ref D) = some true := by
  unfold PySem.W.kitOne
  rw [if_pos (by simp)]
theorem kit_off {K : PySem.W.Frag} {D B : Addr} (d : (Value.ref D == Value.ref B) = false) (h2 : PySem.W.isClsIn K B = true) (h3 : PySem.W.typeIn K (.ref B) = some (.type "type")) (h4 : PySem.W.subIn K (.ref D) (.ref B) = some false) : PySem.W.kitOne K (.ref D) (.ref B) = some false := by
  have h2' : (PySem.W.clsIn K B).isSome = true := h2
  unfold PySem.W.kitOne PySem.W.kitCls
  rw [if_neg (by rw [d]; decide)]
  dsimp only
  rw [if_pos (by rw [h2', h3]; rfl)]
  exact h4
theorem kit_no {K : PySem.W.Frag} {D : Addr} {B : Value} {Bs : List Value} (h : PySem.W.kitOne K (.ref D) B = some false) (r : PySem.W.kitAny K (.ref D) Bs = some false) : PySem.W.kitAny K (.ref D) (B :: Bs) = some false := by
  unfold PySem.W.kitAny
  rw [h]
  exact r
theorem kit_nil {K : PySem.W.Frag} {D : Addr} : PySem.W.kitAny K (.ref D) [] = some false := rfl
end Any
namespace Any
open L2 PySem PySem.Spec PyProof.Rows LamX NdefX

set_option maxHeartbeats 0 in
theorem all_mk {l : PySem.W.OpenLaw} {w : World} {K : PySem.W.Frag} {h : Heap} {mg : Str → Option Value} {fa D : Addr} (X : K.In h) (G : h.Ns mainGlobals mg) (hfa : mg "law" = some (.ref fa))
    {f1 f2 f3 f4 f5 f6 f7 f8 f9 f10 f11 f12 f13 f14 f15 f16 f17 f18 f19 f20 f21 f22 f23 f24 f25 f26 f27 f28 f29 f30 f31 f32 f33 f34 f35 f36 f37 f38 f39 f40 f41 f42 f43 f44 f45 f46 f47 f48 f49 f50 f51 f52 f53 f54 f55 f56 f57 f58 f59 f60 f61 f62 f63 f64 f65 f66 f67 D6 D34 c7 P7 c8 P8 c9 P9 c67 P67 : Addr} {od1 an1 od2 an2 od3 an3 od4 an4 od5 an5 od6 an6 od7 an7 od8 an8 od9 an9 od10 an10 od11 an11 od12 an12 od13 an13 od14 an14 od15 an15 od16 an16 od17 an17 od18 an18 od19 an19 od20 an20 od21 an21 od22 an22 od23 an23 od24 an24 od25 an25 od26 an26 od27 an27 od28 an28 od29 an29 od30 an30 od31 an31 od32 an32 od33 an33 od34 an34 od35 an35 od36 an36 od37 an37 od38 an38 od39 an39 od40 an40 od41 an41 od42 an42 od43 an43 od44 an44 od45 an45 od46 an46 od47 an47 od48 an48 od49 an49 od50 an50 od51 an51 od52 an52 od53 an53 od54 an54 od55 an55 od56 an56 od57 an57 od58 an58 od59 an59 od60 an60 od61 an61 od62 an62 od63 an63 od64 an64 od65 an65 od66 an66 od67 an67 cod7 cod8 cod9 cod67 : Option Addr} {sl1 sl2 sl3 sl4 sl5 sl6 sl7 sl8 sl9 sl10 sl11 sl12 sl13 sl14 sl15 sl16 sl17 sl18 sl19 sl20 sl21 sl22 sl23 sl24 sl25 sl26 sl27 sl28 sl29 sl30 sl31 sl32 sl33 sl34 sl35 sl36 sl37 sl38 sl39 sl40 sl41 sl42 sl43 sl44 sl45 sl46 sl47 sl48 sl49 sl50 sl51 sl52 sl53 sl54 sl55 sl56 sl57 sl58 sl59 sl60 sl61 sl62 sl63 sl64 sl65 sl66 sl67 csl7 csl8 csl9 csl67 : Array (Option Value)} {cvs7 cvs8 cvs9 cvs67 : Array Value}
    {oc1 kV1 cd1 dc1 pm1 ct1 oc2 kV2 cd2 dc2 pm2 ct2 oc3 kV3 cd3 dc3 pm3 ct3 oc4 kV4 cd4 dc4 pm4 ct4 oc5 kV5 cd5 dc5 pm5 ct5 oc6 cd6 dc6 pm6 ct6 oc7 kV7 coc7 dc7 pm7 ct7 oc8 kV8 coc8 dc8 pm8 ct8 oc9 kV9 coc9 dc9 pm9 ct9 oc10 kV10 cd10 dc10 pm10 ct10 oc11 kV11 cd11 dc11 pm11 ct11 oc12 kV12 cd12 dc12 pm12 ct12 oc13 kV13 cd13 dc13 pm13 ct13 oc14 kV14 cd14 dc14 pm14 ct14 oc15 kV15 cd15 dc15 pm15 ct15 oc16 kV16 cd16 dc16 pm16 ct16 oc17 kV17 cd17 dc17 pm17 ct17 oc18 kV18 cd18 dc18 pm18 ct18 oc19 kV19 cd19 dc19 pm19 ct19 oc20 kV20 cd20 dc20 pm20 ct20 oc21 kV21 cd21 dc21 pm21 ct21 oc22 kV22 cd22 dc22 pm22 ct22 oc23 kV23 cd23 dc23 pm23 ct23 oc24 kV24 cd24 dc24 pm24 ct24 oc25 kV25 cd25 dc25 pm25 ct25 oc26 kV26 cd26 dc26 pm26 ct26 oc27 kV27 cd27 dc27 pm27 ct27 oc28 kV28 cd28 dc28 pm28 ct28 oc29 kV29 cd29 dc29 pm29 ct29 oc30 kV30 cd30 dc30 pm30 ct30 oc31 kV31 cd31 dc31 pm31 ct31 oc32 kV32 cd32 dc32 pm32 ct32 oc33 kV33 cd33 dc33 pm33 ct33 oc34 cd34 dc34 pm34 ct34 oc35 kV35 cd35 dc35 pm35 ct35 oc36 kV36 cd36 dc36 pm36 ct36 oc37 kV37 cd37 dc37 pm37 ct37 oc38 kV38 cd38 dc38 pm38 ct38 oc39 kV39 cd39 dc39 pm39 ct39 oc40 kV40 cd40 dc40 pm40 ct40 oc41 kV41 cd41 dc41 pm41 ct41 oc42 kV42 cd42 dc42 pm42 ct42 oc43 kV43 cd43 dc43 pm43 ct43 oc44 kV44 cd44 dc44 pm44 ct44 oc45 kV45 cd45 dc45 pm45 ct45 oc46 kV46 cd46 dc46 pm46 ct46 oc47 kV47 cd47 dc47 pm47 ct47 oc48 kV48 cd48 dc48 pm48 ct48 oc49 kV49 cd49 dc49 pm49 ct49 oc50 kV50 cd50 dc50 pm50 ct50 oc51 kV51 cd51 dc51 pm51 ct51 oc52 kV52 cd52 dc52 pm52 ct52 oc53 kV53 cd53 dc53 pm53 ct53 oc54 kV54 cd54 dc54 pm54 ct54 oc55 kV55 cd55 dc55 pm55 ct55 oc56 kV56 cd56 dc56 pm56 ct56 oc57 kV57 cd57 dc57 pm57 ct57 oc58 kV58 cd58 dc58 pm58 ct58 oc59 kV59 cd59 dc59 pm59 ct59 oc60 kV60 cd60 dc60 pm60 ct60 oc61 kV61 cd61 dc61 pm61 ct61 oc62 kV62 cd62 dc62 pm62 ct62 oc63 kV63 cd63 dc63 pm63 ct63 oc64 kV64 cd64 dc64 pm64 ct64 oc65 kV65 cd65 dc65 pm65 ct65 oc66 kV66 cd66 dc66 pm66 ct66 oc67 kV67 coc67 dc67 pm67 ct67 : Value} {es : Array DictEntry} {en : Nat} {tk6_0 tk6_1 : Tok} {C CP CN CM CG CW NN kw mt1 mt2 mt3 : Addr} {nmN qN : Str} {bsN subN : List Value} {snN : List Str} {abN : Bool} {colN : Option Bool} {ddN : Option Addr} {ek0 ek1 ek2 ek3 ek5 : Option Value} {ot oe1 oe2 oe3 : Obj} {nt ne1 ne2 ne3 : Nat} {s0 s1 s2 s3 s4 s5 s6 t_MOST_DEEP_TERM t_MOST_TERMS t_MOST_DEEP_STEP t_MOST_STEPS t_MOST_IN_BODY t_MOST_ROOMS t_MOST_FLOORS t_MOST_BOXES t_MOST_SAYINGS t_MOST_BOUND : Tok}
    (xC : PySem.W.nsIn K mainGlobals "Room" = some (some (.ref C)))
    (xCP : PySem.W.nsIn K mainGlobals "Program" = some (some (.ref CP)))
    (xCN : PySem.W.nsIn K mainGlobals "NoRoom" = some (some (.ref CN)))
    (xCM : PySem.W.nsIn K mainGlobals "NoName" = some (some (.ref CM)))
    (xCG : PySem.W.nsIn K mainGlobals "NoProgram" = some (some (.ref CG)))
    (xCW : PySem.W.nsIn K mainGlobals "NoWord" = some (some (.ref CW)))
    (a1 : PySem.W.nsIn K mainGlobals "plus" = some (some (.ref f1)))
    (l1 : K.lookup f1 = some ⟨oc1, od1, .func (PySem.W.fnOf "plus" "plus" (defArgs sPlus) (defBody sPlus) (defScope sPlus) .none kV1 dc1 pm1 an1 cd1 ct1), sl1⟩)
    (e1 : PySem.W.codeIn K cd1 "plus" = true)
    (k1 : PySem.W.keepIn K (.ref f1) = true)
    (a2 : PySem.W.nsIn K mainGlobals "less" = some (some (.ref f2)))
    (l2 : K.lookup f2 = some ⟨oc2, od2, .func (PySem.W.fnOf "less" "less" (defArgs sLess) (defBody sLess) (defScope sLess) .none kV2 dc2 pm2 an2 cd2 ct2), sl2⟩)
    (e2 : PySem.W.codeIn K cd2 "less" = true)
    (k2 : PySem.W.keepIn K (.ref f2) = true)
    (a3 : PySem.W.nsIn K mainGlobals "times" = some (some (.ref f3)))
    (l3 : K.lookup f3 = some ⟨oc3, od3, .func (PySem.W.fnOf "times" "times" (defArgs sTimes) (defBody sTimes) (defScope sTimes) .none kV3 dc3 pm3 an3 cd3 ct3), sl3⟩)
    (e3 : PySem.W.codeIn K cd3 "times" = true)
    (k3 : PySem.W.keepIn K (.ref f3) = true)
    (a4 : PySem.W.nsIn K mainGlobals "over" = some (some (.ref f4)))
    (l4 : K.lookup f4 = some ⟨oc4, od4, .func (PySem.W.fnOf "over" "over" (defArgs sOver) (defBody sOver) (defScope sOver) .none kV4 dc4 pm4 an4 cd4 ct4), sl4⟩)
    (e4 : PySem.W.codeIn K cd4 "over" = true)
    (k4 : PySem.W.keepIn K (.ref f4) = true)
    (a5 : PySem.W.nsIn K mainGlobals "rest" = some (some (.ref f5)))
    (l5 : K.lookup f5 = some ⟨oc5, od5, .func (PySem.W.fnOf "rest" "rest" (defArgs sRest) (defBody sRest) (defScope sRest) .none kV5 dc5 pm5 an5 cd5 ct5), sl5⟩)
    (e5 : PySem.W.codeIn K cd5 "rest" = true)
    (k5 : PySem.W.keepIn K (.ref f5) = true)
    (a6 : PySem.W.nsIn K mainGlobals "holds" = some (some (.ref f6)))
    (l6 : K.lookup f6 = some ⟨oc6, od6, .func (PySem.W.fnOf "holds" "holds" (defArgs sHolds) (defBody sHolds) (defScope sHolds) .none (.ref D6) dc6 pm6 an6 cd6 ct6), sl6⟩)
    (e6 : PySem.W.codeIn K cd6 "holds" = true)
    (k6 : PySem.W.keepIn K (.ref f6) = true)
    (w6_0 : PySem.W.nsIn K D6 "asked" = some (some (.int 0 tk6_0)))
    (w6_1 : PySem.W.nsIn K D6 "told" = some (some (.int 0 tk6_1)))
    (a7 : PySem.W.nsIn K mainGlobals "ready_worth" = some (some (.ref f7)))
    (l7 : K.lookup f7 = some ⟨oc7, od7, .func (PySem.W.fnOf "ready_worth" "ready_worth" (defArgs sReady) (defBody sReady) (defScope sReady) .none kV7 dc7 pm7 an7 (.ref c7) ct7), sl7⟩)
    (e7 : PySem.W.codeIn K (.ref c7) "ready_worth" = true)
    (k7 : PySem.W.keepIn K (.ref f7) = true)
    (g7 : K.lookup c7 = some ⟨coc7, cod7, .fields cvs7, csl7⟩)
    (v7 : cvs7[11]? = some (.ref P7))
    (q7 : PySem.W.codeHdIn K c7 P7 = true)
    (n7 : K.lookup P7 = none)
    (t7 : h.get? P7 = some { cls := .none, data := .fields #[] })
    (a8 : PySem.W.nsIn K mainGlobals "ready_test" = some (some (.ref f8)))
    (l8 : K.lookup f8 = some ⟨oc8, od8, .func (PySem.W.fnOf "ready_test" "ready_test" (defArgs sRT) (defBody sRT) (defScope sRT) .none kV8 dc8 pm8 an8 (.ref c8) ct8), sl8⟩)
    (e8 : PySem.W.codeIn K (.ref c8) "ready_test" = true)
    (k8 : PySem.W.keepIn K (.ref f8) = true)
    (g8 : K.lookup c8 = some ⟨coc8, cod8, .fields cvs8, csl8⟩)
    (v8 : cvs8[11]? = some (.ref P8))
    (q8 : PySem.W.codeHdIn K c8 P8 = true)
    (n8 : K.lookup P8 = none)
    (t8 : h.get? P8 = some { cls := .none, data := .fields #[] })
    (a9 : PySem.W.nsIn K mainGlobals "ready_comparison" = some (some (.ref f9)))
    (l9 : K.lookup f9 = some ⟨oc9, od9, .func (PySem.W.fnOf "ready_comparison" "ready_comparison" (defArgs sRC) (defBody sRC) (defScope sRC) .none kV9 dc9 pm9 an9 (.ref c9) ct9), sl9⟩)
    (e9 : PySem.W.codeIn K (.ref c9) "ready_comparison" = true)
    (k9 : PySem.W.keepIn K (.ref f9) = true)
    (g9 : K.lookup c9 = some ⟨coc9, cod9, .fields cvs9, csl9⟩)
    (v9 : cvs9[11]? = some (.ref P9))
    (q9 : PySem.W.codeHdIn K c9 P9 = true)
    (n9 : K.lookup P9 = none)
    (t9 : h.get? P9 = some { cls := .none, data := .fields #[] })
    (a10 : PySem.W.nsIn K mainGlobals "is_whole" = some (some (.ref f10)))
    (l10 : K.lookup f10 = some ⟨oc10, od10, .func (PySem.W.fnOf "is_whole" "is_whole" (defArgs sWhole) (defBody sWhole) (defScope sWhole) .none kV10 dc10 pm10 an10 cd10 ct10), sl10⟩)
    (e10 : PySem.W.codeIn K cd10 "is_whole" = true)
    (k10 : PySem.W.keepIn K (.ref f10) = true)
    (a11 : PySem.W.nsIn K mainGlobals "is_within" = some (some (.ref f11)))
    (l11 : K.lookup f11 = some ⟨oc11, od11, .func (PySem.W.fnOf "is_within" "is_within" (defArgs sWithin) (defBody sWithin) (defScope sWithin) .none kV11 dc11 pm11 an11 cd11 ct11), sl11⟩)
    (e11 : PySem.W.codeIn K cd11 "is_within" = true)
    (k11 : PySem.W.keepIn K (.ref f11) = true)
    (a12 : PySem.W.nsIn K mainGlobals "is_name" = some (some (.ref f12)))
    (l12 : K.lookup f12 = some ⟨oc12, od12, .func (PySem.W.fnOf "is_name" "is_name" (defArgs sName) (defBody sName) (defScope sName) .none kV12 dc12 pm12 an12 cd12 ct12), sl12⟩)
    (e12 : PySem.W.codeIn K cd12 "is_name" = true)
    (k12 : PySem.W.keepIn K (.ref f12) = true)
    (a13 : PySem.W.nsIn K mainGlobals "is_expression" = some (some (.ref f13)))
    (l13 : K.lookup f13 = some ⟨oc13, od13, .func (PySem.W.fnOf "is_expression" "is_expression" (defArgs sIsExpr) (defBody sIsExpr) (defScope sIsExpr) .none kV13 dc13 pm13 an13 cd13 ct13), sl13⟩)
    (e13 : PySem.W.codeIn K cd13 "is_expression" = true)
    (k13 : PySem.W.keepIn K (.ref f13) = true)
    (a14 : PySem.W.nsIn K mainGlobals "is_test" = some (some (.ref f14)))
    (l14 : K.lookup f14 = some ⟨oc14, od14, .func (PySem.W.fnOf "is_test" "is_test" (defArgs sIsTest) (defBody sIsTest) (defScope sIsTest) .none kV14 dc14 pm14 an14 cd14 ct14), sl14⟩)
    (e14 : PySem.W.codeIn K cd14 "is_test" = true)
    (k14 : PySem.W.keepIn K (.ref f14) = true)
    (a15 : PySem.W.nsIn K mainGlobals "expression_fits" = some (some (.ref f15)))
    (l15 : K.lookup f15 = some ⟨oc15, od15, .func (PySem.W.fnOf "expression_fits" "expression_fits" (defArgs sExFits) (defBody sExFits) (defScope sExFits) .none kV15 dc15 pm15 an15 cd15 ct15), sl15⟩)
    (e15 : PySem.W.codeIn K cd15 "expression_fits" = true)
    (k15 : PySem.W.keepIn K (.ref f15) = true)
    (a16 : PySem.W.nsIn K mainGlobals "test_fits" = some (some (.ref f16)))
    (l16 : K.lookup f16 = some ⟨oc16, od16, .func (PySem.W.fnOf "test_fits" "test_fits" (defArgs sTsFits) (defBody sTsFits) (defScope sTsFits) .none kV16 dc16 pm16 an16 cd16 ct16), sl16⟩)
    (e16 : PySem.W.codeIn K cd16 "test_fits" = true)
    (k16 : PySem.W.keepIn K (.ref f16) = true)
    (a17 : PySem.W.nsIn K mainGlobals "is_row" = some (some (.ref f17)))
    (l17 : K.lookup f17 = some ⟨oc17, od17, .func (PySem.W.fnOf "is_row" "is_row" (defArgs sRow) (defBody sRow) (defScope sRow) .none kV17 dc17 pm17 an17 cd17 ct17), sl17⟩)
    (e17 : PySem.W.codeIn K cd17 "is_row" = true)
    (k17 : PySem.W.keepIn K (.ref f17) = true)
    (a18 : PySem.W.nsIn K mainGlobals "count_terms" = some (some (.ref f18)))
    (l18 : K.lookup f18 = some ⟨oc18, od18, .func (PySem.W.fnOf "count_terms" "count_terms" (defArgs sCount) (defBody sCount) (defScope sCount) .none kV18 dc18 pm18 an18 cd18 ct18), sl18⟩)
    (e18 : PySem.W.codeIn K cd18 "count_terms" = true)
    (k18 : PySem.W.keepIn K (.ref f18) = true)
    (a19 : PySem.W.nsIn K mainGlobals "is_body" = some (some (.ref f19)))
    (l19 : K.lookup f19 = some ⟨oc19, od19, .func (PySem.W.fnOf "is_body" "is_body" (defArgs sBody) (defBody sBody) (defScope sBody) .none kV19 dc19 pm19 an19 cd19 ct19), sl19⟩)
    (e19 : PySem.W.codeIn K cd19 "is_body" = true)
    (k19 : PySem.W.keepIn K (.ref f19) = true)
    (a20 : PySem.W.nsIn K mainGlobals "body_fits" = some (some (.ref f20)))
    (l20 : K.lookup f20 = some ⟨oc20, od20, .func (PySem.W.fnOf "body_fits" "body_fits" (defArgs sBFits) (defBody sBFits) (defScope sBFits) .none kV20 dc20 pm20 an20 cd20 ct20), sl20⟩)
    (e20 : PySem.W.codeIn K cd20 "body_fits" = true)
    (k20 : PySem.W.keepIn K (.ref f20) = true)
    (a21 : PySem.W.nsIn K mainGlobals "step_fits" = some (some (.ref f21)))
    (l21 : K.lookup f21 = some ⟨oc21, od21, .func (PySem.W.fnOf "step_fits" "step_fits" (defArgs sSFits) (defBody sSFits) (defScope sSFits) .none kV21 dc21 pm21 an21 cd21 ct21), sl21⟩)
    (e21 : PySem.W.codeIn K cd21 "step_fits" = true)
    (k21 : PySem.W.keepIn K (.ref f21) = true)
    (a22 : PySem.W.nsIn K mainGlobals "all_steps" = some (some (.ref f22)))
    (l22 : K.lookup f22 = some ⟨oc22, od22, .func (PySem.W.fnOf "all_steps" "all_steps" (defArgs sAll) (defBody sAll) (defScope sAll) .none kV22 dc22 pm22 an22 cd22 ct22), sl22⟩)
    (e22 : PySem.W.codeIn K cd22 "all_steps" = true)
    (k22 : PySem.W.keepIn K (.ref f22) = true)
    (a23 : PySem.W.nsIn K mainGlobals "bodies_within" = some (some (.ref f23)))
    (l23 : K.lookup f23 = some ⟨oc23, od23, .func (PySem.W.fnOf "bodies_within" "bodies_within" (defArgs sWithinB) (defBody sWithinB) (defScope sWithinB) .none kV23 dc23 pm23 an23 cd23 ct23), sl23⟩)
    (e23 : PySem.W.codeIn K cd23 "bodies_within" = true)
    (k23 : PySem.W.keepIn K (.ref f23) = true)
    (a24 : PySem.W.nsIn K mainGlobals "beats_home" = some (some (.ref f24)))
    (l24 : K.lookup f24 = some ⟨oc24, od24, .func (PySem.W.fnOf "beats_home" "beats_home" (defArgs sBH) (defBody sBH) (defScope sBH) .none kV24 dc24 pm24 an24 cd24 ct24), sl24⟩)
    (e24 : PySem.W.codeIn K cd24 "beats_home" = true)
    (k24 : PySem.W.keepIn K (.ref f24) = true)
    (a25 : PySem.W.nsIn K mainGlobals "beats_right" = some (some (.ref f25)))
    (l25 : K.lookup f25 = some ⟨oc25, od25, .func (PySem.W.fnOf "beats_right" "beats_right" (defArgs sBR) (defBody sBR) (defScope sBR) .none kV25 dc25 pm25 an25 cd25 ct25), sl25⟩)
    (e25 : PySem.W.codeIn K cd25 "beats_right" = true)
    (k25 : PySem.W.keepIn K (.ref f25) = true)
    (a26 : PySem.W.nsIn K mainGlobals "beats_of" = some (some (.ref f26)))
    (l26 : K.lookup f26 = some ⟨oc26, od26, .func (PySem.W.fnOf "beats_of" "beats_of" (defArgs sBO) (defBody sBO) (defScope sBO) .none kV26 dc26 pm26 an26 cd26 ct26), sl26⟩)
    (e26 : PySem.W.codeIn K cd26 "beats_of" = true)
    (k26 : PySem.W.keepIn K (.ref f26) = true)
    (a27 : PySem.W.nsIn K mainGlobals "home_beats" = some (some (.ref f27)))
    (l27 : K.lookup f27 = some ⟨oc27, od27, .func (PySem.W.fnOf "home_beats" "home_beats" (defArgs sHB) (defBody sHB) (defScope sHB) .none kV27 dc27 pm27 an27 cd27 ct27), sl27⟩)
    (e27 : PySem.W.codeIn K cd27 "home_beats" = true)
    (k27 : PySem.W.keepIn K (.ref f27) = true)
    (a28 : PySem.W.nsIn K mainGlobals "right_beats" = some (some (.ref f28)))
    (l28 : K.lookup f28 = some ⟨oc28, od28, .func (PySem.W.fnOf "right_beats" "right_beats" (defArgs sRB) (defBody sRB) (defScope sRB) .none kV28 dc28 pm28 an28 cd28 ct28), sl28⟩)
    (e28 : PySem.W.codeIn K cd28 "right_beats" = true)
    (k28 : PySem.W.keepIn K (.ref f28) = true)
    (a29 : PySem.W.nsIn K mainGlobals "body_weights" = some (some (.ref f29)))
    (l29 : K.lookup f29 = some ⟨oc29, od29, .func (PySem.W.fnOf "body_weights" "body_weights" (defArgs sBWs) (defBody sBWs) (defScope sBWs) .none kV29 dc29 pm29 an29 cd29 ct29), sl29⟩)
    (e29 : PySem.W.codeIn K cd29 "body_weights" = true)
    (k29 : PySem.W.keepIn K (.ref f29) = true)
    (a30 : PySem.W.nsIn K mainGlobals "body_weight" = some (some (.ref f30)))
    (l30 : K.lookup f30 = some ⟨oc30, od30, .func (PySem.W.fnOf "body_weight" "body_weight" (defArgs sBW) (defBody sBW) (defScope sBW) .none kV30 dc30 pm30 an30 cd30 ct30), sl30⟩)
    (e30 : PySem.W.codeIn K cd30 "body_weight" = true)
    (k30 : PySem.W.keepIn K (.ref f30) = true)
    (a31 : PySem.W.nsIn K mainGlobals "step_weight" = some (some (.ref f31)))
    (l31 : K.lookup f31 = some ⟨oc31, od31, .func (PySem.W.fnOf "step_weight" "step_weight" (defArgs sSW) (defBody sSW) (defScope sSW) .none kV31 dc31 pm31 an31 cd31 ct31), sl31⟩)
    (e31 : PySem.W.codeIn K cd31 "step_weight" = true)
    (k31 : PySem.W.keepIn K (.ref f31) = true)
    (a32 : PySem.W.nsIn K mainGlobals "turn_weight" = some (some (.ref f32)))
    (l32 : K.lookup f32 = some ⟨oc32, od32, .func (PySem.W.fnOf "turn_weight" "turn_weight" (defArgs sTW) (defBody sTW) (defScope sTW) .none kV32 dc32 pm32 an32 cd32 ct32), sl32⟩)
    (e32 : PySem.W.codeIn K cd32 "turn_weight" = true)
    (k32 : PySem.W.keepIn K (.ref f32) = true)
    (a33 : PySem.W.nsIn K mainGlobals "call_weight" = some (some (.ref f33)))
    (l33 : K.lookup f33 = some ⟨oc33, od33, .func (PySem.W.fnOf "call_weight" "call_weight" (defArgs sCW) (defBody sCW) (defScope sCW) .none kV33 dc33 pm33 an33 cd33 ct33), sl33⟩)
    (e33 : PySem.W.codeIn K cd33 "call_weight" = true)
    (k33 : PySem.W.keepIn K (.ref f33) = true)
    (a34 : PySem.W.findIn K (.ref C) "__init__" = some (some (.ref f34)))
    (i34 : PySem.W.isFn K (.ref f34) = true)
    (l34 : K.lookup f34 = some ⟨oc34, od34, .func (PySem.W.fnOf "__init__" "Room.__init__" (defArgs sRInit) (defBody sRInit) (defScope sRInit) .none (.ref D34) dc34 pm34 an34 cd34 ct34), sl34⟩)
    (e34 : PySem.W.codeIn K cd34 "Room.__init__" = true)
    (k34 : PySem.W.keepIn K (.ref f34) = true)
    (w34_0 : PySem.W.nsIn K D34 "above" = some (some (.str "" s0)))
    (w34_1 : PySem.W.nsIn K D34 "boxes" = some (some (.ref mt1)))
    (w34_2 : PySem.W.nsIn K D34 "sayings" = some (some (.ref mt2)))
    (w34_3 : PySem.W.nsIn K D34 "ask" = some (some .none))
    (w34_4 : PySem.W.nsIn K D34 "told" = some (some .none))
    (w34_5 : PySem.W.nsIn K D34 "promise" = some (some .none))
    (w34_6 : PySem.W.nsIn K D34 "body" = some (some (.ref mt3)))
    (a35 : PySem.W.findIn K (.ref CP) "__init__" = some (some (.ref f35)))
    (i35 : PySem.W.isFn K (.ref f35) = true)
    (l35 : K.lookup f35 = some ⟨oc35, od35, .func (PySem.W.fnOf "__init__" "Program.__init__" (defArgs sPInit) (defBody sPInit) (defScope sPInit) .none kV35 dc35 pm35 an35 cd35 ct35), sl35⟩)
    (e35 : PySem.W.codeIn K cd35 "Program.__init__" = true)
    (k35 : PySem.W.keepIn K (.ref f35) = true)
    (a36 : PySem.W.findIn K (.ref CP) "rooms" = some (some (.ref f36)))
    (i36 : PySem.W.isFn K (.ref f36) = true)
    (l36 : K.lookup f36 = some ⟨oc36, od36, .func (PySem.W.fnOf "rooms" "Program.rooms" (defArgs sRms) (defBody sRms) (defScope sRms) .none kV36 dc36 pm36 an36 cd36 ct36), sl36⟩)
    (e36 : PySem.W.codeIn K cd36 "Program.rooms" = true)
    (k36 : PySem.W.keepIn K (.ref f36) = true)
    (a37 : PySem.W.findIn K (.ref CP) "room_of" = some (some (.ref f37)))
    (i37 : PySem.W.isFn K (.ref f37) = true)
    (l37 : K.lookup f37 = some ⟨oc37, od37, .func (PySem.W.fnOf "room_of" "Program.room_of" (defArgs sRO) (defBody sRO) (defScope sRO) .none kV37 dc37 pm37 an37 cd37 ct37), sl37⟩)
    (e37 : PySem.W.codeIn K cd37 "Program.room_of" = true)
    (k37 : PySem.W.keepIn K (.ref f37) = true)
    (a38 : PySem.W.findIn K (.ref CP) "beneath" = some (some (.ref f38)))
    (i38 : PySem.W.isFn K (.ref f38) = true)
    (l38 : K.lookup f38 = some ⟨oc38, od38, .func (PySem.W.fnOf "beneath" "Program.beneath" (defArgs sBen) (defBody sBen) (defScope sBen) .none kV38 dc38 pm38 an38 cd38 ct38), sl38⟩)
    (e38 : PySem.W.codeIn K cd38 "Program.beneath" = true)
    (k38 : PySem.W.keepIn K (.ref f38) = true)
    (a39 : PySem.W.findIn K (.ref CN) "__init__" = some (some (.ref f39)))
    (i39 : PySem.W.isFn K (.ref f39) = true)
    (l39 : K.lookup f39 = some ⟨oc39, od39, .func (PySem.W.fnOf "__init__" "NoRoom.__init__" (defArgs sNR) (defBody sNR) (defScope sNR) .none kV39 dc39 pm39 an39 cd39 ct39), sl39⟩)
    (e39 : PySem.W.codeIn K cd39 "NoRoom.__init__" = true)
    (k39 : PySem.W.keepIn K (.ref f39) = true)
    (a40 : PySem.W.nsIn K mainGlobals "are_rooms" = some (some (.ref f40)))
    (l40 : K.lookup f40 = some ⟨oc40, od40, .func (PySem.W.fnOf "are_rooms" "are_rooms" (defArgs sRooms) (defBody sRooms) (defScope sRooms) .none kV40 dc40 pm40 an40 cd40 ct40), sl40⟩)
    (e40 : PySem.W.codeIn K cd40 "are_rooms" = true)
    (k40 : PySem.W.keepIn K (.ref f40) = true)
    (a41 : PySem.W.nsIn K mainGlobals "fault_of" = some (some (.ref f41)))
    (l41 : K.lookup f41 = some ⟨oc41, od41, .func (PySem.W.fnOf "fault_of" "fault_of" (defArgs sFault) (defBody sFault) (defScope sFault) .none kV41 dc41 pm41 an41 cd41 ct41), sl41⟩)
    (e41 : PySem.W.codeIn K cd41 "fault_of" = true)
    (k41 : PySem.W.keepIn K (.ref f41) = true)
    (a42 : PySem.W.nsIn K mainGlobals "name_fits" = some (some (.ref f42)))
    (l42 : K.lookup f42 = some ⟨oc42, od42, .func (PySem.W.fnOf "name_fits" "name_fits" (defArgs sNameF) (defBody sNameF) (defScope sNameF) .none kV42 dc42 pm42 an42 cd42 ct42), sl42⟩)
    (e42 : PySem.W.codeIn K cd42 "name_fits" = true)
    (k42 : PySem.W.keepIn K (.ref f42) = true)
    (a43 : PySem.W.nsIn K mainGlobals "above_fits" = some (some (.ref f43)))
    (l43 : K.lookup f43 = some ⟨oc43, od43, .func (PySem.W.fnOf "above_fits" "above_fits" (defArgs sAboveF) (defBody sAboveF) (defScope sAboveF) .none kV43 dc43 pm43 an43 cd43 ct43), sl43⟩)
    (e43 : PySem.W.codeIn K cd43 "above_fits" = true)
    (k43 : PySem.W.keepIn K (.ref f43) = true)
    (a44 : PySem.W.nsIn K mainGlobals "floor_of" = some (some (.ref f44)))
    (l44 : K.lookup f44 = some ⟨oc44, od44, .func (PySem.W.fnOf "floor_of" "floor_of" (defArgs sFloor) (defBody sFloor) (defScope sFloor) .none kV44 dc44 pm44 an44 cd44 ct44), sl44⟩)
    (e44 : PySem.W.codeIn K cd44 "floor_of" = true)
    (k44 : PySem.W.keepIn K (.ref f44) = true)
    (a45 : PySem.W.nsIn K mainGlobals "boxes_fit" = some (some (.ref f45)))
    (l45 : K.lookup f45 = some ⟨oc45, od45, .func (PySem.W.fnOf "boxes_fit" "boxes_fit" (defArgs sBoxesF) (defBody sBoxesF) (defScope sBoxesF) .none kV45 dc45 pm45 an45 cd45 ct45), sl45⟩)
    (e45 : PySem.W.codeIn K cd45 "boxes_fit" = true)
    (k45 : PySem.W.keepIn K (.ref f45) = true)
    (a46 : PySem.W.nsIn K mainGlobals "box_fits" = some (some (.ref f46)))
    (l46 : K.lookup f46 = some ⟨oc46, od46, .func (PySem.W.fnOf "box_fits" "box_fits" (defArgs sBoxF) (defBody sBoxF) (defScope sBoxF) .none kV46 dc46 pm46 an46 cd46 ct46), sl46⟩)
    (e46 : PySem.W.codeIn K cd46 "box_fits" = true)
    (k46 : PySem.W.keepIn K (.ref f46) = true)
    (a47 : PySem.W.nsIn K mainGlobals "sayings_fit" = some (some (.ref f47)))
    (l47 : K.lookup f47 = some ⟨oc47, od47, .func (PySem.W.fnOf "sayings_fit" "sayings_fit" (defArgs sSaysF) (defBody sSaysF) (defScope sSaysF) .none kV47 dc47 pm47 an47 cd47 ct47), sl47⟩)
    (e47 : PySem.W.codeIn K cd47 "sayings_fit" = true)
    (k47 : PySem.W.keepIn K (.ref f47) = true)
    (a48 : PySem.W.nsIn K mainGlobals "first_fault" = some (some (.ref f48)))
    (l48 : K.lookup f48 = some ⟨oc48, od48, .func (PySem.W.fnOf "first_fault" "first_fault" (defArgs sFirstF) (defBody sFirstF) (defScope sFirstF) .none kV48 dc48 pm48 an48 cd48 ct48), sl48⟩)
    (e48 : PySem.W.codeIn K cd48 "first_fault" = true)
    (k48 : PySem.W.keepIn K (.ref f48) = true)
    (a49 : PySem.W.nsIn K mainGlobals "other_fault" = some (some (.ref f49)))
    (l49 : K.lookup f49 = some ⟨oc49, od49, .func (PySem.W.fnOf "other_fault" "other_fault" (defArgs sOtherF) (defBody sOtherF) (defScope sOtherF) .none kV49 dc49 pm49 an49 cd49 ct49), sl49⟩)
    (e49 : PySem.W.codeIn K cd49 "other_fault" = true)
    (k49 : PySem.W.keepIn K (.ref f49) = true)
    (a50 : PySem.W.nsIn K mainGlobals "told_fits" = some (some (.ref f50)))
    (l50 : K.lookup f50 = some ⟨oc50, od50, .func (PySem.W.fnOf "told_fits" "told_fits" (defArgs sToldF) (defBody sToldF) (defScope sToldF) .none kV50 dc50 pm50 an50 cd50 ct50), sl50⟩)
    (e50 : PySem.W.codeIn K cd50 "told_fits" = true)
    (k50 : PySem.W.keepIn K (.ref f50) = true)
    (a51 : PySem.W.nsIn K mainGlobals "body_fault" = some (some (.ref f51)))
    (l51 : K.lookup f51 = some ⟨oc51, od51, .func (PySem.W.fnOf "body_fault" "body_fault" (defArgs sBodyF) (defBody sBodyF) (defScope sBodyF) .none kV51 dc51 pm51 an51 cd51 ct51), sl51⟩)
    (e51 : PySem.W.codeIn K cd51 "body_fault" = true)
    (k51 : PySem.W.keepIn K (.ref f51) = true)
    (a52 : PySem.W.nsIn K mainGlobals "box_names" = some (some (.ref f52)))
    (l52 : K.lookup f52 = some ⟨oc52, od52, .func (PySem.W.fnOf "box_names" "box_names" (defArgs sNames) (defBody sNames) (defScope sNames) .none kV52 dc52 pm52 an52 cd52 ct52), sl52⟩)
    (e52 : PySem.W.codeIn K cd52 "box_names" = true)
    (k52 : PySem.W.keepIn K (.ref f52) = true)
    (a53 : PySem.W.nsIn K mainGlobals "_law_bag" = some (some (.ref f53)))
    (l53 : K.lookup f53 = some ⟨oc53, od53, .func (PySem.W.fnOf "_law_bag" "_law_bag" (defArgs sBag) (defBody sBag) (defScope sBag) .none kV53 dc53 pm53 an53 cd53 ct53), sl53⟩)
    (e53 : PySem.W.codeIn K cd53 "_law_bag" = true)
    (k53 : PySem.W.keepIn K (.ref f53) = true)
    (a54 : PySem.W.nsIn K mainGlobals "_law_take" = some (some (.ref f54)))
    (l54 : K.lookup f54 = some ⟨oc54, od54, .func (PySem.W.fnOf "_law_take" "_law_take" (defArgs sTake) (defBody sTake) (defScope sTake) .none kV54 dc54 pm54 an54 cd54 ct54), sl54⟩)
    (e54 : PySem.W.codeIn K cd54 "_law_take" = true)
    (k54 : PySem.W.keepIn K (.ref f54) = true)
    (a55 : PySem.W.nsIn K mainGlobals "_law_nicks" = some (some (.ref f55)))
    (l55 : K.lookup f55 = some ⟨oc55, od55, .func (PySem.W.fnOf "_law_nicks" "_law_nicks" (defArgs sNicks) (defBody sNicks) (defScope sNicks) .none kV55 dc55 pm55 an55 cd55 ct55), sl55⟩)
    (e55 : PySem.W.codeIn K cd55 "_law_nicks" = true)
    (k55 : PySem.W.keepIn K (.ref f55) = true)
    (a56 : PySem.W.nsIn K mainGlobals "_law_expression" = some (some (.ref f56)))
    (l56 : K.lookup f56 = some ⟨oc56, od56, .func (PySem.W.fnOf "_law_expression" "_law_expression" (defArgs sExpr) (defBody sExpr) (defScope sExpr) .none kV56 dc56 pm56 an56 cd56 ct56), sl56⟩)
    (e56 : PySem.W.codeIn K cd56 "_law_expression" = true)
    (k56 : PySem.W.keepIn K (.ref f56) = true)
    (a57 : PySem.W.nsIn K mainGlobals "_law_test" = some (some (.ref f57)))
    (l57 : K.lookup f57 = some ⟨oc57, od57, .func (PySem.W.fnOf "_law_test" "_law_test" (defArgs sTest) (defBody sTest) (defScope sTest) .none kV57 dc57 pm57 an57 cd57 ct57), sl57⟩)
    (e57 : PySem.W.codeIn K cd57 "_law_test" = true)
    (k57 : PySem.W.keepIn K (.ref f57) = true)
    (a58 : PySem.W.nsIn K mainGlobals "_law_step" = some (some (.ref f58)))
    (l58 : K.lookup f58 = some ⟨oc58, od58, .func (PySem.W.fnOf "_law_step" "_law_step" (defArgs sStep) (defBody sStep) (defScope sStep) .none kV58 dc58 pm58 an58 cd58 ct58), sl58⟩)
    (e58 : PySem.W.codeIn K cd58 "_law_step" = true)
    (k58 : PySem.W.keepIn K (.ref f58) = true)
    (a59 : PySem.W.nsIn K mainGlobals "_law_steps" = some (some (.ref f59)))
    (l59 : K.lookup f59 = some ⟨oc59, od59, .func (PySem.W.fnOf "_law_steps" "_law_steps" (defArgs sSteps) (defBody sSteps) (defScope sSteps) .none kV59 dc59 pm59 an59 cd59 ct59), sl59⟩)
    (e59 : PySem.W.codeIn K cd59 "_law_steps" = true)
    (k59 : PySem.W.keepIn K (.ref f59) = true)
    (a60 : PySem.W.nsIn K mainGlobals "_law_room" = some (some (.ref f60)))
    (l60 : K.lookup f60 = some ⟨oc60, od60, .func (PySem.W.fnOf "_law_room" "_law_room" (defArgs sRoom) (defBody sRoom) (defScope sRoom) .none kV60 dc60 pm60 an60 cd60 ct60), sl60⟩)
    (e60 : PySem.W.codeIn K cd60 "_law_room" = true)
    (k60 : PySem.W.keepIn K (.ref f60) = true)
    (a61 : PySem.W.nsIn K mainGlobals "_law_program" = some (some (.ref f61)))
    (l61 : K.lookup f61 = some ⟨oc61, od61, .func (PySem.W.fnOf "_law_program" "_law_program" (defArgs sProg) (defBody sProg) (defScope sProg) .none kV61 dc61 pm61 an61 cd61 ct61), sl61⟩)
    (e61 : PySem.W.codeIn K cd61 "_law_program" = true)
    (k61 : PySem.W.keepIn K (.ref f61) = true)
    (a62 : PySem.W.nsIn K mainGlobals "_law_weight" = some (some (.ref f62)))
    (l62 : K.lookup f62 = some ⟨oc62, od62, .func (PySem.W.fnOf "_law_weight" "_law_weight" (defArgs sLW) (defBody sLW) (defScope sLW) .none kV62 dc62 pm62 an62 cd62 ct62), sl62⟩)
    (e62 : PySem.W.codeIn K cd62 "_law_weight" = true)
    (k62 : PySem.W.keepIn K (.ref f62) = true)
    (a63 : PySem.W.nsIn K mainGlobals "_law_home" = some (some (.ref f63)))
    (l63 : K.lookup f63 = some ⟨oc63, od63, .func (PySem.W.fnOf "_law_home" "_law_home" (defArgs sLH) (defBody sLH) (defScope sLH) .none kV63 dc63 pm63 an63 cd63 ct63), sl63⟩)
    (e63 : PySem.W.codeIn K cd63 "_law_home" = true)
    (k63 : PySem.W.keepIn K (.ref f63) = true)
    (a64 : PySem.W.nsIn K mainGlobals "_law_right" = some (some (.ref f64)))
    (l64 : K.lookup f64 = some ⟨oc64, od64, .func (PySem.W.fnOf "_law_right" "_law_right" (defArgs sLR) (defBody sLR) (defScope sLR) .none kV64 dc64 pm64 an64 cd64 ct64), sl64⟩)
    (e64 : PySem.W.codeIn K cd64 "_law_right" = true)
    (k64 : PySem.W.keepIn K (.ref f64) = true)
    (a65 : PySem.W.nsIn K mainGlobals "_law_refused" = some (some (.ref f65)))
    (l65 : K.lookup f65 = some ⟨oc65, od65, .func (PySem.W.fnOf "_law_refused" "_law_refused" (defArgs sRf) (defBody sRf) (defScope sRf) .none kV65 dc65 pm65 an65 cd65 ct65), sl65⟩)
    (e65 : PySem.W.codeIn K cd65 "_law_refused" = true)
    (k65 : PySem.W.keepIn K (.ref f65) = true)
    (a66 : PySem.W.nsIn K mainGlobals "_law_whole" = some (some (.ref f66)))
    (l66 : K.lookup f66 = some ⟨oc66, od66, .func (PySem.W.fnOf "_law_whole" "_law_whole" (defArgs sWh) (defBody sWh) (defScope sWh) .none kV66 dc66 pm66 an66 cd66 ct66), sl66⟩)
    (e66 : PySem.W.codeIn K cd66 "_law_whole" = true)
    (k66 : PySem.W.keepIn K (.ref f66) = true)
    (a67 : PySem.W.nsIn K mainGlobals "law" = some (some (.ref f67)))
    (l67 : K.lookup f67 = some ⟨oc67, od67, .func (PySem.W.fnOf "law" "law" (defArgs sLaw) (defBody sLaw) (defScope sLaw) .none kV67 dc67 pm67 an67 (.ref c67) ct67), sl67⟩)
    (e67 : PySem.W.codeIn K (.ref c67) "law" = true)
    (k67 : PySem.W.keepIn K (.ref f67) = true)
    (g67 : K.lookup c67 = some ⟨coc67, cod67, .fields cvs67, csl67⟩)
    (v67 : cvs67[11]? = some (.ref P67))
    (q67 : PySem.W.codeHdIn K c67 P67 = true)
    (n67 : K.lookup P67 = none)
    (t67 : h.get? P67 = some { cls := .none, data := .fields #[] })
    (da : PySem.W.nsIn K mainGlobals "DEEDS" = some (some (.ref D)))
    (dl : K.lookup D = some ⟨.type "dict", none, .dict es en, #[]⟩)
    (dk : PySem.W.KeysLit w.params es.toList)
    (d_plus : PySem.W.nsIn K D "plus" = some (some (.ref f1)))
    (d_less : PySem.W.nsIn K D "less" = some (some (.ref f2)))
    (d_times : PySem.W.nsIn K D "times" = some (some (.ref f3)))
    (d_over : PySem.W.nsIn K D "over" = some (some (.ref f4)))
    (d_rest : PySem.W.nsIn K D "rest" = some (some (.ref f5)))
    (rpg : PySem.W.plainGet K C Str.empty = true)
    (rhd : PySem.W.hasDictIn K C = true)
    (rpo : PySem.W.plainOver K C = true)
    (rsa : PySem.W.findIn K (.ref C) "__setattr__" = some (some (.builtin "object.__setattr__")))
    (rmk : PySem.W.makesIn K C = true)
    (rkc : PySem.W.keepIn K (.ref C) = true)
    (r_name : PySem.W.findIn K (.ref C) "name" = some none)
    (r_above : PySem.W.findIn K (.ref C) "above" = some none)
    (r_boxes : PySem.W.findIn K (.ref C) "boxes" = some none)
    (r_sayings : PySem.W.findIn K (.ref C) "sayings" = some none)
    (r_ask : PySem.W.findIn K (.ref C) "ask" = some none)
    (r_told : PySem.W.findIn K (.ref C) "told" = some none)
    (r_promise : PySem.W.findIn K (.ref C) "promise" = some none)
    (r_body : PySem.W.findIn K (.ref C) "body" = some none)
    (ppg : PySem.W.plainGet K CP Str.empty = true)
    (phd : PySem.W.hasDictIn K CP = true)
    (ppo : PySem.W.plainOver K CP = true)
    (psa : PySem.W.findIn K (.ref CP) "__setattr__" = some (some (.builtin "object.__setattr__")))
    (pmk : PySem.W.makesIn K CP = true)
    (pkc : PySem.W.keepIn K (.ref CP) = true)
    (p_held : PySem.W.findIn K (.ref CP) "held" = some none)
    (p_drawn : PySem.W.findIn K (.ref CP) "drawn" = some none)
    (x_cl : PySem.W.findIn K (.ref C) "__class__" = some (some (.builtin "object.__class__")))
    (x_get : PySem.W.specialIn K (.builtin "object.__class__") "__get__" = some (some (.builtin "getset_descriptor.__get__")))
    (x_tk : PySem.W.takesIn K (.builtin "object.__class__") = some true)
    (x_mro : PySem.W.mroIn K C (.type "object") = some true)
    (nL : K.lookup CN = some (excClassObj nmN qN CN NN bsN [.type "LookupError", .type "Exception", .type "BaseException", .type "object"] true snN subN abN colN ddN ek0 ek1 ek2 ek3 ek5 "LookupError.__new__"))
    (nsa : PySem.W.findIn K (.ref CN) "__setattr__" = some (some (.builtin "object.__setattr__")))
    (nga : PySem.W.findIn K (.ref CN) "__getattribute__" = some (some (.builtin "BaseException.__getattribute__")))
    (ngg : PySem.W.findIn K (.ref CN) "__getattr__" = some (none))
    (nname : PySem.W.findIn K (.ref CN) "name" = some (none))
    (nft : PySem.W.typeIn K (.ref f39) = some (.type "function"))
    (nkC : PySem.W.keepIn K (.ref CN) = true)
    (nex : PySem.W.subIn K (.ref CN) (.type "BaseException") = some true)
    (nty : PySem.W.typeIn K (.ref CN) = some (.type "type"))
    (nhd : PySem.W.hasDictIn K CN = true)
    (nsub : PySem.W.subIn K (.ref CN) (.ref CN) = some true)
    (ncl : PySem.W.findIn K (.ref CN) "__class__" = some (some (.builtin "object.__class__")))
    (nmro : PySem.W.mroIn K CN (.type "object") = some true)
    (nle : PySem.W.subIn K (.ref CN) (.type "LookupError") = some true)
    (vL : PySem.W.findCls K (.type "LookupError") (.type "type") "__init__" = some (.val (.builtin "LookupError.__init__")))
    (nke : PySem.W.subIn K (.ref CN) (.type "KeyError") = some false)
    (nie : PySem.W.subIn K (.ref CN) (.type "IndexError") = some false)
    (dkd : Keyed es.toList deedWords)
    (dsm : (D == sysModules) = false)
    (kwn : PySem.W.nsIn K mainGlobals "KEPT_WORDS" = some (some (.ref kw)))
    (kwl : K.lookup kw = some ot)
    (kwc : ot.cls = .type "tuple")
    (kwd : ot.data = .seq #[.str "asked" s1, .str "told" s2, .str "not" s3, .str "and" s4, .str "or" s5] nt)
    (ltn : PySem.W.nsIn K mainGlobals "LETTERS" = some (some (.str letters s6)))
    (d_CM : (Value.ref CN == Value.ref CM) = false)
    (s_CM : PySem.W.subIn K (.ref CN) (.ref CM) = some false)
    (i_CM : PySem.W.isClsIn K CM = true)
    (y_CM : PySem.W.typeIn K (.ref CM) = some (.type "type"))
    (d_CG : (Value.ref CN == Value.ref CG) = false)
    (s_CG : PySem.W.subIn K (.ref CN) (.ref CG) = some false)
    (i_CG : PySem.W.isClsIn K CG = true)
    (y_CG : PySem.W.typeIn K (.ref CG) = some (.type "type"))
    (d_CW : (Value.ref CN == Value.ref CW) = false)
    (s_CW : PySem.W.subIn K (.ref CN) (.ref CW) = some false)
    (i_CW : PySem.W.isClsIn K CW = true)
    (y_CW : PySem.W.typeIn K (.ref CW) = some (.type "type"))
    (el1 : K.lookup mt1 = some oe1)
    (ec1 : oe1.cls = .type "tuple")
    (ed1 : oe1.data = .seq #[] ne1)
    (el2 : K.lookup mt2 = some oe2)
    (ec2 : oe2.cls = .type "tuple")
    (ed2 : oe2.data = .seq #[] ne2)
    (el3 : K.lookup mt3 = some oe3)
    (ec3 : oe3.cls = .type "tuple")
    (ed3 : oe3.data = .seq #[] ne3)
    (c_MOST_DEEP_TERM : PySem.W.nsIn K mainGlobals "MOST_DEEP_TERM" = some (some (.int 5 t_MOST_DEEP_TERM)))
    (c_MOST_TERMS : PySem.W.nsIn K mainGlobals "MOST_TERMS" = some (some (.int 16 t_MOST_TERMS)))
    (c_MOST_DEEP_STEP : PySem.W.nsIn K mainGlobals "MOST_DEEP_STEP" = some (some (.int 4 t_MOST_DEEP_STEP)))
    (c_MOST_STEPS : PySem.W.nsIn K mainGlobals "MOST_STEPS" = some (some (.int 30 t_MOST_STEPS)))
    (c_MOST_IN_BODY : PySem.W.nsIn K mainGlobals "MOST_IN_BODY" = some (some (.int 12 t_MOST_IN_BODY)))
    (c_MOST_ROOMS : PySem.W.nsIn K mainGlobals "MOST_ROOMS" = some (some (.int 8 t_MOST_ROOMS)))
    (c_MOST_FLOORS : PySem.W.nsIn K mainGlobals "MOST_FLOORS" = some (some (.int 4 t_MOST_FLOORS)))
    (c_MOST_BOXES : PySem.W.nsIn K mainGlobals "MOST_BOXES" = some (some (.int 4 t_MOST_BOXES)))
    (c_MOST_SAYINGS : PySem.W.nsIn K mainGlobals "MOST_SAYINGS" = some (some (.int 4 t_MOST_SAYINGS)))
    (c_MOST_BOUND : PySem.W.nsIn K mainGlobals "MOST_BOUND" = some (some (.int 40 t_MOST_BOUND)))
    (z1 : PySem.W.nsIn K mainGlobals "isinstance" = some none)
    (z2 : PySem.W.nsIn K mainGlobals "int" = some none)
    (z3 : PySem.W.nsIn K mainGlobals "bool" = some none)
    (z4 : PySem.W.nsIn K mainGlobals "str" = some none)
    (z5 : PySem.W.nsIn K mainGlobals "tuple" = some none)
    (z6 : PySem.W.nsIn K mainGlobals "len" = some none)
    (z7 : PySem.W.nsIn K mainGlobals "all" = some none)
    (z8 : PySem.W.nsIn K mainGlobals "sum" = some none)
    (z9 : PySem.W.nsIn K mainGlobals "list" = some none)
    (z10 : PySem.W.nsIn K mainGlobals "max" = some none)
    (z11 : PySem.W.nsIn K mainGlobals "min" = some none)
    (z12 : PySem.W.nsIn K mainGlobals "range" = some none)
    (z13 : PySem.W.nsIn K mainGlobals "abs" = some none)
    (z14 : PySem.W.nsIn K mainGlobals "reversed" = some none)
    (z15 : PySem.W.nsIn K mainGlobals "set" = some none)
    (z16 : PySem.W.nsIn K mainGlobals "sorted" = some none)
    (z17 : PySem.W.nsIn K mainGlobals "repr" = some none)
    (z18 : PySem.W.nsIn K mainGlobals "LookupError" = some none)
    (z19 : PySem.W.nsIn K mainGlobals "KeyError" = some none)
    (z20 : PySem.W.nsIn K mainGlobals "IndexError" = some none)
    (x_ne7_8 : P7 = P8 → False)
    (x_ne7_9 : P7 = P9 → False)
    (x_ne7_67 : P7 = P67 → False)
    (x_ne8_9 : P8 = P9 → False)
    (x_ne8_67 : P8 = P67 → False)
    (x_ne9_67 : P9 = P67 → False)
    : LawT l w K 61 63 "_law_script" mg fa h := by
  have e := hfa.symm.trans (PySem.W.mg_of X G a67)
  cases e
  have F1 := fun_mk (st := sPlus) l1 e1 k1
  have b1 := F1.binds (ps := ["left", "right"]) fun _ _ _ _ _ _ us hl => match us, hl with | [_, _], _ => rfl
  have m1 := PySem.W.mg_of X G a1
  have F2 := fun_mk (st := sLess) l2 e2 k2
  have b2 := F2.binds (ps := ["left", "right"]) fun _ _ _ _ _ _ us hl => match us, hl with | [_, _], _ => rfl
  have m2 := PySem.W.mg_of X G a2
  have F3 := fun_mk (st := sTimes) l3 e3 k3
  have b3 := F3.binds (ps := ["left", "right"]) fun _ _ _ _ _ _ us hl => match us, hl with | [_, _], _ => rfl
  have m3 := PySem.W.mg_of X G a3
  have F4 := fun_mk (st := sOver) l4 e4 k4
  have b4 := F4.binds (ps := ["left", "right"]) fun _ _ _ _ _ _ us hl => match us, hl with | [_, _], _ => rfl
  have m4 := PySem.W.mg_of X G a4
  have F5 := fun_mk (st := sRest) l5 e5 k5
  have b5 := F5.binds (ps := ["left", "right"]) fun _ _ _ _ _ _ us hl => match us, hl with | [_, _], _ => rfl
  have m5 := PySem.W.mg_of X G a5
  have F6 : FunD K "holds" "holds" (defArgs sHolds) (defBody sHolds) (defScope sHolds) [] [("asked", .int 0), ("told", .int 0)] f6 (PySem.W.fnOf "holds" "holds" (defArgs sHolds) (defBody sHolds) (defScope sHolds) .none (.ref D6) dc6 pm6 an6 cd6 ct6) :=
    ⟨⟨oc6, od6, .none, .ref D6, dc6, pm6, an6, cd6, ct6, sl6, rfl, l6, e6, .inl ⟨rfl, rfl⟩, .inr ⟨D6, rfl, fun q hq => by
      simp only [List.mem_cons, List.not_mem_nil, or_false] at hq
      rcases hq with rfl | rfl
      · exact ⟨_, w6_0, ⟨_, rfl⟩⟩
      · exact ⟨_, w6_1, ⟨_, rfl⟩⟩⟩⟩, k6⟩
  have m6 := PySem.W.mg_of X G a6
  have F7 : FunC K "ready_worth" "ready_worth" sReady f7 _ c7 := ⟨⟨oc7, od7, kV7, dc7, pm7, an7, ct7, sl7, rfl, l7, e7⟩, k7⟩
  have b7 := F7.binds (ps := ["expression", "owns"]) fun _ _ _ _ _ us hl => match us, hl with | [_, _], _ => rfl
  have m7 := PySem.W.mg_of X G a7
  have F8 : FunC K "ready_test" "ready_test" sRT f8 _ c8 := ⟨⟨oc8, od8, kV8, dc8, pm8, an8, ct8, sl8, rfl, l8, e8⟩, k8⟩
  have b8 := F8.binds (ps := ["test", "owns"]) fun _ _ _ _ _ us hl => match us, hl with | [_, _], _ => rfl
  have m8 := PySem.W.mg_of X G a8
  have F9 : FunC K "ready_comparison" "ready_comparison" sRC f9 _ c9 := ⟨⟨oc9, od9, kV9, dc9, pm9, an9, ct9, sl9, rfl, l9, e9⟩, k9⟩
  have b9 := F9.binds (ps := ["kind", "left", "right"]) fun _ _ _ _ _ us hl => match us, hl with | [_, _, _], _ => rfl
  have m9 := PySem.W.mg_of X G a9
  have F10 := fun_mk (st := sWhole) l10 e10 k10
  have b10 := F10.binds (ps := ["thing"]) fun _ _ _ _ _ _ us hl => match us, hl with | [_], _ => rfl
  have m10 := PySem.W.mg_of X G a10
  have F11 := fun_mk (st := sWithin) l11 e11 k11
  have b11 := F11.binds (ps := ["thing", "least", "most"]) fun _ _ _ _ _ _ us hl => match us, hl with | [_, _, _], _ => rfl
  have m11 := PySem.W.mg_of X G a11
  have F12 := fun_mk (st := sName) l12 e12 k12
  have b12 := F12.binds (ps := ["thing"]) fun _ _ _ _ _ _ us hl => match us, hl with | [_], _ => rfl
  have m12 := PySem.W.mg_of X G a12
  have F13 := fun_mk (st := sIsExpr) l13 e13 k13
  have b13 := F13.binds (ps := ["thing", "boxes", "words"]) fun _ _ _ _ _ _ us hl => match us, hl with | [_, _, _], _ => rfl
  have m13 := PySem.W.mg_of X G a13
  have F14 := fun_mk (st := sIsTest) l14 e14 k14
  have b14 := F14.binds (ps := ["thing", "boxes", "words"]) fun _ _ _ _ _ _ us hl => match us, hl with | [_, _, _], _ => rfl
  have m14 := PySem.W.mg_of X G a14
  have F15 := fun_mk (st := sExFits) l15 e15 k15
  have b15 := F15.binds (ps := ["thing", "boxes", "words", "deep"]) fun _ _ _ _ _ _ us hl => match us, hl with | [_, _, _, _], _ => rfl
  have m15 := PySem.W.mg_of X G a15
  have F16 := fun_mk (st := sTsFits) l16 e16 k16
  have b16 := F16.binds (ps := ["thing", "boxes", "words", "deep"]) fun _ _ _ _ _ _ us hl => match us, hl with | [_, _, _, _], _ => rfl
  have m16 := PySem.W.mg_of X G a16
  have F17 := fun_mk (st := sRow) l17 e17 k17
  have b17 := F17.binds (ps := ["thing"]) fun _ _ _ _ _ _ us hl => match us, hl with | [_], _ => rfl
  have m17 := PySem.W.mg_of X G a17
  have F18 := fun_mk (st := sCount) l18 e18 k18
  have b18 := F18.binds (ps := ["term"]) fun _ _ _ _ _ _ us hl => match us, hl with | [_], _ => rfl
  have m18 := PySem.W.mg_of X G a18
  have F19 := fun_mk (st := sBody) l19 e19 k19
  have b19 := F19.binds (ps := ["thing", "boxes", "words", "beneath"]) fun _ _ _ _ _ _ us hl => match us, hl with | [_, _, _, _], _ => rfl
  have m19 := PySem.W.mg_of X G a19
  have F20 := fun_mk (st := sBFits) l20 e20 k20
  have b20 := F20.binds (ps := ["thing", "boxes", "words", "beneath", "deep"]) fun _ _ _ _ _ _ us hl => match us, hl with | [_, _, _, _, _], _ => rfl
  have m20 := PySem.W.mg_of X G a20
  have F21 := fun_mk (st := sSFits) l21 e21 k21
  have b21 := F21.binds (ps := ["step", "boxes", "words", "beneath", "deep"]) fun _ _ _ _ _ _ us hl => match us, hl with | [_, _, _, _, _], _ => rfl
  have m21 := PySem.W.mg_of X G a21
  have F22 := fun_mk (st := sAll) l22 e22 k22
  have b22 := F22.binds (ps := ["body"]) fun _ _ _ _ _ _ us hl => match us, hl with | [_], _ => rfl
  have m22 := PySem.W.mg_of X G a22
  have F23 := fun_mk (st := sWithinB) l23 e23 k23
  have b23 := F23.binds (ps := ["step"]) fun _ _ _ _ _ _ us hl => match us, hl with | [_], _ => rfl
  have m23 := PySem.W.mg_of X G a23
  have F24 := fun_mk (st := sBH) l24 e24 k24
  have b24 := F24.binds (ps := ["program", "name"]) fun _ _ _ _ _ _ us hl => match us, hl with | [_, _], _ => rfl
  have m24 := PySem.W.mg_of X G a24
  have F25 := fun_mk (st := sBR) l25 e25 k25
  have b25 := F25.binds (ps := ["program", "name"]) fun _ _ _ _ _ _ us hl => match us, hl with | [_, _], _ => rfl
  have m25 := PySem.W.mg_of X G a25
  have F26 := fun_mk (st := sBO) l26 e26 k26
  have b26 := F26.binds (ps := ["program"]) fun _ _ _ _ _ _ us hl => match us, hl with | [_], _ => rfl
  have m26 := PySem.W.mg_of X G a26
  have F27 := fun_mk (st := sHB) l27 e27 k27
  have b27 := F27.binds (ps := ["room", "weights"]) fun _ _ _ _ _ _ us hl => match us, hl with | [_, _], _ => rfl
  have m27 := PySem.W.mg_of X G a27
  have F28 := fun_mk (st := sRB) l28 e28 k28
  have b28 := F28.binds (ps := ["program"]) fun _ _ _ _ _ _ us hl => match us, hl with | [_], _ => rfl
  have m28 := PySem.W.mg_of X G a28
  have F29 := fun_mk (st := sBWs) l29 e29 k29
  have b29 := F29.binds (ps := ["program"]) fun _ _ _ _ _ _ us hl => match us, hl with | [_], _ => rfl
  have m29 := PySem.W.mg_of X G a29
  have F30 := fun_mk (st := sBW) l30 e30 k30
  have b30 := F30.binds (ps := ["body", "weights"]) fun _ _ _ _ _ _ us hl => match us, hl with | [_, _], _ => rfl
  have m30 := PySem.W.mg_of X G a30
  have F31 := fun_mk (st := sSW) l31 e31 k31
  have b31 := F31.binds (ps := ["step", "weights"]) fun _ _ _ _ _ _ us hl => match us, hl with | [_, _], _ => rfl
  have m31 := PySem.W.mg_of X G a31
  have F32 := fun_mk (st := sTW) l32 e32 k32
  have b32 := F32.binds (ps := ["step", "weights"]) fun _ _ _ _ _ _ us hl => match us, hl with | [_, _], _ => rfl
  have m32 := PySem.W.mg_of X G a32
  have F33 := fun_mk (st := sCW) l33 e33 k33
  have b33 := F33.binds (ps := ["weight"]) fun _ _ _ _ _ _ us hl => match us, hl with | [_], _ => rfl
  have m33 := PySem.W.mg_of X G a33
  have F34 : FunD K "__init__" "Room.__init__" (defArgs sRInit) (defBody sRInit) (defScope sRInit) [] [("above", .str ""), ("boxes", .ref mt1), ("sayings", .ref mt2), ("ask", .non), ("told", .non), ("promise", .non), ("body", .ref mt3)] f34 (PySem.W.fnOf "__init__" "Room.__init__" (defArgs sRInit) (defBody sRInit) (defScope sRInit) .none (.ref D34) dc34 pm34 an34 cd34 ct34) :=
    ⟨⟨oc34, od34, .none, .ref D34, dc34, pm34, an34, cd34, ct34, sl34, rfl, l34, e34, .inl ⟨rfl, rfl⟩, .inr ⟨D34, rfl, fun q hq => by
      simp only [List.mem_cons, List.not_mem_nil, or_false] at hq
      rcases hq with rfl | rfl | rfl | rfl | rfl | rfl | rfl
      · exact ⟨_, w34_0, ⟨_, rfl⟩⟩
      · exact ⟨_, w34_1, rfl⟩
      · exact ⟨_, w34_2, rfl⟩
      · exact ⟨_, w34_3, rfl⟩
      · exact ⟨_, w34_4, rfl⟩
      · exact ⟨_, w34_5, rfl⟩
      · exact ⟨_, w34_6, rfl⟩⟩⟩, k34⟩
  have F35 := fun_mk (st := sPInit) l35 e35 k35
  have b35 := F35.binds (ps := ["self", "rooms"]) fun _ _ _ _ _ _ us hl => match us, hl with | [_, _], _ => rfl
  have F36 := fun_mk (st := sRms) l36 e36 k36
  have b36 := F36.binds (ps := ["self"]) fun _ _ _ _ _ _ us hl => match us, hl with | [_], _ => rfl
  have F37 := fun_mk (st := sRO) l37 e37 k37
  have b37 := F37.binds (ps := ["self", "name"]) fun _ _ _ _ _ _ us hl => match us, hl with | [_, _], _ => rfl
  have F38 := fun_mk (st := sBen) l38 e38 k38
  have b38 := F38.binds (ps := ["self", "name"]) fun _ _ _ _ _ _ us hl => match us, hl with | [_, _], _ => rfl
  have F39 := fun_mk (st := sNR) l39 e39 k39
  have b39 := F39.binds (ps := ["self", "name"]) fun _ _ _ _ _ _ us hl => match us, hl with | [_, _], _ => rfl
  have F40 := fun_mk (st := sRooms) l40 e40 k40
  have b40 := F40.binds (ps := ["things"]) fun _ _ _ _ _ _ us hl => match us, hl with | [_], _ => rfl
  have m40 := PySem.W.mg_of X G a40
  have F41 := fun_mk (st := sFault) l41 e41 k41
  have b41 := F41.binds (ps := ["rooms", "at"]) fun _ _ _ _ _ _ us hl => match us, hl with | [_, _], _ => rfl
  have m41 := PySem.W.mg_of X G a41
  have F42 := fun_mk (st := sNameF) l42 e42 k42
  have b42 := F42.binds (ps := ["rooms", "at"]) fun _ _ _ _ _ _ us hl => match us, hl with | [_, _], _ => rfl
  have m42 := PySem.W.mg_of X G a42
  have F43 := fun_mk (st := sAboveF) l43 e43 k43
  have b43 := F43.binds (ps := ["rooms", "at"]) fun _ _ _ _ _ _ us hl => match us, hl with | [_, _], _ => rfl
  have m43 := PySem.W.mg_of X G a43
  have F44 := fun_mk (st := sFloor) l44 e44 k44
  have b44 := F44.binds (ps := ["rooms", "at"]) fun _ _ _ _ _ _ us hl => match us, hl with | [_, _], _ => rfl
  have m44 := PySem.W.mg_of X G a44
  have F45 := fun_mk (st := sBoxesF) l45 e45 k45
  have b45 := F45.binds (ps := ["boxes"]) fun _ _ _ _ _ _ us hl => match us, hl with | [_], _ => rfl
  have m45 := PySem.W.mg_of X G a45
  have F46 := fun_mk (st := sBoxF) l46 e46 k46
  have b46 := F46.binds (ps := ["box"]) fun _ _ _ _ _ _ us hl => match us, hl with | [_], _ => rfl
  have m46 := PySem.W.mg_of X G a46
  have F47 := fun_mk (st := sSaysF) l47 e47 k47
  have b47 := F47.binds (ps := ["room"]) fun _ _ _ _ _ _ us hl => match us, hl with | [_], _ => rfl
  have m47 := PySem.W.mg_of X G a47
  have F48 := fun_mk (st := sFirstF) l48 e48 k48
  have b48 := F48.binds (ps := ["room"]) fun _ _ _ _ _ _ us hl => match us, hl with | [_], _ => rfl
  have m48 := PySem.W.mg_of X G a48
  have F49 := fun_mk (st := sOtherF) l49 e49 k49
  have b49 := F49.binds (ps := ["room"]) fun _ _ _ _ _ _ us hl => match us, hl with | [_], _ => rfl
  have m49 := PySem.W.mg_of X G a49
  have F50 := fun_mk (st := sToldF) l50 e50 k50
  have b50 := F50.binds (ps := ["room"]) fun _ _ _ _ _ _ us hl => match us, hl with | [_], _ => rfl
  have m50 := PySem.W.mg_of X G a50
  have F51 := fun_mk (st := sBodyF) l51 e51 k51
  have b51 := F51.binds (ps := ["rooms", "at", "words"]) fun _ _ _ _ _ _ us hl => match us, hl with | [_, _, _], _ => rfl
  have m51 := PySem.W.mg_of X G a51
  have F52 := fun_mk (st := sNames) l52 e52 k52
  have b52 := F52.binds (ps := ["room"]) fun _ _ _ _ _ _ us hl => match us, hl with | [_], _ => rfl
  have m52 := PySem.W.mg_of X G a52
  have F53 := fun_mk (st := sBag) l53 e53 k53
  have b53 := F53.binds (ps := ["_law_script", "_law_at"]) fun _ _ _ _ _ _ us hl => match us, hl with | [_, _], _ => rfl
  have m53 := PySem.W.mg_of X G a53
  have F54 := fun_mk (st := sTake) l54 e54 k54
  have b54 := F54.binds (ps := ["_law_bag_here", "_law_many"]) fun _ _ _ _ _ _ us hl => match us, hl with | [_, _], _ => rfl
  have m54 := PySem.W.mg_of X G a54
  have F55 := fun_mk (st := sNicks) l55 e55 k55
  have b55 := F55.binds (ps := ["_law_bag_here", "_law_many"]) fun _ _ _ _ _ _ us hl => match us, hl with | [_, _], _ => rfl
  have m55 := PySem.W.mg_of X G a55
  have F56 := fun_mk (st := sExpr) l56 e56 k56
  have b56 := F56.binds (ps := ["_law_bag_here", "_law_info", "_law_deep"]) fun _ _ _ _ _ _ us hl => match us, hl with | [_, _, _], _ => rfl
  have m56 := PySem.W.mg_of X G a56
  have F57 := fun_mk (st := sTest) l57 e57 k57
  have b57 := F57.binds (ps := ["_law_bag_here", "_law_info", "_law_deep"]) fun _ _ _ _ _ _ us hl => match us, hl with | [_, _, _], _ => rfl
  have m57 := PySem.W.mg_of X G a57
  have F58 := fun_mk (st := sStep) l58 e58 k58
  have b58 := F58.binds (ps := ["_law_bag_here", "_law_info", "_law_deep", "_law_left"]) fun _ _ _ _ _ _ us hl => match us, hl with | [_, _, _, _], _ => rfl
  have m58 := PySem.W.mg_of X G a58
  have F59 := fun_mk (st := sSteps) l59 e59 k59
  have b59 := F59.binds (ps := ["_law_bag_here", "_law_info", "_law_deep", "_law_left"]) fun _ _ _ _ _ _ us hl => match us, hl with | [_, _, _, _], _ => rfl
  have m59 := PySem.W.mg_of X G a59
  have F60 := fun_mk (st := sRoom) l60 e60 k60
  have b60 := F60.binds (ps := ["_law_bag_here", "_law_nick", "_law_upper", "_law_lower", "_law_sizes"]) fun _ _ _ _ _ _ us hl => match us, hl with | [_, _, _, _, _], _ => rfl
  have m60 := PySem.W.mg_of X G a60
  have F61 := fun_mk (st := sProg) l61 e61 k61
  have b61 := F61.binds (ps := ["_law_bag_here", "_law_many", "_law_sizes"]) fun _ _ _ _ _ _ us hl => match us, hl with | [_, _, _], _ => rfl
  have m61 := PySem.W.mg_of X G a61
  have F62 := fun_mk (st := sLW) l62 e62 k62
  have b62 := F62.binds (ps := ["_law_tree", "_law_steps_here"]) fun _ _ _ _ _ _ us hl => match us, hl with | [_, _], _ => rfl
  have m62 := PySem.W.mg_of X G a62
  have F63 := fun_mk (st := sLH) l63 e63 k63
  have b63 := F63.binds (ps := ["_law_tree", "_law_one"]) fun _ _ _ _ _ _ us hl => match us, hl with | [_, _], _ => rfl
  have m63 := PySem.W.mg_of X G a63
  have F64 := fun_mk (st := sLR) l64 e64 k64
  have b64 := F64.binds (ps := ["_law_tree", "_law_nick"]) fun _ _ _ _ _ _ us hl => match us, hl with | [_, _], _ => rfl
  have m64 := PySem.W.mg_of X G a64
  have F65 := fun_mk (st := sRf) l65 e65 k65
  have b65 := F65.binds (ps := ["_law_deed", "_law_thing"]) fun _ _ _ _ _ _ us hl => match us, hl with | [_, _], _ => rfl
  have m65 := PySem.W.mg_of X G a65
  have F66 := fun_mk (st := sWh) l66 e66 k66
  have b66 := F66.binds (ps := ["_law_thing", "_law_due"]) fun _ _ _ _ _ _ us hl => match us, hl with | [_, _], _ => rfl
  have m66 := PySem.W.mg_of X G a66
  have F67 : FunC K "law" "law" sLaw _ _ c67 := ⟨⟨oc67, od67, kV67, dc67, pm67, an67, ct67, sl67, rfl, l67, e67⟩, k67⟩
  have b67 := F67.binds (ps := ["_law_script"]) fun _ _ _ _ _ us hl => match us, hl with | [_], _ => rfl
  have m67 := PySem.W.mg_of X G a67
  have y_isinstance := PySem.W.mg_none_of X G z1
  have y_int := PySem.W.mg_none_of X G z2
  have y_bool := PySem.W.mg_none_of X G z3
  have y_str := PySem.W.mg_none_of X G z4
  have y_tuple := PySem.W.mg_none_of X G z5
  have y_len := PySem.W.mg_none_of X G z6
  have y_all := PySem.W.mg_none_of X G z7
  have y_sum := PySem.W.mg_none_of X G z8
  have y_list := PySem.W.mg_none_of X G z9
  have y_max := PySem.W.mg_none_of X G z10
  have y_min := PySem.W.mg_none_of X G z11
  have y_range := PySem.W.mg_none_of X G z12
  have y_abs := PySem.W.mg_none_of X G z13
  have y_reversed := PySem.W.mg_none_of X G z14
  have y_set := PySem.W.mg_none_of X G z15
  have y_sorted := PySem.W.mg_none_of X G z16
  have y_repr := PySem.W.mg_none_of X G z17
  have y_LookupError := PySem.W.mg_none_of X G z18
  have y_KeyError := PySem.W.mg_none_of X G z19
  have y_IndexError := PySem.W.mg_none_of X G z20
  let T : List NTab := [(P7, fun _ _ => qReady), (P8, fun _ _ => qRT), (P9, fun _ _ => qRC), (P67, fun _ _ => qLaw)]
  refine ⟨PySem.W.fnOf "law" "law" (defArgs sLaw) (defBody sLaw) (defScope sLaw) .none kV67 dc67 pm67 an67 (.ref c67) ct67, [(c7, P7), (c8, P8), (c9, P9), (c67, P67)], spLawK K T, fun p hp => by
      simp only [List.mem_cons, List.not_mem_nil, or_false] at hp
      rcases hp with rfl | rfl | rfl | rfl
      · exact t7
      · exact t8
      · exact t9
      · exact t67, fun p hp => by
      simp only [List.mem_cons, List.not_mem_nil, or_false] at hp
      rcases hp with rfl | rfl | rfl | rfl
      · exact n7
      · exact n8
      · exact n9
      · exact n67, fun p hp => by
      simp only [List.mem_cons, List.not_mem_nil, or_false] at hp
      rcases hp with rfl | rfl | rfl | rfl
      · exact PySem.W.codeHd_of_K X q7
      · exact PySem.W.codeHd_of_K X q8
      · exact PySem.W.codeHd_of_K X q9
      · exact PySem.W.codeHd_of_K X q67, fun s v => .of_eq rfl, fun H a ns hl t hS => ⟨a, ns, rfl, hS, ?_, fun _ => rfl⟩, fun base _ _ TB => ?_⟩
  · intro p hp
    simp only [T, List.mem_cons, List.not_mem_nil, or_false] at hp
    rcases hp with rfl | rfl | rfl | rfl
    · exact TabN.nil (t (c7, P7) (by simp))
    · exact TabN.nil (t (c8, P8) (by simp))
    · exact TabN.nil (t (c9, P9) (by simp))
    · exact TabN.nil (t (c67, P67) (by simp))
  have TB7 : TabB base mg c7 P7 := TB (c7, P7) (by simp)
  have TB8 : TabB base mg c8 P8 := TB (c8, P8) (by simp)
  have TB9 : TabB base mg c9 P9 := TB (c9, P9) (by simp)
  have TB67 : TabB base mg c67 P67 := TB (c67, P67) (by simp)
  have hm7 : (P7, fun _ _ => qReady) ∈ T := by simp [T]
  have hm8 : (P8, fun _ _ => qRT) ∈ T := by simp [T]
  have hm9 : (P9, fun _ _ => qRC) ∈ T := by simp [T]
  have hm67 : (P67, fun _ _ => qLaw) ∈ T := by simp [T]
  have ne7_8 : P7 ≠ P8 := by
    intro z
    have := PySem.W.codeHd_of_K X q7
    have := PySem.W.codeHd_of_K X q8
    exact x_ne7_8 z
  have ne7_9 : P7 ≠ P9 := by
    intro z
    have := PySem.W.codeHd_of_K X q7
    have := PySem.W.codeHd_of_K X q9
    exact x_ne7_9 z
  have ne7_67 : P7 ≠ P67 := by
    intro z
    have := PySem.W.codeHd_of_K X q7
    have := PySem.W.codeHd_of_K X q67
    exact x_ne7_67 z
  have ne8_9 : P8 ≠ P9 := by
    intro z
    have := PySem.W.codeHd_of_K X q8
    have := PySem.W.codeHd_of_K X q9
    exact x_ne8_9 z
  have ne8_67 : P8 ≠ P67 := by
    intro z
    have := PySem.W.codeHd_of_K X q8
    have := PySem.W.codeHd_of_K X q67
    exact x_ne8_67 z
  have ne9_67 : P9 ≠ P67 := by
    intro z
    have := PySem.W.codeHd_of_K X q9
    have := PySem.W.codeHd_of_K X q67
    exact x_ne9_67 z
  have hu7 : ∀ p ∈ T, p.1 = P7 → p.2 = fun _ _ => qReady := by
    intro p hp e
    simp only [T, List.mem_cons, List.not_mem_nil, or_false] at hp
    rcases hp with rfl | rfl | rfl | rfl
    · rfl
    · exact absurd e (Ne.symm ne7_8)
    · exact absurd e (Ne.symm ne7_9)
    · exact absurd e (Ne.symm ne7_67)
  have hu8 : ∀ p ∈ T, p.1 = P8 → p.2 = fun _ _ => qRT := by
    intro p hp e
    simp only [T, List.mem_cons, List.not_mem_nil, or_false] at hp
    rcases hp with rfl | rfl | rfl | rfl
    · exact absurd e (ne7_8)
    · rfl
    · exact absurd e (Ne.symm ne8_9)
    · exact absurd e (Ne.symm ne8_67)
  have hu9 : ∀ p ∈ T, p.1 = P9 → p.2 = fun _ _ => qRC := by
    intro p hp e
    simp only [T, List.mem_cons, List.not_mem_nil, or_false] at hp
    rcases hp with rfl | rfl | rfl | rfl
    · exact absurd e (ne7_9)
    · exact absurd e (ne8_9)
    · rfl
    · exact absurd e (Ne.symm ne9_67)
  have hu67 : ∀ p ∈ T, p.1 = P67 → p.2 = fun _ _ => qLaw := by
    intro p hp e
    simp only [T, List.mem_cons, List.not_mem_nil, or_false] at hp
    rcases hp with rfl | rfl | rfl | rfl
    · exact absurd e (ne7_67)
    · exact absurd e (ne8_67)
    · exact absurd e (ne9_67)
    · rfl
  have kd : ∀ (x : Str) (g : Addr), PySem.W.nsIn K D x = some (some (.ref g)) → KDct K w D x (.ref g) := fun x g e => ⟨es, en, _, dl, dk, e, rfl⟩
  have Dd_ : DeedsT l.prog w K mg base := ⟨D, PySem.W.mg_of X G da, fun d => by
    cases d with
    | plus => exact ⟨f1, kd _ _ d_plus, k1, (FnOk.raw (ok_plus F1) b1 .nil).imp fun vs H Q E h => by rw [List.append_nil]; exact h⟩
    | less => exact ⟨f2, kd _ _ d_less, k2, (FnOk.raw (ok_less F2) b2 .nil).imp fun vs H Q E h => by rw [List.append_nil]; exact h⟩
    | times => exact ⟨f3, kd _ _ d_times, k3, (FnOk.raw (ok_times F3) b3 .nil).imp fun vs H Q E h => by rw [List.append_nil]; exact h⟩
    | over => exact ⟨f4, kd _ _ d_over, k4, (FnOk.raw (ok_over F4) b4 .nil).imp fun vs H Q E h => by rw [List.append_nil]; exact h⟩
    | rest => exact ⟨f5, kd _ _ d_rest, k5, (FnOk.raw (ok_rest F5) b5 .nil).imp fun vs H Q E h => by rw [List.append_nil]; exact h⟩⟩
  have O : Own mg := ⟨y_isinstance, y_int, y_bool, y_str, y_tuple, y_len, y_all, y_sum, y_list⟩
  have TR : RoomC K C := ⟨⟨rpg, rhd, rpo, rsa⟩, r_name, r_above, r_boxes, r_sayings, r_ask, r_told, r_promise, r_body⟩
  have TI : RoomI K C := ⟨x_cl, x_get, x_tk, x_mro, kit_self⟩
  have TP : ProgC K CP := ⟨⟨ppg, phd, ppo, psa⟩, p_held, p_drawn⟩
  have TH : HeldC K CP := ⟨⟨ppg, phd, ppo, psa⟩, p_held⟩
  have mR := PySem.W.mg_of X G xC
  have mP := PySem.W.mg_of X G xCP
  have mN := PySem.W.mg_of X G xCN
  have Z : NoRoomC K mg CN := ⟨⟨over_lookup, ⟨nmN, qN, NN, bsN, snN, subN, abN, colN, ddN, ek0, ek1, ek2, ek3, ek5, nL⟩, nsa, nex, nty, nkC⟩, nname, ⟨nga, ngg, nex, nhd⟩, ⟨nga, ngg, nex, nhd, ncl, x_get, x_tk, nmro⟩, kit_blt (by decide +kernel) nle, PySem.W.exm_ref nex nhd nty nsub, y_LookupError, vL, mN⟩
  have RF : RfC K mg CN CM CG CW := ⟨Z, PySem.W.mg_of X G xCM, PySem.W.mg_of X G xCG, PySem.W.mg_of X G xCW, y_KeyError, y_IndexError, y_repr, kit_no (kit_off d_CM i_CM y_CM s_CM) (kit_no (kit_off d_CG i_CG y_CG s_CG) (kit_no (kit_off d_CW i_CW y_CW s_CW) (kit_no (kit_blt (by decide +kernel) nke) (kit_no (kit_blt (by decide +kernel) nie) kit_nil))))⟩
  have kD : KKeys K w D deedWords := ⟨es, en, dl, dk, dkd, by decide, dsm, by rw [sizeLine_eq]; decide⟩
  have hkw : ∀ H, SqT K H kw (keptWords.map V.str) := fun H => .inr ⟨ot, _, nt, kwl, kwc, kwd, by (show 5 ≤ sizeLine; rw [sizeLine_eq]; decide), .cons ⟨_, rfl⟩ (.cons ⟨_, rfl⟩ (.cons ⟨_, rfl⟩ (.cons ⟨_, rfl⟩ (.cons ⟨_, rfl⟩ .nil))))⟩
  have he1 : ∀ H, SqT K H mt1 [] := fun H => .inr ⟨oe1, _, ne1, el1, ec1, ed1, Nat.zero_le _, .nil⟩
  have he2 : ∀ H, SqT K H mt2 [] := fun H => .inr ⟨oe2, _, ne2, el2, ec2, ed2, Nat.zero_le _, .nil⟩
  have he3 : ∀ H, SqT K H mt3 [] := fun H => .inr ⟨oe3, _, ne3, el3, ec3, ed3, Nat.zero_le _, .nil⟩
  have GRW := all_ready F7 TB7 hm7 hu7 Dd_ m7 b7 6
  have GC := ok_rc (P := l.prog) (w := w) F9 TB9 hm9 hu9
  have GRT := all_rt F8 TB8 hm8 hu8 m8 b8 GRW m7 k7 b7 GC m9 k9 b9 5
  have GH := ok_holds F6 GRT m8 k8 b8 y_list
  have Gwhole := ok_whole (P := l.prog) (w := w) (mg := mg) (base := base) O F10
  have Gwithin := ok_within F11 Gwhole b10 k10 m10
  have Grow := ok_row (P := l.prog) (w := w) (mg := mg) (base := base) O F17
  have Gcount := all_count (P := l.prog) (w := w) (mg := mg) (base := base) O F18 b18 m18 6
  have Gef := all_ef O F15 b15 m15 Grow b17 k17 m17 Gwithin b11 k11 m11 (PySem.W.mg_of X G da) kD 6
  have Gtf := all_tf O F16 b16 m16 Grow b17 k17 m17 Gef b15 k15 m15 6
  have Gie := ok_isE F13 Gef b15 k15 m15 Gcount b18 k18 m18 (PySem.W.mg_of X G c_MOST_DEEP_TERM) (PySem.W.mg_of X G c_MOST_TERMS)
  have Git := ok_isT F14 Gtf b16 k16 m16 Gcount b18 k18 m18 (PySem.W.mg_of X G c_MOST_DEEP_TERM) (PySem.W.mg_of X G c_MOST_TERMS)
  have Gbf := all_bf O F21 F20 b21 k21 m21 (PySem.W.mg_of X G c_MOST_IN_BODY) b20 k20 m20 Grow b17 k17 m17 Gwithin b11 k11 m11 Gie b13 k13 m13 Git b14 k14 m14 4
  have Gwb := ok_wb (P := l.prog) (w := w) (mg := mg) (base := base) F23
  have Gas := all_all F22 b22 m22 Gwb b23 k23 m23 5
  have Gib := ok_isB O F19 Gbf b20 k20 m20 Gas b22 k22 m22 (PySem.W.mg_of X G c_MOST_DEEP_STEP) (PySem.W.mg_of X G c_MOST_STEPS)
  have Gname := ok_name (P := l.prog) (w := w) (mg := mg) (base := base) O F12 (PySem.W.mg_of X G kwn) hkw (PySem.W.mg_of X G ltn)
  have Gbn := ok_bn (P := l.prog) (w := w) (mg := mg) (base := base) TR F52
  have Gbox := ok_boxf O F46 Gname b12 k12 m12 Gwithin b11 k11 m11 (PySem.W.mg_of X G c_MOST_BOUND)
  have Gboxes := ok_boxesf O y_set y_sorted F45 (PySem.W.mg_of X G c_MOST_BOXES) Gbox b46 k46 m46
  have Gtold := ok_toldf O TR F50 Gwithin b11 k11 m11 (PySem.W.mg_of X G c_MOST_BOUND) Gie b13 k13 m13 Gbn b52 k52 m52
  have Gfirst := ok_firstf (P := l.prog) (w := w) (mg := mg) (base := base) TR F48
  have Gother := ok_otherf TR F49 Gwithin b11 k11 m11 (PySem.W.mg_of X G c_MOST_BOUND) Git b14 k14 m14 Gtold b50 k50 m50
  have Grooms := ok_rooms (P := l.prog) (w := w) (mg := mg) (base := base) O TR TI mR F40 (PySem.W.mg_of X G c_MOST_ROOMS)
  have Gnamef := ok_namef TR F42 Gname b12 k12 m12
  have Gbodyf := ok_bodyf TR F51 Gib b19 k19 m19 Gbn b52 k52 m52
  have Gfloor := ok_floor (P := l.prog) (w := w) (mg := mg) (base := base) TR y_reversed F44
  have Gabove := ok_abovef TR F43 Gfloor b44 k44 m44 (PySem.W.mg_of X G c_MOST_FLOORS)
  have Gsays := ok_saysf O TR F47 (PySem.W.mg_of X G c_MOST_SAYINGS) Git b14 k14 m14 F6 GH m6
  have Gfault := ok_fault TR F41 Gnamef b42 k42 m42 Gabove b43 k43 m43 Gboxes b45 k45 m45 Gsays b47 k47 m47 Gfirst b48 k48 m48 Gother b49 k49 m49 Gbodyf b51 k51 m51
  have Gpinit := ok_pinit O y_range TP F35 Grooms b40 k40 m40 Gfault b41 k41 m41
  have MkP : Mk K CP f35 := ⟨pmk, a35, i35, pkc⟩
  have MP : Mk1 l.prog w K mg base 30 "Program" CP _ (spPInit T C CP) := ⟨f35, _, mP, MkP, Gpinit, b35⟩
  obtain ⟨RM, MR⟩ := room_m (P := l.prog) (w := w) (base := base) (D_ := CP) TR mR ⟨rmk, a34, i34, rkc⟩ F34
  have Dcw : Df l.prog w K mg base 1 "call_weight" _ spCW := ⟨f33, _, m33, k33, ok_cw F33, b33⟩
  have Dsw := all_sw O y_max ⟨f31, _, m31, F31, b31⟩ ⟨f30, _, m30, F30, b30⟩ ⟨f32, _, m32, F32, b32⟩ Dcw 4
  have Dbw : Df l.prog w K mg base 13 "body_weight" _ (spBW 4) := ⟨f30, _, m30, k30, ok_bw O F30 Dsw, b30⟩
  have Mrms : Mf l.prog w K mg base CP 1 "rooms" _ (spRms CP) := ⟨f36, _, ⟨a36, i36, k36⟩, ok_rms TH F36, b36⟩
  have Mro : Mf l.prog w K mg base CP 1 "room_of" _ (spRO C CP) := ⟨f37, _, ⟨a37, i37, k37⟩, ok_ro TR TH F37, b37⟩
  have Mben : Mf l.prog w K mg base CP 2 "beneath" _ (spBen C CP) := ⟨f38, _, ⟨a38, i38, k38⟩, ok_ben TR TH Mro F38, b38⟩
  have Dbws : Df l.prog w K mg base 14 "body_weights" _ (spBWs C CP) := ⟨f29, _, m29, k29, ok_bws TR TH Mrms Dbw F29, b29⟩
  have Dhb : Df l.prog w K mg base 1 "home_beats" _ (spHB C) := ⟨f27, _, m27, k27, ok_hb TR F27, b27⟩
  have Drb : Df l.prog w K mg base 15 "right_beats" _ (spRB C CP) := ⟨f28, _, m28, k28, ok_rb TR TH y_max Mrms Mben Dbws Dhb F28, b28⟩
  have Gbh := ok_bh (P := l.prog) (w := w) (base := base) TH Mro Dbws Dhb F24
  have Gbr := ok_br (P := l.prog) (w := w) (base := base) TR TH Mro Drb F25
  have Gbo := ok_bo (P := l.prog) (w := w) (base := base) TR TH Mrms Drb F26
  have Gnr := ok_noroom (P := l.prog) (w := w) (base := base) Z F39
  have Grox := ok_rox TR TH Z a39 nft Gnr b39 F37
  have Gbhx := ok_bhx TH Dbws Dhb ⟨a37, i37, k37⟩ Grox b37 F24
  have Gbrx := ok_brx TH Drb ⟨a37, i37, k37⟩ Grox b37 F25
  have Lbag : Df l.prog w K mg base 1 "_law_bag" _ (spBag K) := ⟨f53, _, m53, k53, ok_bag y_len y_abs y_int F53, b53⟩
  have Ltake : Df l.prog w K mg base 1 "_law_take" _ spTake := ⟨f54, _, m54, k54, ok_take (P := l.prog) (w := w) (mg := mg) (base := base) F54, b54⟩
  have Lnicks : Df l.prog w K mg base 2 "_law_nicks" _ spNicks := ⟨f55, _, m55, k55, ok_nicks y_range F55 Ltake, b55⟩
  have Lex2 := all_expr y_len ⟨f56, _, m56, F56, b56⟩ Ltake 2
  have Lex3 := all_expr y_len ⟨f56, _, m56, F56, b56⟩ Ltake 3
  have Lts := all_test ⟨f57, _, m57, F57, b57⟩ Ltake Lex2 2
  have Lst := all_steps_ y_range y_tuple y_len ⟨f59, _, m59, F59, b59⟩ ⟨f58, _, m58, F58, b58⟩ Ltake Lex3 Lts 4
  have Lroom : Df l.prog w K mg base 14 "_law_room" _ (spRoom C) := ⟨f60, _, m60, k60, ok_room O y_sorted F60 RM Ltake Lnicks Lex2 Lst, b60⟩
  have Lprog : Df l.prog w K mg base 32 "_law_program" _ (spProg T C CP) := ⟨f61, _, m61, k61, ok_prog O y_range F61 Ltake Lnicks Lroom MP, b61⟩
  have Llw := all_lw TR TH y_max Mro ⟨f62, _, m62, F62, b62⟩ 45
  have Llh : Df l.prog w K mg base 47 "_law_home" _ (spLH C CP) := ⟨f63, _, m63, k63, ok_lh TR Llw F63, b63⟩
  have Llr := all_lr TR TH y_max Mrms Mro Llh ⟨f64, _, m64, F64, b64⟩ 9
  have Lwh : Df l.prog w K mg base 1 "_law_whole" _ spWh := ⟨f66, _, m66, k66, ok_wh O F66, b66⟩
  have Lrf := ok_rf (P := l.prog) (w := w) (base := base) O RF m65 F65 b65 17
  have A1 : Df l.prog w K mg base 1 "are_rooms" _ (spA1 K C (.bl true)) := ⟨f40, _, m40, k40, a_rooms O TR TI mR F40 (PySem.W.mg_of X G c_MOST_ROOMS), b40⟩
  have A2 : Df l.prog w K mg base 1 "is_name" _ spName := ⟨f12, _, m12, k12, Gname, b12⟩
  have A3 : Df l.prog w K mg base 2 "name_fits" _ (spA2 K C (.bl true)) := ⟨f42, _, m42, k42, a_name TR A2 F42, b42⟩
  have A4 : Df l.prog w K mg base 2 "above_fits" _ (spA2 K C (.bl true)) := ⟨f43, _, m43, k43, a_above TR F43, b43⟩
  have A5 : Df l.prog w K mg base 4 "boxes_fit" _ (spE K (.bl true)) := ⟨f45, _, m45, k45, a_boxes O y_set y_sorted F45 (PySem.W.mg_of X G c_MOST_BOXES), b45⟩
  have A6 : Df l.prog w K mg base 17 "sayings_fit" _ (spRo K C (.bl true)) := ⟨f47, _, m47, k47, a_says O TR F47 (PySem.W.mg_of X G c_MOST_SAYINGS), b47⟩
  have A7 : Df l.prog w K mg base 1 "first_fault" _ (spRo K C (.str "")) := ⟨f48, _, m48, k48, a_first TR F48, b48⟩
  have A8 : Df l.prog w K mg base 1 "body_fits" _ (spE5 K) := ⟨f20, _, m20, k20, a_bfits O F20 (PySem.W.mg_of X G c_MOST_IN_BODY), b20⟩
  have A9 : Df l.prog w K mg base 1 "all_steps" _ (spEL K) := ⟨f22, _, m22, k22, a_all F22, b22⟩
  have A10 : Df l.prog w K mg base 2 "is_body" _ (spE4 K) := ⟨f19, _, m19, k19, a_isbody O F19 A8 A9 (PySem.W.mg_of X G c_MOST_DEEP_STEP) (PySem.W.mg_of X G c_MOST_STEPS), b19⟩
  have A11 : Df l.prog w K mg base 1 "box_names" _ (spRoL K C) := ⟨f52, _, m52, k52, a_names TR F52, b52⟩
  have A12 : Df l.prog w K mg base 3 "body_fault" _ (spA3 K C (.str "")) := ⟨f51, _, m51, k51, a_bodyf TR F51 A10 A11, b51⟩
  have A13 : Df l.prog w K mg base 18 "fault_of" _ (spA2 K C (.str "")) := ⟨f41, _, m41, k41, a_fault TR F41 A3 A4 A5 A6 A7 A12, b41⟩
  have MPK : Mk1 l.prog w K mg base 30 "Program" CP _ (spPI1 K C CP) := ⟨f35, _, mP, MkP, a_pinit O y_range TP F35 A1 A13, b35⟩
  have A14 : Mf l.prog w K mg base CP 1 "room_of" _ (spRO1 K C CP) := ⟨f37, _, ⟨a37, i37, k37⟩, a_ro TR TH F37, b37⟩
  have A15 : Mf l.prog w K mg base CP 2 "beneath" _ (spBe1 K C CP) := ⟨f38, _, ⟨a38, i38, k38⟩, a_ben TR TH A14 F38, b38⟩
  have A16 : Df l.prog w K mg base 1 "body_weight" _ (spBW1 K) := ⟨f30, _, m30, k30, a_bw O F30, b30⟩
  have A17 : Df l.prog w K mg base 14 "body_weights" _ (spTb1 K C CP 0) := ⟨f29, _, m29, k29, a_bws TR TH Mrms A16 F29, b29⟩
  have A18 : Df l.prog w K mg base 1 "home_beats" _ (spHB1 K C) := ⟨f27, _, m27, k27, a_hb TR F27, b27⟩
  have A19 : Df l.prog w K mg base 15 "right_beats" _ (spTb1 K C CP 1) := ⟨f28, _, m28, k28, a_rb TR TH y_max Mrms A15 A17 A18 F28, b28⟩
  have A20 : Df l.prog w K mg base 16 "beats_of" _ (spBO1 K C CP) := ⟨f26, _, m26, k26, a_bo TR TH Mrms A19 F26, b26⟩
  have N : Fns l.prog w K mg base T C CP CN := ⟨O, y_range, TR, TH, Mrms, Lbag, Ltake, Lprog, Llh, Llr, Lwh, ⟨f24, _, m24, k24, Gbh, b24⟩, ⟨f24, _, _, m24, k24, Gbh, kb_bh F24⟩, ⟨f25, _, _, m25, k25, Gbr, kb_br F25⟩, ⟨f26, _, m26, k26, Gbo, b26⟩, ⟨f26, _, _, m26, k26, Gbo, kb_bo F26⟩, ⟨f24, _, m24, k24, Gbhx, b24⟩, ⟨f25, _, m25, k25, Gbrx, b25⟩, Lrf⟩
  exact ok_lawK N MR he1 he2 he3 MPK A20 y_max y_min TB67 hm67 hu67 ⟨F67.ex⟩
end Any
open PySem PySem.W PyProof.Rows
set_option maxRecDepth 100000 in
set_option maxHeartbeats 0 in
theorem PySem.Challenge.cw_anystore_k50_beats_to_home_holds : PySem.Challenge.rw_anystore_k50_beats_to_home.Holds := by
  w_on; o_law; k_head; (case hw => w_witness2)
  k_fill
  refine Any.walk_gT (l := PySem.Challenge.rw_anystore_k50_beats_to_home) (n := 63) (k := 61) (x := "_law_script") rfl (by decide) rfl ⟨rfl, by decide, by decide⟩ (fun w h Y => PySem.W.km_in_of Y) ?F
  case F =>
    intro w mg fa h Y KX G hmg
    have hT8 := PySem.W.km_tabs_of Y
    refine' Any.all_mk KX G hmg ?xC ?xCP ?xCN ?xCM ?xCG ?xCW ?a1 ?l1 ?e1 ?k1 ?a2 ?l2 ?e2 ?k2 ?a3 ?l3 ?e3 ?k3 ?a4 ?l4 ?e4 ?k4 ?a5 ?l5 ?e5 ?k5 ?a6 ?l6 ?e6 ?k6 ?w6_0 ?w6_1 ?a7 ?l7 ?e7 ?k7 ?g7 ?v7 ?q7 ?n7 ?t7 ?a8 ?l8 ?e8 ?k8 ?g8 ?v8 ?q8 ?n8 ?t8 ?a9 ?l9 ?e9 ?k9 ?g9 ?v9 ?q9 ?n9 ?t9 ?a10 ?l10 ?e10 ?k10 ?a11 ?l11 ?e11 ?k11 ?a12 ?l12 ?e12 ?k12 ?a13 ?l13 ?e13 ?k13 ?a14 ?l14 ?e14 ?k14 ?a15 ?l15 ?e15 ?k15 ?a16 ?l16 ?e16 ?k16 ?a17 ?l17 ?e17 ?k17 ?a18 ?l18 ?e18 ?k18 ?a19 ?l19 ?e19 ?k19 ?a20 ?l20 ?e20 ?k20 ?a21 ?l21 ?e21 ?k21 ?a22 ?l22 ?e22 ?k22 ?a23 ?l23 ?e23 ?k23 ?a24 ?l24 ?e24 ?k24 ?a25 ?l25 ?e25 ?k25 ?a26 ?l26 ?e26 ?k26 ?a27 ?l27 ?e27 ?k27 ?a28 ?l28 ?e28 ?k28 ?a29 ?l29 ?e29 ?k29 ?a30 ?l30 ?e30 ?k30 ?a31 ?l31 ?e31 ?k31 ?a32 ?l32 ?e32 ?k32 ?a33 ?l33 ?e33 ?k33 ?a34 ?i34 ?l34 ?e34 ?k34 ?w34_0 ?w34_1 ?w34_2 ?w34_3 ?w34_4 ?w34_5 ?w34_6 ?a35 ?i35 ?l35 ?e35 ?k35 ?a36 ?i36 ?l36 ?e36 ?k36 ?a37 ?i37 ?l37 ?e37 ?k37 ?a38 ?i38 ?l38 ?e38 ?k38 ?a39 ?i39 ?l39 ?e39 ?k39 ?a40 ?l40 ?e40 ?k40 ?a41 ?l41 ?e41 ?k41 ?a42 ?l42 ?e42 ?k42 ?a43 ?l43 ?e43 ?k43 ?a44 ?l44 ?e44 ?k44 ?a45 ?l45 ?e45 ?k45 ?a46 ?l46 ?e46 ?k46 ?a47 ?l47 ?e47 ?k47 ?a48 ?l48 ?e48 ?k48 ?a49 ?l49 ?e49 ?k49 ?a50 ?l50 ?e50 ?k50 ?a51 ?l51 ?e51 ?k51 ?a52 ?l52 ?e52 ?k52 ?a53 ?l53 ?e53 ?k53 ?a54 ?l54 ?e54 ?k54 ?a55 ?l55 ?e55 ?k55 ?a56 ?l56 ?e56 ?k56 ?a57 ?l57 ?e57 ?k57 ?a58 ?l58 ?e58 ?k58 ?a59 ?l59 ?e59 ?k59 ?a60 ?l60 ?e60 ?k60 ?a61 ?l61 ?e61 ?k61 ?a62 ?l62 ?e62 ?k62 ?a63 ?l63 ?e63 ?k63 ?a64 ?l64 ?e64 ?k64 ?a65 ?l65 ?e65 ?k65 ?a66 ?l66 ?e66 ?k66 ?a67 ?l67 ?e67 ?k67 ?g67 ?v67 ?q67 ?n67 ?t67 ?da ?dl ?dk ?d_plus ?d_less ?d_times ?d_over ?d_rest ?rpg ?rhd ?rpo ?rsa ?rmk ?rkc ?r_name ?r_above ?r_boxes ?r_sayings ?r_ask ?r_told ?r_promise ?r_body ?ppg ?phd ?ppo ?psa ?pmk ?pkc ?p_held ?p_drawn ?x_cl ?x_get ?x_tk ?x_mro ?nL ?nsa ?nga ?ngg ?nname ?nft ?nkC ?nex ?nty ?nhd ?nsub ?ncl ?nmro ?nle ?vL ?nke ?nie ?dkd ?dsm ?kwn ?kwl ?kwc ?kwd ?ltn ?d_CM ?s_CM ?i_CM ?y_CM ?d_CG ?s_CG ?i_CG ?y_CG ?d_CW ?s_CW ?i_CW ?y_CW ?el1 ?ec1 ?ed1 ?el2 ?ec2 ?ed2 ?el3 ?ec3 ?ed3 ?c_MOST_DEEP_TERM ?c_MOST_TERMS ?c_MOST_DEEP_STEP ?c_MOST_STEPS ?c_MOST_IN_BODY ?c_MOST_ROOMS ?c_MOST_FLOORS ?c_MOST_BOXES ?c_MOST_SAYINGS ?c_MOST_BOUND ?z1 ?z2 ?z3 ?z4 ?z5 ?z6 ?z7 ?z8 ?z9 ?z10 ?z11 ?z12 ?z13 ?z14 ?z15 ?z16 ?z17 ?z18 ?z19 ?z20 ?x_ne7_8 ?x_ne7_9 ?x_ne7_67 ?x_ne8_9 ?x_ne8_67 ?x_ne9_67
    (case xC => k_is)
    (case xCP => k_is)
    (case xCN => k_is)
    (case xCM => k_is)
    (case xCG => k_is)
    (case xCW => k_is)
    (case a1 => k_is)
    (case l1 => k_is)
    (case e1 => k_is)
    (case k1 => k_is)
    (case a2 => k_is)
    (case l2 => k_is)
    (case e2 => k_is)
    (case k2 => k_is)
    (case a3 => k_is)
    (case l3 => k_is)
    (case e3 => k_is)
    (case k3 => k_is)
    (case a4 => k_is)
    (case l4 => k_is)
    (case e4 => k_is)
    (case k4 => k_is)
    (case a5 => k_is)
    (case l5 => k_is)
    (case e5 => k_is)
    (case k5 => k_is)
    (case a6 => k_is)
    (case l6 => k_is)
    (case e6 => k_is)
    (case k6 => k_is)
    (case w6_0 => k_is)
    (case w6_1 => k_is)
    (case a7 => k_is)
    (case l7 => k_is)
    (case e7 => k_is)
    (case k7 => k_is)
    (case g7 => k_is)
    (case v7 => rfl)
    (case q7 => kernel_rfl)
    (case n7 => kernel_rfl)
    (case t7 => exact hT8 _ (by k_mem))
    (case a8 => k_is)
    (case l8 => k_is)
    (case e8 => k_is)
    (case k8 => k_is)
    (case g8 => k_is)
    (case v8 => rfl)
    (case q8 => kernel_rfl)
    (case n8 => kernel_rfl)
    (case t8 => exact hT8 _ (by k_mem))
    (case a9 => k_is)
    (case l9 => k_is)
    (case e9 => k_is)
    (case k9 => k_is)
    (case g9 => k_is)
    (case v9 => rfl)
    (case q9 => kernel_rfl)
    (case n9 => kernel_rfl)
    (case t9 => exact hT8 _ (by k_mem))
    (case a10 => k_is)
    (case l10 => k_is)
    (case e10 => k_is)
    (case k10 => k_is)
    (case a11 => k_is)
    (case l11 => k_is)
    (case e11 => k_is)
    (case k11 => k_is)
    (case a12 => k_is)
    (case l12 => k_is)
    (case e12 => k_is)
    (case k12 => k_is)
    (case a13 => k_is)
    (case l13 => k_is)
    (case e13 => k_is)
    (case k13 => k_is)
    (case a14 => k_is)
    (case l14 => k_is)
    (case e14 => k_is)
    (case k14 => k_is)
    (case a15 => k_is)
    (case l15 => k_is)
    (case e15 => k_is)
    (case k15 => k_is)
    (case a16 => k_is)
    (case l16 => k_is)
    (case e16 => k_is)
    (case k16 => k_is)
    (case a17 => k_is)
    (case l17 => k_is)
    (case e17 => k_is)
    (case k17 => k_is)
    (case a18 => k_is)
    (case l18 => k_is)
    (case e18 => k_is)
    (case k18 => k_is)
    (case a19 => k_is)
    (case l19 => k_is)
    (case e19 => k_is)
    (case k19 => k_is)
    (case a20 => k_is)
    (case l20 => k_is)
    (case e20 => k_is)
    (case k20 => k_is)
    (case a21 => k_is)
    (case l21 => k_is)
    (case e21 => k_is)
    (case k21 => k_is)
    (case a22 => k_is)
    (case l22 => k_is)
    (case e22 => k_is)
    (case k22 => k_is)
    (case a23 => k_is)
    (case l23 => k_is)
    (case e23 => k_is)
    (case k23 => k_is)
    (case a24 => k_is)
    (case l24 => k_is)
    (case e24 => k_is)
    (case k24 => k_is)
    (case a25 => k_is)
    (case l25 => k_is)
    (case e25 => k_is)
    (case k25 => k_is)
    (case a26 => k_is)
    (case l26 => k_is)
    (case e26 => k_is)
    (case k26 => k_is)
    (case a27 => k_is)
    (case l27 => k_is)
    (case e27 => k_is)
    (case k27 => k_is)
    (case a28 => k_is)
    (case l28 => k_is)
    (case e28 => k_is)
    (case k28 => k_is)
    (case a29 => k_is)
    (case l29 => k_is)
    (case e29 => k_is)
    (case k29 => k_is)
    (case a30 => k_is)
    (case l30 => k_is)
    (case e30 => k_is)
    (case k30 => k_is)
    (case a31 => k_is)
    (case l31 => k_is)
    (case e31 => k_is)
    (case k31 => k_is)
    (case a32 => k_is)
    (case l32 => k_is)
    (case e32 => k_is)
    (case k32 => k_is)
    (case a33 => k_is)
    (case l33 => k_is)
    (case e33 => k_is)
    (case k33 => k_is)
    (case a34 => k_is)
    (case i34 => k_is)
    (case l34 => k_is)
    (case e34 => k_is)
    (case k34 => k_is)
    (case w34_0 => k_is)
    (case w34_1 => k_is)
    (case w34_2 => k_is)
    (case w34_3 => k_is)
    (case w34_4 => k_is)
    (case w34_5 => k_is)
    (case w34_6 => k_is)
    (case a35 => k_is)
    (case i35 => k_is)
    (case l35 => k_is)
    (case e35 => k_is)
    (case k35 => k_is)
    (case a36 => k_is)
    (case i36 => k_is)
    (case l36 => k_is)
    (case e36 => k_is)
    (case k36 => k_is)
    (case a37 => k_is)
    (case i37 => k_is)
    (case l37 => k_is)
    (case e37 => k_is)
    (case k37 => k_is)
    (case a38 => k_is)
    (case i38 => k_is)
    (case l38 => k_is)
    (case e38 => k_is)
    (case k38 => k_is)
    (case a39 => k_is)
    (case i39 => k_is)
    (case l39 => k_is)
    (case e39 => k_is)
    (case k39 => k_is)
    (case a40 => k_is)
    (case l40 => k_is)
    (case e40 => k_is)
    (case k40 => k_is)
    (case a41 => k_is)
    (case l41 => k_is)
    (case e41 => k_is)
    (case k41 => k_is)
    (case a42 => k_is)
    (case l42 => k_is)
    (case e42 => k_is)
    (case k42 => k_is)
    (case a43 => k_is)
    (case l43 => k_is)
    (case e43 => k_is)
    (case k43 => k_is)
    (case a44 => k_is)
    (case l44 => k_is)
    (case e44 => k_is)
    (case k44 => k_is)
    (case a45 => k_is)
    (case l45 => k_is)
    (case e45 => k_is)
    (case k45 => k_is)
    (case a46 => k_is)
    (case l46 => k_is)
    (case e46 => k_is)
    (case k46 => k_is)
    (case a47 => k_is)
    (case l47 => k_is)
    (case e47 => k_is)
    (case k47 => k_is)
    (case a48 => k_is)
    (case l48 => k_is)
    (case e48 => k_is)
    (case k48 => k_is)
    (case a49 => k_is)
    (case l49 => k_is)
    (case e49 => k_is)
    (case k49 => k_is)
    (case a50 => k_is)
    (case l50 => k_is)
    (case e50 => k_is)
    (case k50 => k_is)
    (case a51 => k_is)
    (case l51 => k_is)
    (case e51 => k_is)
    (case k51 => k_is)
    (case a52 => k_is)
    (case l52 => k_is)
    (case e52 => k_is)
    (case k52 => k_is)
    (case a53 => k_is)
    (case l53 => k_is)
    (case e53 => k_is)
    (case k53 => k_is)
    (case a54 => k_is)
    (case l54 => k_is)
    (case e54 => k_is)
    (case k54 => k_is)
    (case a55 => k_is)
    (case l55 => k_is)
    (case e55 => k_is)
    (case k55 => k_is)
    (case a56 => k_is)
    (case l56 => k_is)
    (case e56 => k_is)
    (case k56 => k_is)
    (case a57 => k_is)
    (case l57 => k_is)
    (case e57 => k_is)
    (case k57 => k_is)
    (case a58 => k_is)
    (case l58 => k_is)
    (case e58 => k_is)
    (case k58 => k_is)
    (case a59 => k_is)
    (case l59 => k_is)
    (case e59 => k_is)
    (case k59 => k_is)
    (case a60 => k_is)
    (case l60 => k_is)
    (case e60 => k_is)
    (case k60 => k_is)
    (case a61 => k_is)
    (case l61 => k_is)
    (case e61 => k_is)
    (case k61 => k_is)
    (case a62 => k_is)
    (case l62 => k_is)
    (case e62 => k_is)
    (case k62 => k_is)
    (case a63 => k_is)
    (case l63 => k_is)
    (case e63 => k_is)
    (case k63 => k_is)
    (case a64 => k_is)
    (case l64 => k_is)
    (case e64 => k_is)
    (case k64 => k_is)
    (case a65 => k_is)
    (case l65 => k_is)
    (case e65 => k_is)
    (case k65 => k_is)
    (case a66 => k_is)
    (case l66 => k_is)
    (case e66 => k_is)
    (case k66 => k_is)
    (case a67 => k_is)
    (case l67 => k_is)
    (case e67 => k_is)
    (case k67 => k_is)
    (case g67 => k_is)
    (case v67 => rfl)
    (case q67 => kernel_rfl)
    (case n67 => kernel_rfl)
    (case t67 => exact hT8 _ (by k_mem))
    (case da => k_is)
    (case dl => k_is)
    (case dk => k_keys)
    (case d_plus => k_is)
    (case d_less => k_is)
    (case d_times => k_is)
    (case d_over => k_is)
    (case d_rest => k_is)
    (case rpg => k_is)
    (case rhd => k_is)
    (case rpo => k_is)
    (case rsa => k_is)
    (case rmk => k_is)
    (case rkc => k_is)
    (case r_name => k_is)
    (case r_above => k_is)
    (case r_boxes => k_is)
    (case r_sayings => k_is)
    (case r_ask => k_is)
    (case r_told => k_is)
    (case r_promise => k_is)
    (case r_body => k_is)
    (case ppg => k_is)
    (case phd => k_is)
    (case ppo => k_is)
    (case psa => k_is)
    (case pmk => k_is)
    (case pkc => k_is)
    (case p_held => k_is)
    (case p_drawn => k_is)
    (case x_cl => k_is)
    (case x_get => k_is)
    (case x_tk => k_is)
    (case x_mro => k_is)
    (case nL => k_is)
    (case nsa => k_is)
    (case nga => k_is)
    (case ngg => k_is)
    (case nname => k_is)
    (case nft => k_is)
    (case nkC => k_is)
    (case nex => k_is)
    (case nty => k_is)
    (case nhd => k_is)
    (case nsub => first | rfl | k_is)
    (case ncl => k_is)
    (case nmro => k_is)
    (case nle => k_is)
    (case vL => k_is)
    (case nke => k_is)
    (case nie => k_is)
    (case dkd => exact ⟨⟨_, rfl⟩, ⟨_, rfl⟩, ⟨_, rfl⟩, ⟨_, rfl⟩, ⟨_, rfl⟩, trivial⟩)
    (case dsm => rfl)
    (case kwn => k_is)
    (case kwl => k_is)
    (case kwc => rfl)
    (case kwd => rfl)
    (case ltn => k_is)
    (case d_CM => first | rfl | decide)
    (case s_CM => k_is)
    (case i_CM => k_is)
    (case y_CM => k_is)
    (case d_CG => first | rfl | decide)
    (case s_CG => k_is)
    (case i_CG => k_is)
    (case y_CG => k_is)
    (case d_CW => first | rfl | decide)
    (case s_CW => k_is)
    (case i_CW => k_is)
    (case y_CW => k_is)
    (case el1 => k_is)
    (case ec1 => rfl)
    (case ed1 => rfl)
    (case el2 => k_is)
    (case ec2 => rfl)
    (case ed2 => rfl)
    (case el3 => k_is)
    (case ec3 => rfl)
    (case ed3 => rfl)
    (case c_MOST_DEEP_TERM => k_is)
    (case c_MOST_TERMS => k_is)
    (case c_MOST_DEEP_STEP => k_is)
    (case c_MOST_STEPS => k_is)
    (case c_MOST_IN_BODY => k_is)
    (case c_MOST_ROOMS => k_is)
    (case c_MOST_FLOORS => k_is)
    (case c_MOST_BOXES => k_is)
    (case c_MOST_SAYINGS => k_is)
    (case c_MOST_BOUND => k_is)
    (case z1 => k_is)
    (case z2 => k_is)
    (case z3 => k_is)
    (case z4 => k_is)
    (case z5 => k_is)
    (case z6 => k_is)
    (case z7 => k_is)
    (case z8 => k_is)
    (case z9 => k_is)
    (case z10 => k_is)
    (case z11 => k_is)
    (case z12 => k_is)
    (case z13 => k_is)
    (case z14 => k_is)
    (case z15 => k_is)
    (case z16 => k_is)
    (case z17 => k_is)
    (case z18 => k_is)
    (case z19 => k_is)
    (case z20 => k_is)
    (case x_ne7_8 => exact (by decide))
    (case x_ne7_9 => exact (by decide))
    (case x_ne7_67 => exact (by decide))
    (case x_ne8_9 => exact (by decide))
    (case x_ne8_67 => exact (by decide))
    (case x_ne9_67 => exact (by decide))
#print axioms PySem.Challenge.cw_anystore_k50_beats_to_home_holds
