import PyProof.Rows.All
import Wide.All
import OpenK.AllK
import Wide.FinOn
import HandS.ForMost
import HandS.Wide
import HandS.Defaults
import HandS.More
import HandS.RaiseMore
import HandS.Style
import PyProof.ReprRoads
import PyProof.SliceMore
import HandS.IterVal
import HandS.Nested
import HandS.Conv
import KE.KDictList
import KE.KNestM
import HandS.EndTab
import HandS.NoneIn
import HandS.IsInst
import HandS.Iter
import HandS.MakeKwOnly
import HandS.Rev
import HandS.DictComp
import HandS.Flow
import HandS.Set
import HandS.TupSets
import HandS.DeepEq
import HandS.Star
import KE.GoesEnum
import HandS.Walk
import HandS.ForExc
import HandS.ExcInit
import HandS.ExcField
import HandS.ExcIs
import HandS.FStr
import KE.KExcIs
import HandS.TupAny
import HandS.TupMul
import KE.DataEq
import PySem.Challenge.RW_anystore_k05_places
set_option Elab.async false
set_option linter.all false
set_option maxRecDepth 100000
namespace Any
open L2 PySem PyProof.Rows
open PySem.Spec

/-! ### the texts of data (repr) -/
/-- a thing without parts -/
inductive Flat : V → PyData → Prop
  | non : Flat .non .none
  | bl (b : Bool) : Flat (.bl b) (.bool b)
  | int (i : Int) : Flat (.int i) (.int i)
  | str (x : Str) : Flat (.str x) (.str x)
def keyD : Key → PyData
  | .inl i => .int i
  | .inr x => .str x
/-- what repr may be asked of: lists and tuples at any depth, dicts of flat things -/
inductive Shows (K : PySem.W.Frag) (H : Hp) : Addr → PyData → Prop
  | seq {a : Addr} {d : PyData} : Dp K H (.ref a) d → d.hasDict = false → Shows K H a d
  | dct {a : Addr} {kvs : List (Key × V)} {ds : List (PyData × PyData)} : H a = some (.dK kvs) →
      Paired (fun (p : Key × V) (q : PyData × PyData) => q.1 = keyD p.1 ∧ Flat p.2 q.2) kvs ds → Shows K H a (.dict ds)

section
variable {P : Program} {w : World} {h : Heap}
theorem flat_reads {v : V} {u : Value} {d : PyData} (f : Flat v d) (r : RelV v u) : Reads h u d [] := by
  cases f with
  | non => cases r; exact .none
  | bl b => cases r; exact .bool b
  | int i => obtain ⟨t, rfl⟩ := r; exact .int i t
  | str x => obtain ⟨t, rfl⟩ := r; exact .str x t
theorem key_reads {k : Key} {u : Value} (e : keyIs k u = true) : Reads h u (keyD k) [] := by
  rcases keyIs_shape e with ⟨i, t, rfl, rfl⟩ | ⟨x, t, rfl, rfl⟩
  · exact .int i t
  · exact .str x t
theorem dct_reads : ∀ {kvs : List (Key × V)} {ds : List (PyData × PyData)} {vs : List (Key × Value)} {es : List DictEntry},
    Paired (fun (p : Key × V) (q : PyData × PyData) => q.1 = keyD p.1 ∧ Flat p.2 q.2) kvs ds → KV kvs vs → Pairs (mixKind P w) es vs →
    ReadsAll h (es.map (·.key)) (ds.map (·.1)) [] ∧ ReadsAll h (es.map (·.val)) (ds.map (·.2)) []
  | _, _, _, _, .nil, r, q => by
    cases r; cases q; exact ⟨.nil, .nil⟩
  | _, _, _, _, .cons z zs, r, q => by
    cases r with
    | cons r1 r2 =>
      cases q with
      | cons q1 q2 q3 =>
        obtain ⟨a, b⟩ := dct_reads zs r2 q3
        rename_i p ps d dd vv vr e es
        have k1 : keyIs vv.1 e.key = true := q1
        refine ⟨?_, ?_⟩
        · have c := ReadsAll.cons (as := []) (bs := []) (key_reads (h := h) k1) a
          rw [← r1.1, ← z.1] at c
          exact c
        · have c := ReadsAll.cons (as := []) (bs := []) (flat_reads (h := h) z.2 r1.2) b
          rw [← q2] at c
          exact c
end

section
variable {X : Cx}
def rRepr (K : PySem.W.Frag) : List V → Hp → VK → Prop := fun vs H Q => ∃ a d, vs = [.ref a] ∧ Shows K H a d ∧ d.showable = true ∧ d.depth ≤ 60 ∧ d.shown.length ≤ sizeLine ∧ Q (.str d.shown) H
theorem call_repr (hG : X.A.guards = some []) (hu : X.A.units + 70 < cLine) : CallR X (.builtin "repr") (rRepr X.K) := by
  intro pins s σ H xs us Q I r h
  obtain ⟨a, d, rfl, hd, hs, hdp, hz, q⟩ := h
  obtain ⟨u, rfl, ru⟩ := vals1 r
  cases ru
  have key : ∃ as, Reads s.heap (.ref a) d as ∧ (d.hasDict = true → sysModules ∉ as) := by
    cases hd with
    | seq h1 h2 =>
      obtain ⟨as, q1⟩ := Dp.reads I d _ _ h1 rfl
      exact ⟨as, q1, fun z => by rw [h2] at z; cases z⟩
    | dct h1 h2 =>
      obtain ⟨_, ns, vs, kv, o, es, ep, e1, e2, e3, _, e5, _⟩ := I.hok a _ h1
      obtain ⟨q1, q2⟩ := dct_reads (h := s.heap) h2 kv e5
      refine ⟨_, Reads.dict e1 e2.1 e3 q1 q2, fun _ z => ?_⟩
      rcases List.mem_append.mp z with z | z
      · rcases List.mem_cons.mp z with z | z
        · rw [← z] at ns
          simp at ns
        · cases z
      · cases z
  obtain ⟨as, rd, sm⟩ := key
  refine repr_of_reads' rd hs sm hG (by omega) (fun _ _ e => e) (fun h' u tk hk => ?_) hz
  exact ⟨.str d.shown, H, I.kept hk, ⟨_, rfl⟩, q⟩

/-! ### xs[::e], e being 1 or -1 -/
theorem pick_one (items : Array Value) : slicePick items none none (some 1) = items := by
  have e : slicePick items none none (some 1) = slicePick items none none none := rfl
  rw [e, slicePick_all]
def tStep (K : PySem.W.Frag) (te ts : TE) : TE := fun σ H Q => te σ H fun x H1 => ts σ H1 fun y H2 => ∃ a xs, x = .ref a ∧ SqL K H2 a xs ∧
  ((y = .int 1 ∧ ∀ p, H2 p = none → Q (.ref p) (upd H2 p (.lst xs))) ∨ (y = .int (-1) ∧ ∀ p, H2 p = none → Q (.ref p) (upd H2 p (.lst xs.reverse))))
theorem pe_step {e st : Expr} {te ts : TE} {p3 pos : Pos} (he : PE X e te) (hst : PE X st ts) :
    PE X (.Subscript e (.Slice none none (some st) p3) pos) (tStep X.K te ts) := by
  refine ⟨fun pins s σ H Q I h => ?_⟩
  refine Subscript_ (thn (he.run pins s σ H _ I h) fun v s1 ⟨x, H1, I1, r1, q1⟩ => ?_)
  refine wpAny_Slice (thn (po_none.run pins s1 σ H1 (fun o H2 => o = none ∧ H2 = H1) I1 ⟨rfl, rfl⟩) fun vl s2 ⟨l, H2, I2, pl, el, e2⟩ => ?_)
  subst el e2
  refine thn (po_none.run pins s2 σ H2 (fun o H3 => o = none ∧ H3 = H2) I2 ⟨rfl, rfl⟩) fun vu s3 ⟨u, H3, I3, pu, eu, e3⟩ => ?_
  subst eu e3
  rw [evalPart_some]
  refine thn (hst.run pins s3 σ H3 _ I3 q1) fun vs s4 ⟨y, H4, I4, r4, a, xs, ex, hx, q⟩ => ?_
  subst ex
  cases r1
  have I5 : Inv X pins σ H4 { s4 with heap := s4.heap.push { cls := .type "slice", data := .fields #[vl, vu, vs] } } := I4.kept (t' := s4.toks) fun b ob q => Heap.get?_push_of_some _ q
  obtain ⟨its, r, ht, hz⟩ := I5.list hx
  have hlen := r.length
  have two : ∃ k : Int, y = .int k ∧ k ≠ 0 ∧ ∃ zs ws, Vals ws zs ∧ slicePick its.toArray none none (some k) = zs.toArray ∧ ws.length ≤ sizeLine ∧ ∀ p, H4 p = none → Q (.ref p) (upd H4 p (.lst ws)) := by
    rcases q with ⟨ey, q⟩ | ⟨ey, q⟩
    · exact ⟨1, ey, by decide, its, xs, r, pick_one _, hz, q⟩
    · exact ⟨-1, ey, by decide, its.reverse, xs.reverse, r.reverse, by rw [PySem.W.krv_pick], by rw [List.length_reverse]; exact hz, q⟩
  obtain ⟨k, ey, hk, zs, ws, rz, epk, hzs, qq⟩ := two
  subst ey
  obtain ⟨t, rfl⟩ := (show ∃ t, vs = Value.int k t from r4)
  show wpAny (model X.prog X.w) X.A (subscriptTail e (.Slice none none (some st) p3) (.ref a) (.ref s4.heap.objs.size)) (EP X pins σ Q) X.xe _
  refine tail_any (ops := [.ref a, .ref s4.heap.objs.size]) ht.isList.typeIs (PySem.slot_list_getitem.lookup) ?_ (by with_unfolding_all rfl)
  refine wpAny_getItem_list_slice ht.isList (Heap.IsSliceOf.new _ vl vu (.int k t)) pl pu (IsPart.int k t) (by intro z; exact hk (Option.some.inj z)) ?_ (by rw [List.size_toArray]; omega)
  rw [epk]
  refine ⟨.ref _, _, I5.laid (t' := s4.toks) (o := .lst ws) (fun b ob q => Heap.get?_push_of_some _ q) (Nat.le_refl _) ?_, rfl, qq _ (I5.hok.fresh (Nat.le_refl _))⟩
  exact ⟨hzs, _, 0, rz, Heap.get?_push_size _ rfl⟩

/-! ### great powers -/
def CPowW (i j : Int) : Prop := 0 ≤ j ∧ (Builtin.Int.intBits i : Int) * j ≤ 2 ^ 27
theorem op_powW : OpR X (binaryOp .Pow) (rI CPowW fun i j => .int (i ^ j.toNat)) := opI fun _ _ _ _ _ _ _ hc q => pow_int hc.1 hc.2 q
end
end Any
namespace Any
open L2 PySem PyProof.Rows
open PySem.Spec

/-! ### defs that run where no repr is under way -/
section
variable (P : Program) (w : World) (K : PySem.W.Frag) (mg : Str → Option Value) (base : Heap)
/-- as FnOk, for callers with no guard -/
structure FnG (C : CXT) (k : Nat) (f : Addr) (fd : FuncData) (ps : List Str) (sp : Sp) : Prop where
  len : ∀ vs H Q E, sp vs H Q E → vs.length = ps.length
  go : ∀ (A : Around) (out : List Env) (s : Shared) (H : Hp) (args : Args) (us : List Value) (vs : List V) (Q : VK) (E : XK), A.guards = some [] → Room k A →
    Env0 P w K mg base A out s H → BindsTo s fd args (ps.zip us) → Vals vs us → sp vs H Q E → codeAny (model P w) A (.call (.ref f) args) (CR C out P w H s Q E) s
end
section
variable {P : Program} {w : World} {K : PySem.W.Frag} {mg : Str → Option Value} {base : Heap}
theorem FnG.of {C : CXT} {k : Nat} {f : Addr} {fd : FuncData} {ps : List Str} {sp : Sp} (F : FnOk P w K mg base C k f fd ps sp) : FnG P w K mg base C k f fd ps sp :=
  ⟨F.len, fun A out s H args us vs Q E _ hr => F.run A out s H args us vs Q E hr⟩
theorem FnG.mono {C : CXT} {j k : Nat} {f : Addr} {fd : FuncData} {ps : List Str} {sp : Sp} (F : FnG P w K mg base C j f fd ps sp) (h : j ≤ k) : FnG P w K mg base C k f fd ps sp :=
  ⟨F.len, fun A out s H args us vs Q E hg hr => F.go A out s H args us vs Q E hg (hr.mono h)⟩

/-- a def's body, under no guard -/
theorem fn_g {C : CXT} {k : Nat} {f : Addr} {nm ql : Str} {ar : Arguments} {bd : List Stmt} {sc : Scope} {v1 v2 v3 v4 v5 v6 v7 : Value} {a1 a2 : Option Addr} {sl : Array (Option Value)} {N ps : List Str} {sp : Sp}
    (at_ : K.lookup f = some ⟨v7, a2, .func (PySem.W.fnOf nm ql ar bd sc v1 v2 v3 v4 a1 v5 v6), sl⟩) (code : PySem.W.codeIn K v5 ql = true) (S : FnScope N ps sc)
    (ln : ∀ vs H Q E, sp vs H Q E → vs.length = ps.length)
    (hb : ∀ (A : Around) (out : List Env) (s : Shared) (H : Hp) (vs : List V) (Q : VK) (E : XK), A.guards = some [] → Room k (A.deeper (envOfC ql sc s.heap.objs.size f v5)) → sp vs H Q E →
      ∃ t, PSs (cxOf C P w K mg base N ql sc f v5 A out s H E) bd t ∧ t ⟨fun _ H' => Q .non H', Q, fun _ _ => False, fun _ _ => False⟩ (start N vs) H) :
    FnG P w K mg base C (k + 1) f (PySem.W.fnOf nm ql ar bd sc v1 v2 v3 v4 a1 v5 v6) ps sp where
  len := ln
  go A out s H args us vs Q E hg hr e0 hbi rv hsp := by
    have kx : K.In s.heap := e0.mod.kin.keeps (fun b o z => (e0.bs b o z).1)
    have nl : s.heap.NoLimit := e0.mod.nolimit.keeps (fun b o z => (e0.bs b o z).1)
    have kd : ∀ y ∈ ps.zip us, sc.names.lookup y.1 = some .local ∨ (sc.names.lookup y.1 = some .cell ∧ ((cellsFrom (s.heap.objs.size + 1) sc.names []).lookup y.1).isSome = true) := by
      rintro ⟨n, v⟩ hy
      have z := S.par n (List.of_mem_zip hy).1
      exact z.elim .inl (fun z => .inr ⟨z, PySem.W.cellsFrom_some _ _ _ (.inl z)⟩)
    refine codeAny_call_function hr.depth (kx _ _ at_) rfl S.co S.gen rfl (PySem.W.codeRec_of kx code) (hbi _ _ _ _ (wpAny_newFunctionEnv_cells S.kind kd (fun env he s1 x => ?_)))
    subst he
    obtain ⟨t, ht, hq⟩ := hb A out s H vs Q E hg (hr.deeper _) hsp
    have I := inv_start (CX := C) (E := E) S hr.hd e0 (ln _ _ _ _ hsp) rv x
    refine ⟨nl.keeps x.toInCall.keep, codeAny_func (wpAny_mono (ht.run [] s1 (start N vs) H _ I hq) (fun fl s' hs => ?_) (fun _ _ z => z))⟩
    cases fl with
    | ret u => obtain ⟨v, σ', H', J, r', q⟩ := hs; exact ⟨v, H', J.os, J.bare, J.base, J.hok, r', q⟩
    | next => obtain ⟨σ', H', J, q⟩ := hs; exact ⟨.non, H', J.os, J.bare, J.base, J.hok, rfl, q⟩
    | brk => exact hs.elim fun _ z => z.elim fun _ z => z.2.elim
    | cont => exact hs.elim fun _ z => z.elim fun _ z => z.2.elim
theorem fun_g {x ql : Str} {st : Stmt} {f : Addr} {fd : FuncData} {N ps : List Str} {k : Nat} {sp : Sp} (F : Fun K x ql st f fd) (S : FnScope N ps (defScope st)) (ln : ∀ vs H Q E, sp vs H Q E → vs.length = ps.length)
    (hb : ∀ (cv : Value) (A : Around) (out : List Env) (s : Shared) (H : Hp) (vs : List V) (Q : VK) (E : XK), A.guards = some [] → Room k (A.deeper (envOfC ql (defScope st) s.heap.objs.size f cv)) → sp vs H Q E →
      ∃ t, PSs (cxOf CX0 P w K mg base N ql (defScope st) f cv A out s H E).nox (defBody st) t ∧ t ⟨fun _ H' => Q .non H', Q, fun _ _ => False, fun _ _ => False⟩ (start N vs) H) : FnG P w K mg base CX0 (k + 1) f fd ps sp := by
  obtain ⟨_, _, _, _, _, _, cv, _, _, rfl, lk, hc⟩ := F.ex
  refine fn_g lk hc S ln fun A out s H vs Q E hg hr hs => ?_
  obtain ⟨t, h, q⟩ := hb cv A out s H vs Q E hg hr hs
  exact ⟨t, h.nox, q⟩
end

section
variable {X : Cx} {C : CXT} {k : Nat} {f : Addr} {fd : FuncData} {ps : List Str} {sp : Sp} {ds : List V} {us0 : List Value} {E : XK} {x : Str} {p pos : Pos} {e : Expr} {es : List Expr} {t : TA}
/-- a call of such a def -/
theorem pe_callG (F : FnG X.prog X.w X.K X.mg X.base C k f fd ps sp) (hG : X.A.guards = some []) (hr : Room k X.A) (hg : Gl X x) (hm : X.mg x = some (.ref f)) (hk : PySem.W.keepIn X.K (.ref f) = true) (hb : Binds X.K fd ps us0) (hd : Vals ds us0)
    (hx : Passes C X E) (ha : PA X (e :: es) t) (h1 : (x == ("__debug__" : Str)) = false := by decide) (h2 : starEach (e :: es) X.env = (false, eval e X.env) :: starEach es X.env := by rfl)
    (h3 : (backTo pos (starEach es X.env)).any (·.1) = false := by rfl) : PE X (.Call (.Name x p) (e :: es) [] pos) (tCall sp ds E t) where
  run pins s σ H Q I h := by
    refine wpAny_Call_Name_kw (ld_glob I hg hm (PySem.W.callWith_K (h₀ := X.base) I.ok.mod.kin hk (thn (ha.run pos pins s σ H _ I h) ?_) h2 h3) h1)
    rintro us s1 ⟨vs, H1, I1, rv, q⟩
    have rr := rv.append hd
    have hl : (us ++ us0).length = ps.length := rr.length.symm.trans (F.len _ _ _ _ q)
    refine ⟨I1.kIn, wpAny_call (codeAny_mono (F.go X.A X.stack s1 H1 _ _ _ Q E hG hr I1.env0 (hb s1 us I1.kIn hl) rr q) ?_)⟩
    rintro (err | fl) s' hq
    · exact hx pins σ H1 s1 err s' I1 hq
    · cases fl with
      | ret u => exact I1.after hq
      | next => cases hq
      | brk => cases hq
      | cont => cases hq

/-- x(e, ..), x a name that holds one of several defs -/
def tCallS (X : Cx) (C : CXT) (k i : Nat) (E : XK) (t : TA) : TE := fun σ H Q => ∃ f sp, FnR X.prog X.w X.K X.mg X.base C k f sp ∧ PySem.W.keepIn X.K (.ref f) = true ∧ σ[i]? = some (some (.ref f)) ∧ t σ H fun vs H1 => sp vs H1 Q E
theorem pe_callS {i : Nat} (hr : Room k X.A) (hx : Passes C X E) (hN : X.N[i]? = some x) (hv : Vis X.env.scope x) (ha : PA X (e :: es) t)
    (h1 : (x == ("__debug__" : Str)) = false := by decide) (h4 : (x == ("__classdict__" : Str)) = false := by decide) (h2 : starEach (e :: es) X.env = (false, eval e X.env) :: starEach es X.env := by rfl)
    (h3 : (backTo pos (starEach es X.env)).any (·.1) = false := by rfl) : PE X (.Call (.Name x p) (e :: es) [] pos) (tCallS X C k i E t) where
  run pins s σ H Q I h := by
    obtain ⟨f, sp, F, hk, hs, h⟩ := h
    exact (ItX.pe_callV (i := i) (p := p) F hr hk hx hN hv ha h1 h4 h2 h3).run pins s σ H Q I ⟨hs, h⟩

/-- f(k = v, ..) alone -/
theorem pe_callK0 {ks : List Str} {g : List Value → List Value → List Value} {gV : List V → List V → List V} {kws : List Keyword} {tk : TA} (F : FnOk X.prog X.w X.K X.mg X.base C k f fd ps sp) (hr : Room k X.A) (hg : Gl X x) (hm : X.mg x = some (.ref f))
    (hk : PySem.W.keepIn X.K (.ref f) = true) (hb : KBn X.K fd ps 0 ks g gV) (hx : Passes C X E) (hkw : PK X kws tk) (hall : (backToKw pos (keywordEach kws X.env)).all (·.1.isSome) = true := by rfl)
    (hks : (backToKw pos (keywordEach kws X.env)).filterMap (·.1) = ks := by rfl) (h1 : (x == ("__debug__" : Str)) = false := by decide)
    (h3 : ((backTo pos (starEach [] X.env)).any (·.1) || (backToKw pos (keywordEach kws X.env)).any (·.1.isNone)) = false := by rfl) :
    PE X (.Call (.Name x p) [] kws pos) (fun σ H Q => tk σ H fun zs H1 => zs.length = ks.length ∧ sp (gV [] zs) H1 Q E) where
  run pins s σ H Q I h := by
    refine wpAny_Call_Name_kw (ld_glob I hg hm ?_ h1)
    refine PySem.W.callWith_KW0 (h₀ := X.base) I.ok.mod.kin hk hall (thn (hkw.run pos pins s σ H _ I h) ?_) h3
    rintro ws s1 ⟨zs, H1, I1, rz, l1, q⟩
    refine ⟨I1.kIn, ?_⟩
    rw [hks]
    exact run_fnN (us := []) (vs := []) F hr hb hx I1 .nil rz rfl l1 q
end

/-! ### the law's call, under no guard -/
section
variable {P : Program} {w : World} {K : PySem.W.Frag} {mg mb : Str → Option Value}
theorem law_g {C : CXT} {k : Nat} {fa a : Addr} {fd : FuncData} {x : Str} {sp : Sp} {s : Shared} {vs : List Value} {ns : List Int}
    (kx : K.In s.heap) (g1 : s.heap.Ns mainGlobals mg) (g2 : s.heap.Ns builtinsNs mb) (g3 : ∀ x : Str, x ≠ "__name__" → mb x = bootBuiltins x) (g4 : s.heap.NoLimit) (g5 : s.gens = #[])
    (la : s.heap.get? a = some { cls := .type "list", data := .seq vs.toArray }) (li : IntsAre vs ns) (ll : ns.length ≤ sizeLine) (hr : Room k callerA)
    (F : ∀ base : Heap, K.In base → base.Ns mainGlobals mg → FnG P w K mg base C k fa fd [x] sp) (bd : ∀ (s : Shared) (u : Value), BindsTo s fd ⟨[u], []⟩ [(x, u)])
    (want : ∀ H : Hp, Only H → SqL K H a (ns.map V.int) → sp [.ref a] H (fun v _ => v = .bl true) fun _ _ _ => False)
    (noC : ∀ H e s', C [] H s (fun _ _ _ => False) e s' → False) :
    codeAny (model P w) callerA (.call (.ref fa) ⟨[.ref a], []⟩) (fun r s' => r = .ok (.ret (.bool true)) ∧ OldK s.heap s'.heap ∧ s'.os = s.os ∧ AllBare s'.gens) s := by
  -- one abstract heap: the script, if the written part has it not
  have pick : ∃ H : Hp, Only H ∧ SqL K H a (ns.map V.int) ∧ HOk P w H s.heap ∧ (∀ b u, H b = some u → b = a) ∧ ((H a).isSome = true → K.lookup a = none) := by
    cases hk : K.lookup a with
    | some o =>
      have z := (kx a o hk).symm.trans la
      cases z
      exact ⟨fun _ => none, fun _ => .inl rfl, .inr ⟨_, vs.toArray, _, hk, rfl, rfl, rfl, by rw [List.size_toArray, li.length]; exact ll, by simpa using vals_ints li⟩, (fun b u z => by cases z), (fun b u z => by cases z), (fun z => by cases z)⟩
    | none =>
      let o : HO := .frz { cls := .type "list", data := .seq vs.toArray } (.lst (ns.map V.int))
      have at_a : ∀ b u, upd (fun _ => none) a o b = some u → b = a ∧ u = o := fun b u z => by
        by_cases hb : b = a
        · subst hb; rw [upd_same] at z; exact ⟨rfl, (Option.some.inj z).symm⟩
        · rw [upd_ne hb] at z; cases z
      refine ⟨upd (fun _ => none) a o, fun b => ?_, .inl (.inr ⟨_, upd_same⟩), fun b u z => ?_, fun b u z => (at_a b u z).1, fun _ => rfl⟩
      · by_cases hb : b = a
        · subst hb; exact .inr ⟨_, _, upd_same⟩
        · exact .inl (by rw [upd_ne hb])
      · obtain ⟨rfl, rfl⟩ := at_a b u z
        exact ⟨la, by rw [List.length_map]; exact ll, vs, _, vals_ints li, la⟩
  obtain ⟨H, hO, hS, hok, hA, hK⟩ := pick
  have free : ∀ {b : Addr} {ob : Obj} {es : Array DictEntry} {n : Nat}, s.heap.get? b = some ob → ob.data = .dict es n → H b = none := by
    intro b ob es n z d
    cases q : H b with
    | none => rfl
    | some u =>
      have z1 := hA b u q
      subst z1
      have z2 := z.symm.trans la
      cases z2
      have d' : Data.seq vs.toArray 0 = Data.dict es n := d
      cases d'
  have ns' : ∀ {b : Addr} {m : Str → Option Value}, s.heap.Ns b m → (hidT s.heap H).Ns b m := by
    rintro b m ⟨o, es, n, z, d, r⟩
    exact ⟨o, es, n, hidT_get z (free z d), d, r⟩
  have kb : K.In (hidT s.heap H) := by
    intro b o z
    refine hidT_get (kx b o z) ?_
    cases q : H b with
    | none => rfl
    | some u =>
      have z1 := hA b u q
      subst z1
      have z2 := hK (by rw [q]; rfl)
      rw [z2] at z
      cases z
  obtain ⟨mc, l1, l2⟩ := g4
  have e0 : Env0 P w K mg (hidT s.heap H) callerA [] s H :=
    { frames := rfl, mod := ⟨kb, ns' g1, ⟨mb, ns' g2, g3⟩, ⟨mc, ns' l1, l2⟩⟩, bs := fun b o z => of_hidT z, bsz := Nat.le_of_eq (hidT_size _ _), funs := trivial, frf := fun b z => (by cases z), hok := hok, bare := .of_eq g5 }
  refine codeAny_mono ((F _ kb (ns' g1)).go callerA [] s H ⟨[.ref a], []⟩ [.ref a] [.ref a] _ _ rfl hr e0 (bd s (.ref a)) (.cons rfl .nil) (want H hO hS)) ?_
  rintro (err | fl) s' h
  · exact (noC H err s' h).elim
  cases fl with
  | next => cases h
  | brk => cases h
  | cont => cases h
  | ret u =>
    obtain ⟨v, H', h1, h2, un, hok', rv, rfl⟩ := h
    cases rv
    refine ⟨rfl, OldK.of_keep (fun b o z => ?_), h1, h2⟩
    cases q : H b with
    | none => exact un.keep b o z q (fun z => by cases z) (fun z => by cases z)
    | some u =>
      rcases hO b with z1 | ⟨ob, xs, z1⟩
      · rw [q] at z1; cases z1
      · have z2 := (hok b _ z1).1
        rw [z] at z2
        cases z2
        exact (hok' b _ (un.frzs b _ _ z1)).1
theorem walk_g {l : PySem.W.OpenLaw} {n k : Nat} {q : Program} {loose : List Str} {XP : (Str → Option Value) → Heap → Prop} {YP : World → Heap → Prop} {d : DefRec} {K : Params → PySem.W.Frag} {sp : PySem.W.Frag → Sp} {x : Str}
    (h1 : l.most = some n) (h2 : n ≤ sizeLine) (h3 : d.params.defaults = []) (hr : Room k callerA) (hY : ∀ (w : World) (h : Heap), YP w h → (K w.params).In h)
    (F : ∀ (w : World) (mg : Str → Option Value) (fa : Addr) (h : Heap), (K w.params).In h → h.Ns mainGlobals mg → mg d.name = some (.ref fa) →
      ∃ fd : FuncData, (∀ (s : Shared) (u : Value), BindsTo s fd ⟨[u], []⟩ [(x, u)]) ∧ ∀ base : Heap, (K w.params).In base → base.Ns mainGlobals mg → FnG l.prog w (K w.params) mg base CX0 k fa fd [x] (sp (K w.params)))
    (want : ∀ (K : PySem.W.Frag) (H : Hp) (a : Addr) (ns : List Int), ns.length ≤ n → Only H → SqL K H a (ns.map V.int) → sp K [.ref a] H (fun v _ => v = .bl true) fun _ _ _ => False) :
    PySem.W.WalkO q loose XP YP l.row.toRowW d [] (fun f vs => PySem.call f vs) := by
  refine Att.attach_call h1 h3 fun w s₀ s₁ mg mb fa o pm cd doc a vs ns G Y _ _ _ hmg hobj hints hlen hg => ?_
  have kx := hY w _ Y
  obtain ⟨fd, hb, hF⟩ := F w mg fa _ kx G.T.g hmg
  exact law_g kx G.T.g G.T.b G.T.builtins G.T.nolimit hg hobj hints (Nat.le_trans hlen h2) hr hF hb (fun H hO hS => want _ H a ns hlen hO hS) (fun _ _ _ z => z)
end
end Any
set_option maxHeartbeats 1000000
namespace Any
open L2 PySem PyProof.Rows LamX NdefX
open PySem.Spec
/-! ### statements, the slots at the return told -/
structure EndR where
  nx : L2.St → Hp → Prop
  rt : V → L2.St → Hp → Prop
abbrev TR := EndR → L2.St → Hp → Prop
def SR (X : Cx) (pins : List (Addr × Obj)) (D : EndR) (f : Flow) (s' : Shared) : Prop :=
  match f with
  | .next => ∃ σ' H', Inv X pins σ' H' s' ∧ D.nx σ' H'
  | .ret u => ∃ v σ' H', Inv X pins σ' H' s' ∧ L2.RelV v u ∧ D.rt v σ' H'
  | _ => False
structure PR (X : Cx) (st : Stmt) (t : TR) : Prop where
  run : ∀ (pins : List (Addr × Obj)) (s : Shared) (σ : L2.St) (H : Hp) (D : EndR), Inv X pins σ H s → t D σ H → wpAny (model X.prog X.w) X.A (exec st X.env) (SR X pins D) X.xe s
structure PRs (X : Cx) (st : List Stmt) (t : TR) : Prop where
  run : ∀ (pins : List (Addr × Obj)) (s : Shared) (σ : L2.St) (H : Hp) (D : EndR), Inv X pins σ H s → t D σ H → wpAny (model X.prog X.w) X.A (execs st X.env) (SR X pins D) X.xe s
section
variable {X : Cx} {st : Stmt} {rest : List Stmt} {t u : TR} {e : Expr} {pos : Pos}
/-- a statement that only goes on -/
def tGo (t : TS) : TR := fun D σ H => t { nx := D.nx, rt := fun _ _ => False } σ H
theorem pr_go {t : TS} (h : PS X st t) : PR X st (tGo t) := by
  refine ⟨fun pins s σ H D I hq => thn (h.run pins s σ H _ I hq) fun f s1 q => ?_⟩
  cases f with
  | next => exact q
  | ret v =>
    obtain ⟨_, _, _, _, _, z⟩ := q
    exact z.elim
  | brk =>
    obtain ⟨_, _, _, z⟩ := q
    exact z.elim
  | cont =>
    obtain ⟨_, _, _, z⟩ := q
    exact z.elim
def tRetR (te : TE) : TR := fun D σ H => te σ H fun v H' => D.rt v σ H'
theorem pr_ret {te : TE} (he : PE X e te) : PR X (.Return (some e) pos) (tRetR te) := by
  refine ⟨fun pins s σ H D I h => ?_⟩
  exact wpAny_Return_some (thn (he.run pins s σ H _ I h) fun v s1 ⟨x, H1, I1, r1, q1⟩ => ⟨x, σ, H1, I1, r1, q1⟩)
def tIfR (c : TT) (t u : TR) : TR := fun D σ H => c σ H fun b H1 => if b = true then t D σ H1 else u D σ H1
theorem pr_if {c : Expr} {a b : List Stmt} {tc : TT} (hc : PT X c tc) (ha : PRs X a t) (hb : PRs X b u) : PR X (.If c a b pos) (tIfR tc t u) := by
  refine ⟨fun pins s σ H D I h => ?_⟩
  refine wpAny_If (thn (hc.run pins s σ H _ I h) fun d s1 ⟨H1, I1, q1⟩ => ?_)
  cases d with
  | true => exact ha.run pins s1 σ H1 D I1 q1
  | false => exact hb.run pins s1 σ H1 D I1 q1
def tSeqR (t u : TR) : TR := fun D σ H => t { D with nx := u D } σ H
def tNextR : TR := fun D σ H => D.nx σ H
theorem prs_nil : PRs X [] tNextR := ⟨fun _ _ σ H _ I h => wpAny_execs_nil ⟨σ, H, I, h⟩⟩
theorem prs_cons (h1 : PR X st t) (h2 : PRs X rest u) : PRs X (st :: rest) (tSeqR t u) := by
  refine ⟨fun pins s σ H D I h => ?_⟩
  refine wpAny_execs_cons (thn (h1.run pins s σ H { D with nx := u D } I h) fun f s1 q => ?_)
  cases f with
  | next =>
    obtain ⟨σ', H', I', q⟩ := q
    exact h2.run pins s1 σ' H' D I' q
  | ret v => exact q
  | brk => exact q.elim
  | cont => exact q.elim
theorem prs_one (h1 : PR X st t) : PRs X [st] t := by
  refine ⟨fun pins s σ H D I h => ?_⟩
  refine wpAny_execs_cons (thn (h1.run pins s σ H D I h) fun f s1 q => ?_)
  cases f with
  | next => exact wpAny_execs_nil q
  | ret v => exact q
  | brk => exact q.elim
  | cont => exact q.elim
end
/-! ### a made lambda -/
structure LF where
  qual : Str
  params : Arguments
  body : Expr
  scope : Scope
  cl : List (Str × Addr)
  c : Addr
/-- the object at f is the lambda F -/
def LamO (f : Addr) (F : LF) : HO := .ext fun h => ∃ (pm ctv : Value), h.get? f = some (PySem.W.kla_obj "<lambda>" F.qual F.params F.body F.scope F.cl pm F.c ctv)
theorem lamO_at {P : Program} {w : World} {H : Hp} {h : Heap} {f : Addr} {F : LF} (hok : HOk P w H h) (e : H f = some (LamO f F)) : ∃ (pm ctv : Value), h.get? f = some (PySem.W.kla_obj "<lambda>" F.qual F.params F.body F.scope F.cl pm F.c ctv) := by
  obtain ⟨z, _, _⟩ := hok f _ e
  exact z
theorem lamO_ne {f : Addr} {F : LF} (ps : Array Value) : LamO f F ≠ .tbl ps := fun z => by
  unfold LamO at z
  cases z
section
variable {X : Cx} {pins : List (Addr × Obj)} {σ : L2.St} {H : Hp} {s : Shared}
theorem inv_lam {F : LF} {t' : Nat} {pm ctv : Value} (I : Inv X pins σ H s) :
    Inv X pins σ (upd H s.heap.objs.size (LamO s.heap.objs.size F)) { s with heap := s.heap.push (PySem.W.kla_obj "<lambda>" F.qual F.params F.body F.scope F.cl pm F.c ctv), toks := t' } := by
  refine I.laid (a := s.heap.objs.size) (fun b u e => Heap.get?_push_of_some _ e) (Nat.le_refl _) ?_
  have e : (s.heap.push (PySem.W.kla_obj "<lambda>" F.qual F.params F.body F.scope F.cl pm F.c ctv)).get? s.heap.objs.size = some (PySem.W.kla_obj "<lambda>" F.qual F.params F.body F.scope F.cl pm F.c ctv) := Heap.get?_push_size _ rfl
  exact ⟨⟨pm, ctv, e⟩, ⟨_, e⟩, fun h1 h2 ⟨p, t, z⟩ st => ⟨p, t, st _ z⟩⟩
/-- a table with one code object more -/
def putTab (H : Hp) (P c' : Addr) (ps : Array Value) (pos : Pos) (q : Str) : Hp := upd (upd H P (.tbl (ps ++ #[rawInt pos.line, rawInt pos.col, .ref c']))) c' (CodeO c' q)
theorem putTab_ext {P c' : Addr} {ps : Array Value} {pos : Pos} {q : Str} (at_ : H P = some (.tbl ps)) (new : H c' = none) : ExtN H (putTab H P c' ps pos q) := fun b o e no => by
  have b1 : b ≠ c' := ne_of_none e new
  have b2 : b ≠ P := fun z => by
    rw [z, at_] at e
    exact no ps (Option.some.inj e).symm
  unfold putTab
  rw [upd_ne b1, upd_ne b2, e]
theorem putTab_tabs {T : List NTab} {nm : Nat → Nat → Str} {P c' : Addr} {ps : Array Value} {pos : Pos} {q : Str} (uni : ∀ p ∈ T, p.1 = P → p.2 = nm) (all : TabsN T H) (at_ : H P = some (.tbl ps)) (tri : TriplesOk ps.toList)
    (told : ∀ (pos : Pos) (cv : Value), codeAmong pos ps.toList = some cv → ∃ c, cv = .ref c ∧ H c = some (CodeO c (nm pos.line pos.col))) (new : H c' = none) (hq : nm pos.line pos.col = q) : TabsN T (putTab H P c' ps pos q) := by
  have ext := putTab_ext (pos := pos) (q := q) at_ new
  have own : putTab H P c' ps pos q c' = some (CodeO c' q) := upd_same
  intro p hp
  by_cases pP : p.1 = P
  · have lst : (ps ++ #[rawInt pos.line, rawInt pos.col, .ref c']).toList = ps.toList ++ [rawInt pos.line, rawInt pos.col, .ref c'] := by simp
    refine ⟨ps ++ #[rawInt pos.line, rawInt pos.col, .ref c'], ?_, ?_, fun at2 cv found => ?_⟩
    · rw [pP]
      unfold putTab
      rw [upd_ne (ne_of_none at_ new), upd_same]
    · rw [lst]
      exact PySem.TriplesOk_snoc _ _ _ _ tri
    · rw [lst] at found
      rw [uni p hp pP]
      rcases among_app2 _ tri found with z | ⟨z, l1, l2⟩
      · obtain ⟨c0, x1, x2⟩ := told at2 cv z
        exact ⟨c0, x1, ext _ _ x2 codeO_ne⟩
      · rw [← l1, ← l2, hq]
        exact ⟨c', z, own⟩
  · obtain ⟨qs, y1, y2, y3⟩ := all p hp
    refine ⟨qs, ?_, y2, fun at2 cv found => ?_⟩
    · unfold putTab
      rw [upd_ne (ne_of_none y1 new), upd_ne pP, y1]
    · obtain ⟨c0, x1, x2⟩ := y3 at2 cv found
      exact ⟨c0, x1, ext _ _ x2 codeO_ne⟩
/-- a lambda is made: it is known from now on, and so is its code object -/
theorem lam_make {T : List NTab} {nm : Nat → Nat → Str} {c P : Addr} {ar : Arguments} {bd : Expr} {sc : Scope} {pos : Pos} {E : Value → Shared → Prop} {Q : Value → Shared → Prop} (I : Inv X pins σ H s) (base : TabB X.base X.mg c P) (mine : X.env.code = .ref c)
    (listed : (P, nm) ∈ T) (named : nm pos.line pos.col = X.env.qual ++ "<lambda>") (uni : ∀ p ∈ T, p.1 = P → p.2 = nm) (all : TabsN T H) (nod : defaultsOf ar X.env = ([], [])) (capt : ∀ y ∈ sc.names, y.2 = .free → ∃ c, X.env.cells.lookup y.1 = some c)
    (go : ∀ (f c' : Addr) (H1 : Hp) (s' : Shared), Inv X pins σ H1 s' → ExtN H H1 → (∀ b, H1 b = Option.none → H b = Option.none) → TabsN T H1 → H f = none → H1 f = some (LamO f ⟨X.env.qual ++ "<lambda>", ar, bd, sc, cloFrom X.env.cells sc.names [], c'⟩) → H1 c' = some (CodeO c' (X.env.qual ++ "<lambda>")) → Q (.ref f) s') :
    wpAny (model X.prog X.w) X.A (eval (.Lambda ar bd sc pos) X.env) Q E s := by
  obtain ⟨ps, at_, tri, told⟩ := (show TabN H P nm from all _ listed)
  have raw : s.heap.get? P = some { cls := .none, data := .fields ps } := I.hok P _ at_
  have glob := I.mod.glob.keeps I.bk
  -- behind the making: the new function's object is laid last
  have last : ∀ (H1 : Hp) (s1 : Shared) (c' : Addr) (ctv : Value) (tk : Nat), Inv X pins σ H1 s1 → ExtN H H1 → (∀ b, H1 b = Option.none → H b = Option.none) → TabsN T H1 → H1 c' = some (CodeO c' (X.env.qual ++ "<lambda>")) →
      Q (.ref s1.heap.objs.size) { s1 with heap := s1.heap.push (PySem.W.kla_obj "<lambda>" (X.env.qual ++ "<lambda>") ar bd sc (cloFrom X.env.cells sc.names []) ((X.mg "__name__").getD .none) c' ctv), toks := tk } := fun H1 s1 c' ctv tk J x1 x2 x3 x4 => by
    have free1 := J.hok.fresh (Nat.le_refl _)
    have J2 := inv_lam (F := ⟨X.env.qual ++ "<lambda>", ar, bd, sc, cloFrom X.env.cells sc.names [], c'⟩) (t' := tk) (pm := (X.mg "__name__").getD .none) (ctv := ctv) J
    have up : ∀ b o, H1 b = some o → upd H1 s1.heap.objs.size (LamO s1.heap.objs.size ⟨X.env.qual ++ "<lambda>", ar, bd, sc, cloFrom X.env.cells sc.names [], c'⟩) b = some o := fun b o e => by
      rw [upd_ne (ne_of_none e free1)]
      exact e
    exact go _ c' _ _ J2 (fun b o e n => up b o (x1 b o e n)) (fun b e => x2 b (NdefX.upd_none e)) (x3.ext up) (x2 _ free1) upd_same (up _ _ x4)
  refine PySem.W.kla_eval nod ?_
  cases seen : codeAmong pos ps.toList with
  | some cv =>
    obtain ⟨c', rfl, known⟩ := told pos cv seen
    rw [named] at known
    refine PySem.W.kla_makeFunctionHit (mg := X.mg) (c := c) (P := P) (ps := ps) (closure_ok capt) I.ok.glob glob mine (base.code.keeps I.bk) raw tri seen (base.bm.keeps I.bk) fun ctv h' tk kp _ => ?_
    exact last H { s with heap := h', toks := tk } c' ctv tk (I.kept kp) (ExtN.refl H) (fun _ z => z) all known
  | none =>
    refine PySem.W.kla_makeFunction (mg := X.mg) (c := c) (P := P) (ps := ps) (closure_ok capt) I.ok.glob glob mine (base.code.keeps I.bk) raw tri seen base.gP (base.bm.keeps I.bk) fun c' ctv h' tk kp above _ rec tab => ?_
    obtain ⟨d, oc, vs, tok, ed, g1, g2, g3⟩ := rec
    cases ed
    have new : H c' = none := I.hok.fresh above
    have J := inv_table (t' := tk) (more := #[rawInt pos.line, rawInt pos.col, .ref c']) (h' := h') I at_ (fun b o n e => kp b o n e) tab above ⟨oc, vs, tok, g1, g2, g3⟩
    exact last (putTab H P c' ps pos (X.env.qual ++ "<lambda>")) { s with heap := h', toks := tk } c' ctv tk J (putTab_ext at_ new) (fun b z => NdefX.upd_none (NdefX.upd_none z)) (putTab_tabs uni all at_ tri told new named) upd_same
end
/-- the reading of a lambda -/
def tLamb (T : List NTab) (mk : Addr → LF) : TE := fun _ H Q => TabsN T H ∧ ∀ (f c' : Addr) (H1 : Hp), ExtN H H1 → (∀ b, H1 b = Option.none → H b = Option.none) → TabsN T H1 → H f = none → H1 f = some (LamO f (mk c')) → H1 c' = some (CodeO c' (mk c').qual) → Q (.ref f) H1
theorem pe_lamb {X : Cx} {T : List NTab} {nm : Nat → Nat → Str} {c P : Addr} {params : Arguments} {body : Expr} {scope : Scope} {pos : Pos} (TB : TabB X.base X.mg c P) (hcode : X.env.code = .ref c)
    (hm : (P, nm) ∈ T) (hn : nm pos.line pos.col = X.env.qual ++ "<lambda>") (hu : ∀ p ∈ T, p.1 = P → p.2 = nm) (hdef : defaultsOf params X.env = ([], []))
    (hfree : ∀ y ∈ scope.names, y.2 = .free → X.env.scope.names.lookup y.1 = some .cell ∨ X.env.scope.names.lookup y.1 = some .free) :
    PE X (.Lambda params body scope pos) (tLamb T fun c' => ⟨X.env.qual ++ "<lambda>", params, body, scope, cloFrom X.env.cells scope.names [], c'⟩) := by
  refine ⟨fun pins s σ H Q I h => ?_⟩
  obtain ⟨hT, h⟩ := h
  have hfr : ∀ y ∈ scope.names, y.2 = .free → ∃ c, X.env.cells.lookup y.1 = some c := fun y hy e => (hfree y hy e).elim (fun z => I.ok.has _ (.inl z)) fun z => I.ok.has _ (.inr z)
  exact lam_make I TB hcode hm hn hu hT hdef hfr fun f c' H1 s' I1 eN nn T1 f0 f1 c1 => ⟨.ref f, H1, I1, rfl, h f c' H1 eN nn T1 f0 f1 c1⟩
end Any
set_option maxHeartbeats 1000000
namespace Any
open L2 PySem PyProof.Rows LamX NdefX
open PySem.Spec
/-! ### cells that are known beyond their frame -/
def CellO (c : Addr) (v : V) : HO := .ext fun h => ∃ u, L2.RelV v u ∧ h.IsCell c (some u)
theorem cellO_ok {P : Program} {w : World} {H : Hp} {h : Heap} {c : Addr} {v : V} {u : Value} (r : L2.RelV v u) (hc : h.IsCell c (some u)) : ObjOk P w H h c (CellO c v) := by
  obtain ⟨o, ho, hd⟩ := id hc
  exact ⟨⟨u, r, hc⟩, ⟨o, ho⟩, fun h1 h2 ⟨u, r, o, ho, hd⟩ st => ⟨u, r, o, st _ ho, hd⟩⟩
theorem cellO_tbl {c : Addr} {v : V} (ps : Array Value) : CellO c v ≠ .tbl ps := fun z => by
  unfold CellO at z
  cases z
theorem cellO_own {c x : Addr} {v : V} : CellO c v ≠ .own x := fun z => by
  unfold CellO at z
  cases z
theorem cellO_tup {c : Addr} {v : V} {xs : List V} : CellO c v ≠ .tup xs := fun z => by
  unfold CellO at z
  cases z
theorem cellO_frz {c : Addr} {v : V} {o : Obj} {u : HO} : CellO c v ≠ .frz o u := fun z => by
  unfold CellO at z
  cases z
/-- the cell at b holds v, by the slots -/
def Capt (X : Cx) (σ : L2.St) (b : Addr) (v : V) : Prop := ∃ (x : Str) (i : Nat), X.env.cells.lookup x = some b ∧ X.N[i]? = some x ∧ σ[i]? = some (some v) ∧ X.env.scope.names.lookup x = some .cell
open Classical in
noncomputable def trkC (X : Cx) (σ : L2.St) (H : Hp) : Hp := fun b => if h : ∃ v, Capt X σ b v then some (CellO b h.choose) else H b
section
variable {X : Cx} {pins : List (Addr × Obj)} {σ : L2.St} {H : Hp} {s : Shared}
theorem capt_one (I : Inv X pins σ H s) (nd : X.N.Nodup) {b : Addr} {v v' : V} (h : Capt X σ b v) (h' : Capt X σ b v') : v = v' := by
  obtain ⟨x, i, e1, e2, e3, e4⟩ := h
  obtain ⟨x', i', f1, f2, f3, f4⟩ := h'
  have ex := I.ok.inj x x' b e1 f1
  subst ex
  have ei := nodup_ix nd e2 f2
  subst ei
  rw [e3] at f3
  exact Option.some.inj (Option.some.inj f3)
theorem trkC_at (I : Inv X pins σ H s) (nd : X.N.Nodup) {b : Addr} {v : V} (h : Capt X σ b v) : trkC X σ H b = some (CellO b v) := by
  have e : ∃ v, Capt X σ b v := ⟨v, h⟩
  unfold trkC
  rw [dif_pos e, capt_one I nd e.choose_spec h]
theorem capt_none (I : Inv X pins σ H s) {b : Addr} {v : V} (h : Capt X σ b v) : H b = none := by
  obtain ⟨x, i, e1, _⟩ := h
  exact I.freeC x b e1
theorem trkC_same (I : Inv X pins σ H s) : Same H (trkC X σ H) := fun b o e => by
  unfold trkC
  rw [dif_neg (fun ⟨v, h⟩ => by rw [capt_none I h] at e; cases e)]
  exact e
theorem trkC_cases (I : Inv X pins σ H s) (nd : X.N.Nodup) (b : Addr) : (∃ v, Capt X σ b v ∧ trkC X σ H b = some (CellO b v)) ∨ ((¬ ∃ v, Capt X σ b v) ∧ trkC X σ H b = H b) := by
  by_cases h : ∃ v, Capt X σ b v
  · obtain ⟨v, h⟩ := h
    exact .inl ⟨v, h, trkC_at I nd h⟩
  · refine .inr ⟨h, ?_⟩
    unfold trkC
    rw [dif_neg h]
theorem capt_cell (I : Inv X pins σ H s) {b : Addr} {v : V} (h : Capt X σ b v) : ∃ u, L2.RelV v u ∧ s.heap.IsCell b (some u) := by
  obtain ⟨x, i, e1, e2, e3, e4⟩ := h
  obtain ⟨m, hn, hl⟩ := I.loc
  obtain ⟨u, r, l⟩ := hl i x v e2 e3 (.inr (.inl e4))
  refine ⟨u, r, ?_⟩
  rcases l with ⟨k, _⟩ | ⟨_, c, e, z⟩
  · have k : X.env.scope.names.lookup x = some .local := k
    rw [e4] at k
    cases k
  · rw [e1] at e
    cases e
    exact z
/-- at a def's end its cells are known -/
theorem end_track (I : Inv X pins σ H s) (nd : X.N.Nodup) (hfn : ∀ x, X.fn x = true) (hex : X.ex = []) :
    Un X.fs [] X.H_0 (trkC X σ H) X.s_0.heap s.heap ∧ HOk X.prog X.w (trkC X σ H) s.heap := by
  have new : ∀ {b : Addr} {v : V}, Capt X σ b v → X.s_0.heap.objs.size ≤ b := fun {b v} h => by
    obtain ⟨x, i, e1, _⟩ := h
    exact I.ok.cab x b (hfn x) e1
  have un := I.base
  rw [hex] at un
  have sm := trkC_same I
  refine ⟨⟨un.keep, un.slot, fun b o e n hx => ?_, un.there, fun b xs e => sm _ _ (un.tups b xs e), fun b o u e => sm _ _ (un.frzs b o u e), fun b ps e => ?_⟩, fun b u e => ?_⟩
  · rcases trkC_cases I nd b with ⟨v, h, _⟩ | ⟨_, e2⟩
    · exact absurd (Heap.lt_size e) (Nat.not_lt.mpr (new h))
    · rw [e2]
      exact un.free b o e n hx
  · obtain ⟨more, e1⟩ := un.tbls b ps e
    exact ⟨more, sm _ _ e1⟩
  · rcases trkC_cases I nd b with ⟨v, h, e2⟩ | ⟨_, e2⟩
    · rw [e2] at e
      cases e
      obtain ⟨u, r, z⟩ := capt_cell I h
      exact cellO_ok r z
    · rw [e2] at e
      exact (I.hok b u e).stay (fun _ _ _ q => q) (fun c q => sm _ _ q) fun c xs q => sm _ _ q
end
/-- what is wanted at the end of a def whose cells stay known -/
def RetC (N : List Str) (sc : Scope) (L : Addr) (Q : VK) : V → L2.St → Hp → Prop := fun v σ H' => ∀ H'', Same H' H'' →
  (∀ (x : Str) (c : Addr) (i : Nat) (u : V), (cellsFrom (L + 1) sc.names []).lookup x = some c → N[i]? = some x → σ[i]? = some (some u) → sc.names.lookup x = some .cell → H' c = none ∧ H'' c = some (CellO c u)) →
  (∀ b o, H'' b = some o → H' b = some o ∨ ∃ u, o = CellO b u) → (∀ x y c, (cellsFrom (L + 1) sc.names []).lookup x = some c → (cellsFrom (L + 1) sc.names []).lookup y = some c → x = y) → Q v H''
section
variable {P : Program} {w : World} {K : PySem.W.Frag} {mg : Str → Option Value} {base : Heap}
theorem fn_c {C : CXT} {k : Nat} {f : Addr} {nm ql : Str} {ar : Arguments} {bd : List Stmt} {sc : Scope} {v1 v2 v3 v4 v5 v6 v7 : Value} {a1 a2 : Option Addr} {sl : Array (Option Value)} {N ps : List Str} {sp : Sp}
    (at_ : K.lookup f = some ⟨v7, a2, .func (PySem.W.fnOf nm ql ar bd sc v1 v2 v3 v4 a1 v5 v6), sl⟩) (code : PySem.W.codeIn K v5 ql = true) (S : FnScope N ps sc)
    (ln : ∀ vs H Q E, sp vs H Q E → vs.length = ps.length)
    (hb : ∀ (A : Around) (out : List Env) (s : Shared) (H : Hp) (vs : List V) (Q : VK) (E : XK), Room k (A.deeper (envOfC ql sc s.heap.objs.size f v5)) → sp vs H Q E →
      ∃ t, PRs (cxOf C P w K mg base N ql sc f v5 A out s H E) bd t ∧ t ⟨fun _ H' => Q .non H', RetC N sc s.heap.objs.size Q⟩ (L2.start N vs) H) :
    FnOk P w K mg base C (k + 1) f (PySem.W.fnOf nm ql ar bd sc v1 v2 v3 v4 a1 v5 v6) ps sp where
  len := ln
  run A out s H args us vs Q E hr e0 hbi rv hsp := by
    have kx : K.In s.heap := e0.mod.kin.keeps (fun b o z => (e0.bs b o z).1)
    have nl : s.heap.NoLimit := e0.mod.nolimit.keeps (fun b o z => (e0.bs b o z).1)
    have kd : ∀ y ∈ ps.zip us, sc.names.lookup y.1 = some .local ∨ (sc.names.lookup y.1 = some .cell ∧ ((cellsFrom (s.heap.objs.size + 1) sc.names []).lookup y.1).isSome = true) := by
      rintro ⟨n, v⟩ hy
      have z := S.par n (List.of_mem_zip hy).1
      exact z.elim .inl (fun z => .inr ⟨z, PySem.W.cellsFrom_some _ _ _ (.inl z)⟩)
    refine codeAny_call_function hr.depth (kx _ _ at_) rfl S.co S.gen rfl (PySem.W.codeRec_of kx code) (hbi _ _ _ _ (wpAny_newFunctionEnv_cells S.kind kd (fun env he s1 x => ?_)))
    subst he
    obtain ⟨t, ht, hq⟩ := hb A out s H vs Q E (hr.deeper _) hsp
    have I := inv_start (CX := C) (E := E) S hr.hd e0 (ln _ _ _ _ hsp) rv x
    refine ⟨nl.keeps x.toInCall.keep, codeAny_func (wpAny_mono (ht.run [] s1 (L2.start N vs) H _ I hq) (fun fl s' hs => ?_) (fun _ _ z => z))⟩
    cases fl with
    | ret u =>
      obtain ⟨v, σ', H', J, r', q⟩ := hs
      obtain ⟨un, hok⟩ := end_track J S.nd (fun _ => rfl) rfl
      refine ⟨v, _, J.os, J.bare, un, hok, r', q _ (trkC_same J) (fun x c i u e1 e2 e3 e4 => ?_) (fun b o e => ?_) J.ok.inj⟩
      · have h : Capt (cxOf C P w K mg base N ql sc f v5 A out s H E) σ' c u := ⟨x, i, e1, e2, e3, e4⟩
        exact ⟨capt_none J h, trkC_at J S.nd h⟩
      · rcases trkC_cases J S.nd b with ⟨v, h, e2⟩ | ⟨_, e2⟩
        · rw [e2] at e
          exact .inr ⟨v, (Option.some.inj e).symm⟩
        · rw [e2] at e
          exact .inl e
    | next => obtain ⟨σ', H', J, q⟩ := hs; exact ⟨.non, H', J.os, J.bare, J.base, J.hok, rfl, q⟩
    | brk => exact hs.elim
    | cont => exact hs.elim
end
/-! ### a made lambda is called -/
def hid (H : Hp) (cs : List Addr) : Hp := fun b => if b ∈ cs then none else H b
/-- the cells of cs as in H, all else as in H1 -/
def reT (H H1 : Hp) (cs : List Addr) : Hp := fun b => if b ∈ cs then H b else H1 b
theorem hid_in {H : Hp} {cs : List Addr} {b : Addr} (h : b ∈ cs) : hid H cs b = none := if_pos h
theorem hid_out {H : Hp} {cs : List Addr} {b : Addr} (h : b ∉ cs) : hid H cs b = H b := if_neg h
theorem hid_some {H : Hp} {cs : List Addr} {b : Addr} {o : HO} (h : hid H cs b = some o) : b ∉ cs ∧ H b = some o := by
  by_cases e : b ∈ cs
  · rw [hid_in e] at h
    cases h
  · rw [hid_out e] at h
    exact ⟨e, h⟩
theorem reT_in {H H1 : Hp} {cs : List Addr} {b : Addr} (h : b ∈ cs) : reT H H1 cs b = H b := if_pos h
theorem reT_out {H H1 : Hp} {cs : List Addr} {b : Addr} (h : b ∉ cs) : reT H H1 cs b = H1 b := if_neg h
/-- the captured names fr of F hold ws, in cells that are known -/
structure CapsAt (H : Hp) (F : LF) (fr : List Str) (ws : List V) : Prop where
  len : ws.length = fr.length
  all : ∀ y c, F.cl.lookup y = some c → ∃ w, H c = some (CellO c w)
  inj : ∀ x y c, F.cl.lookup x = some c → F.cl.lookup y = some c → x = y
  has : ∀ (i : Nat) (y : Str), fr[i]? = some y → ∃ c, F.cl.lookup y = some c ∧ ∀ v, ws[i]? = some v → H c = some (CellO c v)
def LF.cells (F : LF) : List Addr := F.cl.filterMap fun p => if F.cl.lookup p.1 = some p.2 then some p.2 else none
theorem LF.mem_cells {F : LF} {y : Str} {c : Addr} (h : F.cl.lookup y = some c) : c ∈ F.cells := by
  refine List.mem_filterMap.mpr ⟨(y, c), PySem.mem_of_lookup h, ?_⟩
  rw [if_pos h]
theorem LF.of_cells {F : LF} {c : Addr} (h : c ∈ F.cells) : ∃ y, F.cl.lookup y = some c := by
  obtain ⟨⟨y, d⟩, _, e⟩ := List.mem_filterMap.mp h
  split at e
  · rename_i z
    cases e
    exact ⟨y, z⟩
  · cases e
abbrev LF.nf (F : LF) : NF := ⟨"<lambda>", F.qual, F.params, [], F.scope, F.cl, F.c⟩
section
variable {P : Program} {w : World} {K : PySem.W.Frag} {mg : Str → Option Value} {base : Heap} {N ps fr : List Str} {F : LF} {f : Addr} {k : Nat}
theorem CapsAt.cell {H : Hp} {ws : List V} (C : CapsAt H F fr ws) {c : Addr} (h : c ∈ F.cells) : ∃ w, H c = some (CellO c w) := by
  obtain ⟨y, e⟩ := F.of_cells h
  exact C.all y c e
theorem lam_run (S : NScope N ps fr F.scope) (hbi : ∀ (pm ctv : Value) (us : List Value), us.length = ps.length → bindArgs (PySem.W.kla_fn "<lambda>" F.qual F.params F.body F.scope F.cl pm (.ref F.c) ctv) ⟨us, []⟩ = pure (ps.zip us))
    {A : Around} {outer : List Env} {s : Shared} {H : Hp} {us : List Value} {vs ws : List V} {Q : VK} (hr : Room (k + 1) A) (e0 : Env0 P w K mg base A outer s H) (hf : H f = some (LamO f F)) (hc : H F.c = some (CodeO F.c F.qual)) (C : CapsAt H F fr ws) (r : Vals vs us) (hl : vs.length = ps.length)
    (hbody : Room k (A.deeper (envF F.nf f s.heap.objs.size)) → ∃ t, PE (ncx CX0 P w K mg base N F.nf f A outer s (hid H F.cells) E0) F.body t ∧ t (startF N vs (ws.map some)) (hid H F.cells) fun v H1 => Q v (reT H H1 F.cells)) :
    codeAny (model P w) A (.call (.ref f) ⟨us, []⟩) (CR CX0 outer P w H s Q E0) s := by
  have lim : s.heap.NoLimit := e0.mod.nolimit.keeps fun b o e => (e0.bs b o e).1
  obtain ⟨pm, ctv, ho⟩ := lamO_at e0.hok hf
  have nown : ∀ {b x : Addr}, H b = some (.own x) → b ∉ F.cells := fun {b x} e z => by
    obtain ⟨w, h⟩ := C.cell z
    rw [e] at h
    exact cellO_own (Option.some.inj h).symm
  have ntup : ∀ {b : Addr} {xs : List V}, H b = some (.tup xs) → b ∉ F.cells := fun {b x} e z => by
    obtain ⟨w, h⟩ := C.cell z
    rw [e] at h
    exact cellO_tup (Option.some.inj h).symm
  have e1 : Env0 P w K mg base A outer s (hid H F.cells) := by
    refine ⟨e0.frames, e0.mod, fun b o e => ⟨(e0.bs b o e).1, ?_⟩, e0.bsz, e0.funs, fun b hb => ?_, fun b u e => ?_, e0.bare⟩
    · by_cases z : b ∈ F.cells
      · exact hid_in z
      · rw [hid_out z]
        exact (e0.bs b o e).2
    · by_cases z : b ∈ F.cells
      · exact hid_in z
      · rw [hid_out z]
        exact e0.frf b hb
    · obtain ⟨n, e⟩ := hid_some e
      exact (e0.hok b u e).stay (fun _ _ _ q => q) (fun c q => by rw [hid_out (nown q)]; exact q) fun c xs q => by rw [hid_out (ntup q)]; exact q
  have isC : ∀ {c : Addr} {v : V}, H c = some (CellO c v) → ∃ u, L2.RelV v u ∧ s.heap.IsCell c (some u) := fun {c v} h => (e0.hok c _ h).1
  have CA : CellsAt F.nf.cl fr (ws.map some) s.heap (hid H F.cells) := by
    refine ⟨by rw [List.length_map]; exact C.len, fun y c e => ⟨hid_in (F.mem_cells e), ?_⟩, C.inj, fun i y e => ?_⟩
    · obtain ⟨w, h⟩ := C.all y c e
      obtain ⟨u, _, z⟩ := isC h
      exact ⟨_, z⟩
    · obtain ⟨c, hc, hv⟩ := C.has i y e
      refine ⟨c, hc, fun v ev => ?_⟩
      rw [List.getElem?_map] at ev
      cases ew : ws[i]? with
      | none => rw [ew] at ev; cases ev
      | some v' =>
        rw [ew] at ev
        cases ev
        exact isC (hv _ ew)
  refine PySem.W.kla_callFunE hr.depth ho rfl S.co S.gen rfl (codeO_at e0.hok hc) ?_
  rw [hbi pm ctv us (by rw [← r.length]; exact hl)]
  refine wpAny_pure (wpAny_newFunctionEnv S.nocell (fun ⟨n, _⟩ hy => S.par n (List.of_mem_zip hy).1) (fun h₁ hns hsb => ⟨lim.fresh _ hsb, ?_⟩) S.kind)
  show codeAny _ _ (.expr F.body (envF F.nf f s.heap.objs.size)) _ _
  have kp : ∀ b o, s.heap.get? b = some o → h₁.get? b = some o := fun b o e => hsb.extBut b o (Nat.ne_of_lt (Heap.lt_size e)) (Heap.get?_push_of_some _ e)
  obtain ⟨t, ht, hq⟩ := hbody (hr.deeper _)
  have I : Inv (ncx CX0 P w K mg base N F.nf f A outer s (hid H F.cells) E0) [] (startF N vs (ws.map some)) (hid H F.cells) { s with heap := h₁, toks := s.toks + (ps.zip us).length } := inv_startN S hr.hd e1 hl r CA hns kp
  refine PySem.W.kla_codeExpr (wpAny_mono (ht.run [] _ _ _ _ I hq) (fun u s' hs => ?_) fun e s' hs => hs)
  obtain ⟨v, H1, J, rv, q⟩ := hs
  have un : Un (frs outer) [] (hid H F.cells) H1 s.heap s'.heap := J.base
  have cn : ∀ {c : Addr}, c ∈ F.cells → H1 c = none ∧ ∀ o, s.heap.get? c = some o → s'.heap.get? c = some o := fun {c} z => by
    obtain ⟨w, h⟩ := C.cell z
    obtain ⟨u, _, o, ho, hd⟩ := isC h
    have nf : c ∉ frs outer := fun z => by
      rw [e0.frf c z] at h
      cases h
    exact ⟨un.free c o ho (hid_in z) (by simp), fun o e => un.keep c o e (hid_in z) nf (by simp)⟩
  refine ⟨v, reT H H1 F.cells, J.os, J.bare, ⟨fun b o e n hb hx => ?_, fun b o e n hb hx => ?_, fun b o e n hx => ?_, un.there, fun b xs e => ?_, fun b o u e => ?_, fun b qs e => ?_⟩, fun b u e => ?_, rv, q⟩
  · have nb : b ∉ F.cells := fun z => by obtain ⟨w, h⟩ := C.cell z; rw [n] at h; cases h
    exact un.keep b o e (by rw [hid_out nb]; exact n) hb hx
  · have nb : b ∉ F.cells := fun z => by obtain ⟨w, h⟩ := C.cell z; rw [n] at h; cases h
    exact un.slot b o e (by rw [hid_out nb]; exact n) hb hx
  · have nb : b ∉ F.cells := fun z => by obtain ⟨w, h⟩ := C.cell z; rw [n] at h; cases h
    rw [reT_out nb]
    exact un.free b o e (by rw [hid_out nb]; exact n) hx
  · rw [reT_out (ntup e)]
    exact un.tups b xs (by rw [hid_out (ntup e)]; exact e)
  · have nb : b ∉ F.cells := fun z => by obtain ⟨w, h⟩ := C.cell z; rw [e] at h; exact cellO_frz (Option.some.inj h).symm
    rw [reT_out nb]
    exact un.frzs b o u (by rw [hid_out nb]; exact e)
  · have nb : b ∉ F.cells := fun z => by obtain ⟨w, h⟩ := C.cell z; rw [e] at h; exact cellO_tbl _ (Option.some.inj h).symm
    rw [reT_out nb]
    exact un.tbls b qs (by rw [hid_out nb]; exact e)
  · by_cases z : b ∈ F.cells
    · rw [reT_in z] at e
      obtain ⟨w, h⟩ := C.cell z
      rw [h] at e
      cases e
      obtain ⟨u, r, o, ho, hd⟩ := isC h
      exact cellO_ok r ⟨o, (cn z).2 o ho, hd⟩
    · rw [reT_out z] at e
      have out : ∀ {c : Addr} {o : HO}, H1 c = some o → reT H H1 F.cells c = some o := fun {c o} q => by
        rw [reT_out (fun z => by rw [(cn z).1] at q; cases q)]
        exact q
      exact (J.hok b u e).stay (fun _ _ _ q => q) (fun c q => out q) fun c xs q => out q
end
end Any
set_option maxHeartbeats 1000000
namespace Any
open L2 PySem PyProof.Rows LamX NdefX
open PySem.Spec
/-! ### a call of a name that holds a made lambda -/
/-- what made lambdas promise: sp f speaks of the one at f -/
def FnL (P : Program) (w : World) (K : PySem.W.Frag) (mg : Str → Option Value) (base : Heap) (k : Nat) (sp : Addr → Sp) : Prop :=
  ∀ (f : Addr) (A : Around) (outer : List Env) (s : Shared) (H : Hp) (us : List Value) (vs : List V) (Q : VK), Room k A → Env0 P w K mg base A outer s H → Vals vs us → sp f vs H Q E0 → codeAny (model P w) A (.call (.ref f) ⟨us, []⟩) (CR CX0 outer P w H s Q E0) s
theorem FnL.mono {P : Program} {w : World} {K : PySem.W.Frag} {mg : Str → Option Value} {base : Heap} {j k : Nat} {sp : Addr → Sp} (F : FnL P w K mg base j sp) (h : j ≤ k) : FnL P w K mg base k sp := fun f A outer s H us vs Q hr => F f A outer s H us vs Q (hr.mono h)
def IsLm (H : Hp) (f : Addr) : Prop := ∃ F, H f = some (LamO f F)
def tCallL (i : Nat) (sp : Addr → Sp) (t : TA) : TE := fun σ H Q => ∃ f, σ[i]? = some (some (.ref f)) ∧ IsLm H f ∧ t σ H fun vs H1 => IsLm H1 f ∧ sp f vs H1 Q E0
section
variable {X : Cx} {sp : Addr → Sp} {i k : Nat} {x : Str} {t : TA} {e : Expr} {es : List Expr} {p pos apos cpos : Pos} {te : TE}
theorem lmAt {pins : List (Addr × Obj)} {σ : L2.St} {H : Hp} {s : Shared} {f : Addr} (I : Inv X pins σ H s) (h : IsLm H f) : PySem.W.FnAt f s.heap := by
  obtain ⟨F, e⟩ := h
  obtain ⟨pm, ctv, ho⟩ := lamO_at I.hok e
  exact ⟨_, _, _, _, ho⟩
theorem pe_callL (Fn : FnL X.prog X.w X.K X.mg X.base k sp) (hr : Room k X.A) (hN : X.N[i]? = some x) (hv : Vis X.env.scope x) (ha : PA X (e :: es) t)
    (hd : (x == ("__debug__" : Str)) = false := by decide) (hcd : (x == ("__classdict__" : Str)) = false := by decide)
    (he : starEach (e :: es) X.env = (false, eval e X.env) :: starEach es X.env := by rfl) (hpl : (backTo pos (starEach es X.env)).any (·.1) = false := by rfl) :
    PE X (.Call (.Name x p) (e :: es) [] pos) (tCallL i sp t) := by
  refine ⟨fun pins s σ H Q I h => ?_⟩
  obtain ⟨f, hs, hf, ht⟩ := h
  refine wpAny_Call_Name_kw (thn ((pe_var (pos := p) hN hv hd hcd).run pins s σ H (fun v H1 => v = .ref f ∧ H1 = H) I ⟨.ref f, hs, rfl, rfl⟩) fun u s1 ⟨v, H1, I1, r1, q1⟩ => ?_)
  obtain ⟨ev, eH⟩ := q1
  subst ev
  rw [eH] at I1
  obtain rfl : u = Value.ref f := r1
  refine PySem.W.callWith_F (first := []) (lmAt I1 hf) (thn (ha.run pos pins s1 σ H _ I1 ht) fun us s2 ⟨vs, H2, I2, r, h1, q⟩ => ⟨lmAt I2 h1, ?_⟩) he hpl
  show wpAny _ _ (call (.ref f) us) _ _ _
  refine wpAny_call (codeAny_mono (Fn f X.A X.stack s2 H2 us vs Q hr I2.env0 r q) fun r s' hq => ?_)
  cases r with
  | error e => exact pass0 pins σ H2 s2 e s' I2 hq
  | ok fl =>
    cases fl with
    | ret u => exact I2.after hq
    | next => exact False.elim hq
    | brk => exact False.elim hq
    | cont => exact False.elim hq
/-! ### list(d.values()) -/
def tListVals (te : TE) : TE := fun σ H Q => te σ H fun x H1 => ∃ (d : Addr) (kvs : List (Key × V)), x = .ref d ∧ H1 d = some (.dK kvs) ∧ ∀ p, H1 p = none → Q (.ref p) (upd H1 p (.lst (kvs.map (·.2))))
theorem vals_get {κ : Type} : ∀ {kvs : List (κ × V)} {vs : List (κ × Value)}, KV kvs vs → Vals (kvs.map (·.2)) (vs.map (·.2))
  | _, _, .nil => .nil
  | _, _, .cons r t => .cons r.2 (vals_get t)
theorem pe_listVals (hc : X.calm = true) (he : PE X e te) (hg : Gl X "list") (hm : X.mg "list" = none) (hv : bootBuiltins "list" = some (.type "list")) (hbase : attributeBase e "values" X.env (eval e X.env) = eval e X.env := by rfl) (hline : (apos.endLine == cpos.line) = true := by rfl)
    (hs : starEach [.Call (.Attribute e "values" apos) [] [] cpos] X.env = (false, eval (.Call (.Attribute e "values" apos) [] [] cpos) X.env) :: starEach [] X.env := by rfl) :
    PE X (.Call (.Name "list" p) [.Call (.Attribute e "values" apos) [] [] cpos] [] pos) (tListVals te) := by
  refine ⟨fun pins s σ H Q I hq => ?_⟩
  refine wpAny_Call_Name_kw (ld_blt I hg hm hv ?_)
  refine PyProof.Rows.callWith_type1 ?_ hs rfl
  rw [hs]
  show wpAny _ _ (spliced ((false, eval (.Call (.Attribute e "values" apos) [] [] cpos) X.env) :: backTo pos (starEach [] X.env))) _ _ s
  refine Calls.spliced_cons ?_
  refine wpAny_Call_method (T := "dict") (id := "dict.values") hbase rfl hline F.plainAttrs_dict F.slot_dict_values F.type_dict_values (thn (he.run pins s σ H _ I hq) fun u s1 ⟨x, H1, I1, rx, d, kvs, ex, hd, q⟩ => ?_)
  subst ex
  obtain rfl : u = Value.ref d := rx
  obtain ⟨hz, hs0, vs, kv, hdo⟩ := I1.hok d _ hd
  obtain ⟨ep, hat⟩ := hdo.dictAt
  have lk : kvs.length = vs.length := Paired.length kv
  have I2 : Inv X pins σ H1 { s1 with heap := s1.heap.push { cls := .type "dict_values", data := .fields #[.ref d] } } := I1.kept (t' := s1.toks) fun b ob q => Heap.get?_push_of_some _ q
  refine ⟨hdo.typeIs, hdo.mapOf.noDict, ?_⟩
  show wpAny _ _ (callWith cpos (.builtin "dict.values") [.ref d] [] []) _ X.xe s1
  refine method_meetsIn F.slot_dict_values F.entry_dict_values rfl (PySem.evalArgs_none ⟨rfl, hdo.typeIs, F.args_dict_values_1 _, _, meets_dict_values (mixKind X.prog X.w) d hs0, ⟨vs, hdo⟩, ?_⟩)
  refine Calls.spliced_nil ?_
  refine PySem.W.kdl_call (PySem.W.kdl_values (knd := mixKind X.prog X.w) (kvs := vs) (ep := ep)) (I1.ok.hd hc) ⟨⟨_, Heap.get?_push_size _ rfl, rfl, rfl⟩, hat.push _⟩ (by omega) fun h' tk acc c hk hS hacc => ?_
  have ev : acc.toList = vs.map (·.2) := PySem.W.kdl_vals_eq acc.toList (by rw [Array.length_toList]; exact hacc.1) fun j v e => hacc.2 j v (by rw [← Array.getElem?_toList]; exact e)
  have hvv := vals_get kv
  rw [← ev] at hvv
  refine ⟨.ref _, upd H1 _ (.lst (kvs.map (·.2))), I2.laid (t' := tk) hk (Nat.le_refl _)
    (show ObjOk X.prog X.w _ _ _ (.lst (kvs.map (·.2))) from ⟨by rw [List.length_map]; exact hz, acc.toList, c, hvv, by rw [Array.toArray_toList]; exact hS⟩), rfl, q _ (I2.hok.fresh (Nat.le_refl _))⟩
end
end Any
set_option maxHeartbeats 1000000
namespace Any
open L2 PySem PyProof.Rows LamX NdefX
open PySem.Spec
/-! ### the law's call with tables of code objects, under no guard -/
section
variable {P : Program} {w : World} {K : PySem.W.Frag} {mg mb : Str → Option Value}
/-- a heap that knows the script, if the written part has it not, and the tables -/
theorem pick_T {a : Addr} {ts : List Addr} {s : Shared} {vs : List Value} {ns : List Int} (kx : K.In s.heap) (la : s.heap.get? a = some { cls := .type "list", data := .seq vs.toArray }) (li : IntsAre vs ns) (ll : ns.length ≤ sizeLine)
    (tab : ∀ t ∈ ts, s.heap.get? t = some { cls := .none, data := .fields #[] }) :
    ∃ H : Hp, (∀ t ∈ ts, H t = some (.tbl #[])) ∧ SqL K H a (ns.map V.int) ∧ HOk P w H s.heap ∧ (∀ b u, H b = some u → b ∉ ts → b = a ∧ K.lookup a = none ∧ ∃ o xs, u = .frz o (.lst xs)) := by
  have nat_ : a ∉ ts := fun z => by
    have q := tab a z
    rw [la] at q
    have d := congrArg Obj.data (Option.some.inj q)
    have d : Data.seq vs.toArray _ = Data.fields #[] := d
    cases d
  cases hk : K.lookup a with
  | some o =>
    have z := (kx a o hk).symm.trans la
    cases z
    refine ⟨fun b => if b ∈ ts then some (.tbl #[]) else none, fun t ht => if_pos ht, .inr ⟨_, vs.toArray, _, hk, rfl, rfl, rfl, by rw [List.size_toArray, li.length]; exact ll, by simpa using vals_ints li⟩, fun b u e => ?_, fun b u e nb => ?_⟩
    · have e : (if b ∈ ts then some (HO.tbl #[]) else none) = some u := e
      split at e
      · rename_i hb
        cases e
        exact tab b hb
      · cases e
    · have e : (if b ∈ ts then some (HO.tbl #[]) else none) = some u := e
      rw [if_neg nb] at e
      cases e
  | none =>
    let o : HO := .frz { cls := .type "list", data := .seq vs.toArray } (.lst (ns.map V.int))
    refine ⟨fun b => if b ∈ ts then some (.tbl #[]) else if b = a then some o else none, fun t ht => if_pos ht, .inl (.inr ⟨_, (if_neg nat_).trans (if_pos rfl)⟩), fun b u e => ?_, fun b u e nb => ?_⟩
    · have e : (if b ∈ ts then some (HO.tbl #[]) else if b = a then some o else none) = some u := e
      split at e
      · rename_i hb
        cases e
        exact tab b hb
      · split at e
        · rename_i hb
          cases e
          rw [hb]
          exact ⟨la, by rw [List.length_map]; exact ll, vs, _, vals_ints li, la⟩
        · cases e
    · have e : (if b ∈ ts then some (HO.tbl #[]) else if b = a then some o else none) = some u := e
      rw [if_neg nb] at e
      split at e
      · rename_i hb
        cases e
        exact ⟨hb, rfl, _, _, rfl⟩
      · cases e
theorem law_gT {C : CXT} {k : Nat} {fa a : Addr} {cs : List (Addr × Addr)} {fd : FuncData} {x : Str} {sp : Sp} {s : Shared} {vs : List Value} {ns : List Int}
    (kx : K.In s.heap) (g1 : s.heap.Ns mainGlobals mg) (g2 : s.heap.Ns builtinsNs mb) (g3 : ∀ x : Str, x ≠ "__name__" → mb x = bootBuiltins x) (g4 : s.heap.NoLimit) (g5 : s.gens = #[])
    (tab : ∀ p ∈ cs, s.heap.get? p.2 = some { cls := .none, data := .fields #[] }) (out : ∀ p ∈ cs, K.lookup p.2 = none) (cod : ∀ p ∈ cs, PySem.W.CodeHd s.heap p.1 p.2)
    (bmn : ∃ (bm : Addr) (ob : Obj), mg "__builtins__" = some (.ref bm) ∧ bm ≠ builtinsNs ∧ s.heap.get? bm = some ob ∧ ob.cls = .type "module" ∧ ob.dict = some builtinsNs ∧ ob.data = .plain)
    (la : s.heap.get? a = some { cls := .type "list", data := .seq vs.toArray }) (li : IntsAre vs ns) (ll : ns.length ≤ sizeLine) (hr : Room k callerA)
    (F : ∀ base : Heap, K.In base → base.Ns mainGlobals mg → (∀ p ∈ cs, TabB base mg p.1 p.2) → FnG P w K mg base C k fa fd [x] sp) (bd : ∀ (s : Shared) (u : Value), BindsTo s fd ⟨[u], []⟩ [(x, u)])
    (want : ∀ H : Hp, (∀ p ∈ cs, H p.2 = some (.tbl #[])) → SqL K H a (ns.map V.int) → sp [.ref a] H (fun v _ => v = .bl true) fun _ _ _ => False)
    (noC : ∀ H e s', C [] H s (fun _ _ _ => False) e s' → False) :
    codeAny (model P w) callerA (.call (.ref fa) ⟨[.ref a], []⟩) (fun r s' => r = .ok (.ret (.bool true)) ∧ OldK s.heap s'.heap ∧ s'.os = s.os ∧ AllBare s'.gens) s := by
  have mem : ∀ p ∈ cs, p.2 ∈ cs.map (·.2) := fun p hp => List.mem_map_of_mem hp
  have isT : ∀ t ∈ cs.map (·.2), s.heap.get? t = some { cls := .none, data := .fields #[] } := fun t ht => by
    obtain ⟨p, hp, rfl⟩ := List.mem_map.mp ht
    exact tab p hp
  obtain ⟨H, hT, hS, hok, hA⟩ := pick_T (P := P) (w := w) kx la li ll isT
  -- what is neither a list nor an empty table is not known
  have free : ∀ {b : Addr} {ob : Obj}, s.heap.get? b = some ob → (∀ us n, ob.data ≠ .seq us n) → ob.data ≠ .fields #[] → H b = none := fun {b ob} z d1 d2 => by
    cases q : H b with
    | none => rfl
    | some u =>
      by_cases ht : b ∈ cs.map (·.2)
      · have z2 := z.symm.trans (isT b ht)
        cases z2
        exact absurd rfl d2
      · obtain ⟨rfl, _⟩ := hA b u q ht
        have z2 := z.symm.trans la
        cases z2
        exact absurd rfl (d1 _ _)
  have freeD : ∀ {b : Addr} {ob : Obj} {es : Array DictEntry} {n : Nat}, s.heap.get? b = some ob → ob.data = .dict es n → H b = none := fun z d => free z (fun us n e => by rw [d] at e; cases e) fun e => by rw [d] at e; cases e
  have ns' : ∀ {b : Addr} {m : Str → Option Value}, s.heap.Ns b m → (hidT s.heap H).Ns b m := by
    rintro b m ⟨o, es, n, z, d, r⟩
    exact ⟨o, es, n, hidT_get z (freeD z d), d, r⟩
  have kb : K.In (hidT s.heap H) := by
    intro b o z
    refine hidT_get (kx b o z) ?_
    cases q : H b with
    | none => rfl
    | some u =>
      by_cases ht : b ∈ cs.map (·.2)
      · obtain ⟨p, hp, rfl⟩ := List.mem_map.mp ht
        rw [out p hp] at z
        cases z
      · obtain ⟨rfl, z2, _⟩ := hA b u q ht
        rw [z2] at z
        cases z
  have TB : ∀ p ∈ cs, TabB (hidT s.heap H) mg p.1 p.2 := fun p hp => by
    have tp := tab p hp
    have apart : ∀ {b : Addr} {ob : Obj}, s.heap.get? b = some ob → ob.data ≠ .fields #[] → b ≠ p.2 := fun z d e => by
      rw [e, tp] at z
      cases z
      exact d rfl
    obtain ⟨og, esg, ng, zg, dg, _⟩ := id g1
    refine ⟨?_, ?_, apart zg (fun e => by rw [dg] at e; cases e)⟩
    · obtain ⟨o, us, file, tf, flags, tg, inF, text, tt, y1, y2, y3, y4, rest⟩ := cod p hp
      refine ⟨o, us, file, tf, flags, tg, inF, text, tt, hidT_get y1 (free y1 (fun us n e => by rw [y3] at e; cases e) fun e => ?_), y2, y3, y4, rest⟩
      rw [y3] at e
      cases e
      simp at y4
    · obtain ⟨bm, ob, m1, m2, m3, m4, m5, m6⟩ := bmn
      refine ⟨bm, ob, m1, m2, fun e => ?_, apart m3 (fun e => by rw [m6] at e; cases e), hidT_get m3 (free m3 (fun us n e => by rw [m6] at e; cases e) fun e => by rw [m6] at e; cases e), m4, m5, m6⟩
      rw [e] at m3
      have z2 := m3.symm.trans zg
      cases z2
      rw [m6] at dg
      cases dg
  obtain ⟨mc, l1, l2⟩ := g4
  have e0 : Env0 P w K mg (hidT s.heap H) callerA [] s H :=
    { frames := rfl, mod := ⟨kb, ns' g1, ⟨mb, ns' g2, g3⟩, ⟨mc, ns' l1, l2⟩⟩, bs := fun b o z => of_hidT z, bsz := Nat.le_of_eq (hidT_size _ _), funs := trivial, frf := fun b z => (by cases z), hok := hok, bare := .of_eq g5 }
  refine codeAny_mono ((F _ kb (ns' g1) TB).go callerA [] s H ⟨[.ref a], []⟩ [.ref a] [.ref a] _ _ rfl hr e0 (bd s (.ref a)) (.cons rfl .nil) (want H (fun p hp => hT _ (mem p hp)) hS)) ?_
  rintro (err | fl) s' h
  · exact (noC H err s' h).elim
  cases fl with
  | next => cases h
  | brk => cases h
  | cont => cases h
  | ret u =>
    obtain ⟨v, H', h1, h2, un, hok', rv, rfl⟩ := h
    cases rv
    have grown : ∀ t ∈ cs.map (·.2), ∃ more : Array Value, s'.heap.get? t = some { cls := .none, data := .fields more } := fun t ht => by
      obtain ⟨more, z⟩ := un.tbls t #[] (hT t ht)
      exact ⟨_, hok' t _ z⟩
    have stay : ∀ b o, b ∉ cs.map (·.2) → s.heap.get? b = some o → s'.heap.get? b = some o := fun b o nb z => by
      cases q : H b with
      | none => exact un.keep b o z q (fun z => by cases z) (fun z => by cases z)
      | some u =>
        obtain ⟨rfl, _, ob, xs, rfl⟩ := hA b u q nb
        have z2 := (hok b _ q).1
        rw [z] at z2
        cases z2
        exact (hok' b _ (un.frzs b _ _ q)).1
    refine ⟨rfl, ⟨fun b o z => ?_, fun b o z => ?_⟩, h1, h2⟩
    · by_cases ht : b ∈ cs.map (·.2)
      · obtain ⟨more, hm⟩ := grown b ht
        obtain ⟨p, hp, rfl⟩ := List.mem_map.mp ht
        have z2 := z.symm.trans (tab p hp)
        cases z2
        exact .inr (.inl ⟨((cod p hp).tab (tab p hp)).isCodeTable, rfl, #[], more, rfl, by rw [Array.empty_append]; exact hm⟩)
      · exact .inl (stay b o ht z)
    · by_cases ht : b ∈ cs.map (·.2)
      · obtain ⟨more, hm⟩ := grown b ht
        exact ⟨_, hm⟩
      · exact ⟨o, stay b o ht z⟩
/-- what is known at the law's end: its promise, with the tables cs -/
def LawT (l : PySem.W.OpenLaw) (w : World) (K : PySem.W.Frag) (k n : Nat) (x : Str) (mg : Str → Option Value) (fa : Addr) (h : Heap) : Prop :=
  ∃ (fd : FuncData) (cs : List (Addr × Addr)) (sp : Sp), (∀ p ∈ cs, h.get? p.2 = some { cls := .none, data := .fields #[] }) ∧ (∀ p ∈ cs, K.lookup p.2 = none) ∧ (∀ p ∈ cs, PySem.W.CodeHd h p.1 p.2) ∧ (∀ (s : Shared) (u : Value), BindsTo s fd ⟨[u], []⟩ [(x, u)]) ∧
    (∀ (H : Hp) (a : Addr) (ns : List Int), ns.length ≤ n → (∀ p ∈ cs, H p.2 = some (.tbl #[])) → SqL K H a (ns.map V.int) → sp [.ref a] H (fun v _ => v = .bl true) fun _ _ _ => False) ∧
    ∀ base : Heap, K.In base → base.Ns mainGlobals mg → (∀ p ∈ cs, TabB base mg p.1 p.2) → FnG l.prog w K mg base CX0 k fa fd [x] sp
theorem walk_gT {l : PySem.W.OpenLaw} {n k : Nat} {q : Program} {loose : List Str} {XP : (Str → Option Value) → Heap → Prop} {YP : World → Heap → Prop} {d : DefRec} {K : Params → PySem.W.Frag} {x : Str}
    (h1 : l.most = some n) (h2 : n ≤ sizeLine) (h3 : d.params.defaults = []) (hr : Room k callerA) (hY : ∀ (w : World) (h : Heap), YP w h → (K w.params).In h)
    (F : ∀ (w : World) (mg : Str → Option Value) (fa : Addr) (h : Heap), YP w h → (K w.params).In h → h.Ns mainGlobals mg → mg d.name = some (.ref fa) → LawT l w (K w.params) k n x mg fa h) :
    PySem.W.WalkO q loose XP YP l.row.toRowW d [] (fun f vs => PySem.call f vs) := by
  refine Att.attach_call h1 h3 fun w s₀ s₁ mg mb fa o pm cd doc a vs ns G Y _ _ _ hmg hobj hints hlen hg => ?_
  have kx := hY w _ Y
  obtain ⟨fd, cs, sp, c1, c2, c3, hb, want, hF⟩ := F w mg fa _ Y kx G.T.g hmg
  exact law_gT kx G.T.g G.T.b G.T.builtins G.T.nolimit hg c1 c2 c3 G.T.bmain hobj hints (Nat.le_trans hlen h2) hr hF hb (fun H t hS => want H a ns hlen t hS) (fun _ _ _ z => z)
end
end Any
namespace Any
open L2 PySem

/-! ### expressions as trees -/
inductive Dd | plus | less | times | over | rest
  deriving DecidableEq
def Dd.word : Dd → Str
  | .plus => "plus" | .less => "less" | .times => "times" | .over => "over" | .rest => "rest"
def Dd.fn : Dd → Int → Int → Int
  | .plus, i, j => i + j
  | .less, i, j => if i < j then 0 else i - j
  | .times, i, j => i * j
  | .over, i, j => if j = 0 then 0 else i / j
  | .rest, i, j => if j = 0 then 0 else i % j
inductive Ex
  | num (n : Int) | box (x : Str) | asked | told | op (d : Dd) (l r : Ex)
def Ex.deep : Ex → Nat
  | .op _ l r => max l.deep r.deep + 1
  | _ => 1
def Ex.size : Ex → Nat
  | .op _ l r => l.size + r.size
  | _ => 1
/-- the number of a box -/
def look (kvs : List (Str × Int)) (x : Str) : Option Int := (kvs.find? fun kv => decide (kv.1 = x)).map (·.2)
def Ex.val (kvs : List (Str × Int)) (a t : Int) : Ex → Int
  | .num n => n
  | .box x => (look kvs x).getD 0
  | .asked => a
  | .told => t
  | .op d l r => d.fn (l.val kvs a t) (r.val kvs a t)
/-- of these boxes, with small numbers -/
def Ex.good (xs : List Str) : Ex → Prop
  | .num n => 0 ≤ n ∧ n < 1024
  | .box x => x ∈ xs
  | .op _ l r => l.good xs ∧ r.good xs
  | _ => True
/-- boxes with small numbers, for each of these names -/
structure Bx (kvs : List (Str × Int)) (xs : List Str) : Prop where
  all : ∀ x ∈ xs, ∃ n, look kvs x = some n ∧ 0 ≤ n ∧ n < 1024
def bx (kvs : List (Str × Int)) : List (Key × V) := kvs.map fun p => (Sum.inr p.1, V.int p.2)
theorem bx_val (x : Str) : ∀ kvs : List (Str × Int), valV (bx kvs) (Sum.inr x) = (look kvs x).map V.int
  | [] => rfl
  | p :: r => by
    have ih := bx_val x r
    unfold valV look bx at ih ⊢
    rw [List.map_cons, List.find?_cons, List.find?_cons]
    by_cases e : p.1 = x
    · have e1 : decide ((Sum.inr p.1 : Key) = Sum.inr x) = true := decide_eq_true (by rw [e])
      rw [decide_eq_true e]
      dsimp only
      rw [e1]
      rfl
    · have e1 : decide ((Sum.inr p.1 : Key) = Sum.inr x) = false := decide_eq_false (fun z => e (Sum.inr.inj z))
      rw [decide_eq_false e]
      dsimp only
      rw [e1]
      exact ih
theorem Dd.fn_nn (d : Dd) {i j : Int} (hi : 0 ≤ i) (hj : 0 ≤ j) : 0 ≤ d.fn i j := by
  cases d with
  | plus => show 0 ≤ i + j; omega
  | less => show 0 ≤ (if i < j then 0 else i - j); split <;> omega
  | times => exact Int.mul_nonneg hi hj
  | over => show 0 ≤ (if j = 0 then 0 else i / j); split; omega; exact Int.ediv_nonneg hi hj
  | rest => show 0 ≤ (if j = 0 then 0 else i % j); split; omega; exact Int.emod_nonneg i (by assumption)
theorem Dd.fn_lt (d : Dd) {i j : Int} {m n : Nat} (hi : 0 ≤ i) (hj : 0 ≤ j) (him : i < 2 ^ m) (hjn : j < 2 ^ n) (hm : 0 < m) (hn : 0 < n) : d.fn i j < 2 ^ (m + n) := by
  have e : (2 : Int) ^ (m + n) = 2 ^ m * 2 ^ n := Int.pow_add ..
  have m2 : (2 : Int) ≤ 2 ^ m := by
    obtain ⟨k, rfl⟩ : ∃ k, m = k + 1 := ⟨m - 1, by omega⟩
    rw [Int.pow_succ]
    have : (0 : Int) < 2 ^ k := Int.pow_pos (by decide)
    omega
  have n2 : (2 : Int) ≤ 2 ^ n := by
    obtain ⟨k, rfl⟩ : ∃ k, n = k + 1 := ⟨n - 1, by omega⟩
    rw [Int.pow_succ]
    have : (0 : Int) < 2 ^ k := Int.pow_pos (by decide)
    omega
  rw [e]
  generalize (2 : Int) ^ m = M at *
  generalize (2 : Int) ^ n = N at *
  have big : M ≤ M * N := by
    have := Int.mul_le_mul_of_nonneg_left (show (1 : Int) ≤ N by omega) (show (0 : Int) ≤ M by omega)
    omega
  have big2 : N ≤ M * N := by
    have := Int.mul_le_mul_of_nonneg_right (show (1 : Int) ≤ M by omega) (show (0 : Int) ≤ N by omega)
    omega
  cases d with
  | plus =>
    show i + j < M * N
    have : 0 ≤ (M - 1) * (N - 1) := Int.mul_nonneg (by omega) (by omega)
    have e2 : (M - 1) * (N - 1) = M * N - M - N + 1 := by rw [Int.sub_mul, Int.mul_sub]; omega
    omega
  | less => show (if i < j then 0 else i - j) < M * N; split <;> omega
  | times => exact Int.lt_of_le_of_lt (Int.mul_le_mul_of_nonneg_left (by omega) hi) (Int.mul_lt_mul_of_pos_right him (by omega))
  | over =>
    show (if j = 0 then 0 else i / j) < M * N
    split
    · omega
    · have := Int.ediv_le_self j hi
      omega
  | rest =>
    show (if j = 0 then 0 else i % j) < M * N
    split
    · omega
    · have := Int.emod_lt_of_pos i (show 0 < j by omega)
      omega
theorem Ex.size_pos : ∀ e : Ex, 0 < e.size
  | .num _ => by show 0 < 1; decide
  | .box _ => by show 0 < 1; decide
  | .asked => by decide
  | .told => by decide
  | .op _ l r => by have := l.size_pos; show 0 < l.size + r.size; omega
theorem Ex.size_le : ∀ e : Ex, e.size ≤ 2 ^ e.deep
  | .num _ => by show 1 ≤ 2 ^ 1; decide
  | .box _ => by show 1 ≤ 2 ^ 1; decide
  | .asked => by show 1 ≤ 2 ^ 1; decide
  | .told => by show 1 ≤ 2 ^ 1; decide
  | .op _ l r => by
    have h1 := l.size_le
    have h2 := r.size_le
    show l.size + r.size ≤ 2 ^ (max l.deep r.deep + 1)
    have h3 : 2 ^ l.deep ≤ 2 ^ max l.deep r.deep := Nat.pow_le_pow_right (by decide) (Nat.le_max_left ..)
    have h4 : 2 ^ r.deep ≤ 2 ^ max l.deep r.deep := Nat.pow_le_pow_right (by decide) (Nat.le_max_right ..)
    rw [Nat.pow_succ]
    omega
theorem Ex.val_ok {kvs : List (Str × Int)} {xs : List Str} {a t : Int} (B : Bx kvs xs) (ha : 0 ≤ a ∧ a < 1024) (ht : 0 ≤ t ∧ t < 1024) : ∀ e : Ex, e.good xs → 0 ≤ e.val kvs a t ∧ e.val kvs a t < 2 ^ (10 * e.size)
  | .num n, h => h
  | .box x, h => by
    obtain ⟨n, e1, h1, h2⟩ := B.all x h
    show 0 ≤ (look kvs x).getD 0 ∧ (look kvs x).getD 0 < 2 ^ 10
    rw [e1]
    exact ⟨h1, h2⟩
  | .asked, _ => ha
  | .told, _ => ht
  | .op d l r, h => by
    obtain ⟨l1, l2⟩ := Ex.val_ok B ha ht l h.1
    obtain ⟨r1, r2⟩ := Ex.val_ok B ha ht r h.2
    refine ⟨d.fn_nn l1 r1, ?_⟩
    have q := d.fn_lt l1 r1 l2 r2 (by have := l.size_pos; omega) (by have := r.size_pos; omega)
    show d.fn _ _ < 2 ^ (10 * (l.size + r.size))
    rw [Nat.mul_add]
    exact q
/-- a number that all deeds take -/
def Nb (i : Int) : Prop := 0 ≤ i ∧ i < 2 ^ 640
theorem nb_of {i : Int} {n : Nat} (h0 : 0 ≤ i) (h : i < 2 ^ (10 * n)) (hn : n ≤ 64) : Nb i := by
  refine ⟨h0, Int.lt_of_lt_of_le h ?_⟩
  have : (2 : Nat) ^ (10 * n) ≤ 2 ^ 640 := Nat.pow_le_pow_right (by decide) (by omega)
  exact_mod_cast this
theorem Ex.nb {kvs : List (Str × Int)} {xs : List Str} {a t : Int} (B : Bx kvs xs) (ha : 0 ≤ a ∧ a < 1024) (ht : 0 ≤ t ∧ t < 1024) {e : Ex} (h : e.good xs) (hd : e.deep ≤ 6) : Nb (e.val kvs a t) := by
  obtain ⟨h0, h1⟩ := e.val_ok B ha ht h
  refine nb_of h0 h1 (Nat.le_trans e.size_le ?_)
  exact Nat.pow_le_pow_right (by decide) hd
theorem Nb.abs {i : Int} (h : Nb i) : i.natAbs < 2 ^ 640 := by
  have h1 := h.1
  have h2 := h.2
  have e : ((2 : Nat) ^ 640 : Nat) = ((2 : Int) ^ 640).toNat := by decide +kernel
  rw [e]
  generalize (2 : Int) ^ 640 = M at *
  omega
theorem Nb.log {i : Int} (h : Nb i) : i.natAbs.log2 < 1920 := by
  by_cases z : i.natAbs = 0
  · rw [z]; decide
  · have := (Nat.log2_lt z).mpr h.abs
    omega

/-! ### trees in the heap -/
inductive ExAt (H : Hp) : V → Ex → Prop
  | num {a : Addr} {n : Int} : H a = some (.tup [.str "number", .int n]) → ExAt H (.ref a) (.num n)
  | box {a : Addr} {x : Str} : H a = some (.tup [.str "box", .str x]) → ExAt H (.ref a) (.box x)
  | asked {a : Addr} : H a = some (.tup [.str "asked"]) → ExAt H (.ref a) .asked
  | told {a : Addr} : H a = some (.tup [.str "told"]) → ExAt H (.ref a) .told
  | op {a : Addr} {d : Dd} {v u : V} {l r : Ex} : H a = some (.tup [.str d.word, v, u]) → ExAt H v l → ExAt H u r → ExAt H (.ref a) (.op d l r)
/-- the tuples stay -/
def Tups (H H' : Hp) : Prop := ∀ a xs, H a = some (.tup xs) → H' a = some (.tup xs)
theorem ExAt.keep {H H' : Hp} (k : Tups H H') {v : V} {e : Ex} (h : ExAt H v e) : ExAt H' v e := by
  induction h with
  | num h => exact .num (k _ _ h)
  | box h => exact .box (k _ _ h)
  | asked h => exact .asked (k _ _ h)
  | told h => exact .told (k _ _ h)
  | op h _ _ i1 i2 => exact .op (k _ _ h) i1 i2
theorem Same.tups {H H' : Hp} (s : Same H H') : Tups H H' := fun a xs h => s a _ h
theorem same_new {H : Hp} {p : Addr} (h : H p = none) (o : HO) : Same H (upd H p o) := fun b u q => by rw [upd_ne (ne_of_none q h)]; exact q
theorem same_refl {H : Hp} : Same H H := fun _ _ q => q
/-- all but b stays -/
def Kept (b : Addr) (H H' : Hp) : Prop := ∀ a o, a ≠ b → H a = some o → H' a = some o
theorem Kept.refl {b : Addr} {H : Hp} : Kept b H H := fun _ _ _ q => q
theorem Kept.trans {b : Addr} {H H1 H2 : Hp} (h : Kept b H H1) (g : Kept b H1 H2) : Kept b H H2 := fun a o n q => g a o n (h a o n q)
theorem Kept.of {b : Addr} {H H' : Hp} (s : Same H H') : Kept b H H' := fun a o _ q => s a o q
theorem Kept.new {b p : Addr} {H : Hp} (h : H p = none) (o : HO) : Kept b H (upd H p o) := .of (same_new h o)
theorem Kept.put {b : Addr} {H : Hp} (o : HO) : Kept b H (upd H b o) := fun a u n q => by rw [upd_ne n]; exact q
theorem Kept.tups {b : Addr} {H H' : Hp} {xs : List V} (k : Kept b H H') (hb : H b = some (.lst xs)) : Tups H H' := fun a ys q => k a _ (ne_of q hb (by intro z; cases z)) q
end Any
namespace Any
open L2 PySem

/-! ### the text, by places -/
def top (i : Nat) : Stmt := PySem.Challenge.pw_anystore_k05_places.main.body.getD i (.Pass ⟨0, 0, 0, 0⟩)
abbrev sPlus : Stmt := top 2
abbrev sLess : Stmt := top 3
abbrev sTimes : Stmt := top 4
abbrev sOver : Stmt := top 5
abbrev sRest : Stmt := top 6
abbrev sReady : Stmt := top 9

theorem scPlus : FnScope ["left", "right"] ["left", "right"] (defScope sPlus) := ⟨rfl, rfl, rfl, by decide +kernel, rfl, by decide +kernel, by decide +kernel⟩
theorem scLess : FnScope ["left", "right"] ["left", "right"] (defScope sLess) := ⟨rfl, rfl, rfl, by decide +kernel, rfl, by decide +kernel, by decide +kernel⟩
theorem scTimes : FnScope ["left", "right"] ["left", "right"] (defScope sTimes) := ⟨rfl, rfl, rfl, by decide +kernel, rfl, by decide +kernel, by decide +kernel⟩
theorem scOver : FnScope ["left", "right"] ["left", "right"] (defScope sOver) := ⟨rfl, rfl, rfl, by decide +kernel, rfl, by decide +kernel, by decide +kernel⟩
theorem scRest : FnScope ["left", "right"] ["left", "right"] (defScope sRest) := ⟨rfl, rfl, rfl, by decide +kernel, rfl, by decide +kernel, by decide +kernel⟩
def spDeed (d : Dd) : Sp := fun vs H Q _ => ∃ i j, vs = [.int i, .int j] ∧ Nb i ∧ Nb j ∧ Q (.int (d.fn i j)) H
section
variable {P : Program} {w : World} {K : PySem.W.Frag} {mg : Str → Option Value} {base : Heap} {f : Addr} {fd : FuncData}
theorem wideMul {i j : Int} (hi : Nb i) (hj : Nb j) : CMulW i j := wide_mul hi.abs hj.abs (by decide) (by decide) (by decide)
theorem wideDiv {i j : Int} (hj : Nb j) (h : j ≠ 0) : CDivW i j := wide_div (by have := hj.1; omega) hj.abs (by decide) (by decide)
theorem ok_plus (F : Fun K "plus" "plus" sPlus f fd) : FnOk P w K mg base CX0 1 f fd ["left", "right"] (spDeed .plus) := by
  refine F.ok scPlus (fun vs H Q E h => ?_) (fun cdv A outer s H vs Q E hr h => ?_)
  · obtain ⟨i, j, rfl, _⟩ := h
    rfl
  obtain ⟨i, j, rfl, hi, hj, q⟩ := h
  exact ⟨_, pss_one (ps_ret (pe_op op_add (pv 0) (pv 1))), _, rfl, _, rfl, _, _, rfl, rfl, q⟩
theorem ok_less (F : Fun K "less" "less" sLess f fd) : FnOk P w K mg base CX0 1 f fd ["left", "right"] (spDeed .less) := by
  refine F.ok scLess (fun vs H Q E h => ?_) (fun cdv A outer s H vs Q E hr h => ?_)
  · obtain ⟨i, j, rfl, _⟩ := h
    rfl
  obtain ⟨i, j, rfl, hi, hj, q⟩ := h
  refine ⟨_, pss_cons (ps_if (pt_cmpR op_lt (pv 0) (pv 1) (nomark _)) (pss_one (ps_ret pe_int)) pss_nil) (pss_one (ps_ret (pe_op op_sub (pv 0) (pv 1)))), _, rfl, _, rfl, _, _, rfl, rfl, _, rfl, ?_⟩
  have q' : Q (.int (if i < j then 0 else i - j)) H := q
  refine ite2 (fun c => ?_) (fun c => ?_)
  · rw [if_pos (of_decide_eq_true c)] at q'
    exact q'
  · rw [if_neg (of_decide_eq_false (Bool.eq_false_iff.mpr c))] at q'
    exact ⟨_, rfl, _, rfl, _, _, rfl, rfl, q'⟩
theorem ok_times (F : Fun K "times" "times" sTimes f fd) : FnOk P w K mg base CX0 1 f fd ["left", "right"] (spDeed .times) := by
  refine F.ok scTimes (fun vs H Q E h => ?_) (fun cdv A outer s H vs Q E hr h => ?_)
  · obtain ⟨i, j, rfl, _⟩ := h
    rfl
  obtain ⟨i, j, rfl, hi, hj, q⟩ := h
  exact ⟨_, pss_one (ps_ret (pe_op op_mulW (pv 0) (pv 1))), _, rfl, _, rfl, _, _, rfl, rfl, wideMul hi hj, q⟩
theorem ok_over (F : Fun K "over" "over" sOver f fd) : FnOk P w K mg base CX0 1 f fd ["left", "right"] (spDeed .over) := by
  refine F.ok scOver (fun vs H Q E h => ?_) (fun cdv A outer s H vs Q E hr h => ?_)
  · obtain ⟨i, j, rfl, _⟩ := h
    rfl
  obtain ⟨i, j, rfl, hi, hj, q⟩ := h
  refine ⟨_, pss_cons (ps_if (pt_cmpR op_eq (pv 1) pe_int (nomark _)) (pss_one (ps_ret pe_int)) pss_nil) (pss_one (ps_ret (pe_op op_fdivW (pv 0) (pv 1)))), _, rfl, rfl, _, rfl, ?_⟩
  have q' : Q (.int (if j = 0 then 0 else i / j)) H := q
  refine ite2 (fun c => ?_) (fun c => ?_)
  · have c' : V.int j = V.int 0 := of_decide_eq_true c
    rw [if_pos (V.int.inj c')] at q'
    exact q'
  · have c' : ¬ V.int j = V.int 0 := of_decide_eq_false (Bool.eq_false_iff.mpr c)
    have nz : j ≠ 0 := fun z => c' (by rw [z])
    rw [if_neg nz] at q'
    exact ⟨_, rfl, _, rfl, _, _, rfl, rfl, wideDiv hj nz, q'⟩
theorem ok_rest (F : Fun K "rest" "rest" sRest f fd) : FnOk P w K mg base CX0 1 f fd ["left", "right"] (spDeed .rest) := by
  refine F.ok scRest (fun vs H Q E h => ?_) (fun cdv A outer s H vs Q E hr h => ?_)
  · obtain ⟨i, j, rfl, _⟩ := h
    rfl
  obtain ⟨i, j, rfl, hi, hj, q⟩ := h
  refine ⟨_, pss_cons (ps_if (pt_cmpR op_eq (pv 1) pe_int (nomark _)) (pss_one (ps_ret pe_int)) pss_nil) (pss_one (ps_ret (pe_op op_mod (pv 0) (pv 1)))), _, rfl, rfl, _, rfl, ?_⟩
  have q' : Q (.int (if j = 0 then 0 else i % j)) H := q
  refine ite2 (fun c => ?_) (fun c => ?_)
  · have c' : V.int j = V.int 0 := of_decide_eq_true c
    rw [if_pos (V.int.inj c')] at q'
    exact q'
  · have c' : ¬ V.int j = V.int 0 := of_decide_eq_false (Bool.eq_false_iff.mpr c)
    have nz : j ≠ 0 := fun z => c' (by rw [z])
    rw [if_neg nz] at q'
    exact ⟨_, rfl, _, rfl, _, _, rfl, rfl, (by have := hj.1; omega), q'⟩

/-- what the table of deeds holds -/
structure Deeds (P : Program) (w : World) (K : PySem.W.Frag) (mg : Str → Option Value) (base : Heap) : Prop where
  ex : ∃ D : Addr, mg "DEEDS" = some (.ref D) ∧ ∀ d : Dd, ∃ g : Addr, KDct K w D d.word (.ref g) ∧ PySem.W.keepIn K (.ref g) = true ∧ FnR P w K mg base CX0 1 g (spDeed d)
end
end Any
set_option maxHeartbeats 1000000
namespace Any
open L2 PySem PySem.Spec PyProof.Rows LamX NdefX
theorem itT {b : Bool} {A B : Prop} (h : b = true) (a : A) : if b = true then A else B := by
  rw [if_pos h]
  exact a
theorem itF {b : Bool} {A B : Prop} (h : b = false) (a : B) : if b = true then A else B := by
  rw [if_neg (by rw [h]; decide)]
  exact a
theorem ne_str {x y : Str} (h : x ≠ y) : decide (V.str x = V.str y) = false := decide_eq_false fun z => h (V.str.inj z)
theorem eq_str {x : Str} : decide (V.str x = V.str x) = true := decide_eq_true rfl
/-! ### the lambdas of the text -/
def ifB : Stmt → List Stmt
  | .If _ b _ _ => b
  | _ => []
def retE : Stmt → Expr
  | .Return (some e) _ => e
  | _ => .Constant .none 0 ⟨0, 0, 0, 0⟩
def stN (l : List Stmt) (i : Nat) : Stmt := l.getD i (.Pass ⟨0, 0, 0, 0⟩)
def lamP : Expr → Arguments
  | .Lambda p _ _ _ => p
  | _ => { posonlyargs := [], args := [], vararg := none, kwonlyargs := [], kw_defaults := [], kwarg := none, defaults := [] }
def lamB : Expr → Expr
  | .Lambda _ b _ _ => b
  | e => e
def lamS : Expr → Scope
  | .Lambda _ _ s _ => s
  | _ => { kind := .function, names := [], isGenerator := false, isCoroutine := false }
abbrev lamN : Expr := retE (stN (ifB (stN (defBody sReady) 1)) 1)
abbrev lamX : Expr := retE (stN (ifB (stN (defBody sReady) 2)) 1)
abbrev lamA : Expr := retE (stN (ifB (stN (defBody sReady) 3)) 0)
abbrev lamT : Expr := retE (stN (ifB (stN (defBody sReady) 4)) 0)
abbrev lamO : Expr := retE (stN (defBody sReady) 8)
abbrev psL : List Str := ["boxes", "asked", "told"]
theorem scN : NScope ["boxes", "asked", "told", "number"] psL ["number"] (lamS lamN) := nscope_by (by decide +kernel)
theorem scX : NScope ["boxes", "asked", "told", "at"] psL ["at"] (lamS lamX) := nscope_by (by decide +kernel)
theorem scA : NScope ["boxes", "asked", "told"] psL [] (lamS lamA) := nscope_by (by decide +kernel)
theorem scT : NScope ["boxes", "asked", "told"] psL [] (lamS lamT) := nscope_by (by decide +kernel)
theorem scO : NScope ["boxes", "asked", "told", "deed", "left", "right"] psL ["deed", "left", "right"] (lamS lamO) := nscope_by (by decide +kernel)
/-- F is made of the lambda L, its code object is known -/
structure Made (H : Hp) (f : Addr) (F : LF) (L : Expr) : Prop where
  at_ : H f = some (LamO f F)
  p : F.params = lamP L
  b : F.body = lamB L
  s : F.scope = lamS L
  code : H F.c = some (CodeO F.c F.qual)
theorem Made.ext {H H' : Hp} {f : Addr} {F : LF} {L : Expr} (m : Made H f F L) (e : ExtN H H') : Made H' f F L := ⟨e _ _ m.at_ lamO_ne, m.p, m.b, m.s, e _ _ m.code codeO_ne⟩
theorem CapsAt.ext {H H' : Hp} {F : LF} {fr : List Str} {ws : List V} (C : CapsAt H F fr ws) (e : ExtN H H') : CapsAt H' F fr ws := by
  refine ⟨C.len, fun y c h => ?_, C.inj, fun i y h => ?_⟩
  · obtain ⟨w, z⟩ := C.all y c h
    exact ⟨w, e _ _ z cellO_tbl⟩
  · obtain ⟨c, h1, h2⟩ := C.has i y h
    exact ⟨c, h1, fun v hv => e _ _ (h2 v hv) cellO_tbl⟩
theorem hid_ext {H H' : Hp} (e : ExtN H H') (cs : List Addr) : ExtN (hid H cs) (hid H' cs) := fun b o h n => by
  obtain ⟨nb, h⟩ := hid_some h
  rw [hid_out nb]
  exact e b o h n
theorem reT_hid (H : Hp) (cs : List Addr) : reT H (hid H cs) cs = H := by
  funext b
  by_cases h : b ∈ cs
  · exact reT_in h
  · rw [reT_out h, hid_out h]
theorem back {Q : VK} {v : V} {H : Hp} {cs : List Addr} (q : Q v H) : Q v (reT H (hid H cs) cs) := by
  rw [reT_hid]
  exact q
/-- the lambda at f tells the worth of e, by the numbers of the boxes xs; G: which def a deed's is -/
def CloE (G : Dd → Addr → Prop) (xs : List Str) : Ex → Hp → Addr → Prop
  | .num n, H, f => ∃ F, Made H f F lamN ∧ CapsAt H F ["number"] [.int n]
  | .box x, H, f => ∃ (F : LF) (i : Nat), Made H f F lamX ∧ CapsAt H F ["at"] [.int i] ∧ xs[i]? = some x ∧ ∀ j, j < i → xs[j]? ≠ some x
  | .asked, H, f => ∃ F, Made H f F lamA ∧ CapsAt H F [] []
  | .told, H, f => ∃ F, Made H f F lamT ∧ CapsAt H F [] []
  | .op d l r, H, f => ∃ (F : LF) (g fl fr : Addr), Made H f F lamO ∧ CapsAt H F ["deed", "left", "right"] [.ref g, .ref fl, .ref fr] ∧ G d g ∧ CloE G xs l (hid H F.cells) fl ∧ CloE G xs r (hid H F.cells) fr
theorem CloE.ext {G : Dd → Addr → Prop} {xs : List Str} : ∀ {e : Ex} {H H' : Hp} {f : Addr}, CloE G xs e H f → ExtN H H' → CloE G xs e H' f
  | .num n, _, _, _, ⟨F, m, c⟩, e => ⟨F, m.ext e, c.ext e⟩
  | .box x, _, _, _, ⟨F, i, m, c, h⟩, e => ⟨F, i, m.ext e, c.ext e, h⟩
  | .asked, _, _, _, ⟨F, m, c⟩, e => ⟨F, m.ext e, c.ext e⟩
  | .told, _, _, _, ⟨F, m, c⟩, e => ⟨F, m.ext e, c.ext e⟩
  | .op d l r, _, _, _, ⟨F, g, fl, fr, m, c, hg, h1, h2⟩, e => ⟨F, g, fl, fr, m.ext e, c.ext e, hg, h1.ext (hid_ext e _), h2.ext (hid_ext e _)⟩
theorem CloE.lm {G : Dd → Addr → Prop} {xs : List Str} : ∀ {e : Ex} {H : Hp} {f : Addr}, CloE G xs e H f → IsLm H f
  | .num _, _, _, ⟨F, m, _⟩ => ⟨F, m.at_⟩
  | .box _, _, _, ⟨F, _, m, _⟩ => ⟨F, m.at_⟩
  | .asked, _, _, ⟨F, m, _⟩ => ⟨F, m.at_⟩
  | .told, _, _, ⟨F, m, _⟩ => ⟨F, m.at_⟩
  | .op _ _ _, _, _, ⟨F, _, _, _, m, _⟩ => ⟨F, m.at_⟩
/-- the numbers of boxes, as they stand in a list -/
def numsV (kvs : List (Str × Int)) : List V := kvs.map fun p => .int p.2
abbrev namesOf (kvs : List (Str × Int)) : List Str := kvs.map (·.1)
theorem look_at : ∀ {kvs : List (Str × Int)} {i : Nat} {x : Str}, (namesOf kvs)[i]? = some x → (∀ j, j < i → (namesOf kvs)[j]? ≠ some x) → ∃ n, look kvs x = some n ∧ (numsV kvs)[i]? = some (.int n)
  | [], i, x, h, _ => by simp at h
  | p :: r, 0, x, h, _ => by
    have h : p.1 = x := Option.some.inj h
    refine ⟨p.2, ?_, rfl⟩
    unfold look
    rw [List.find?_cons, decide_eq_true h]
    rfl
  | p :: r, i + 1, x, h, n => by
    have h0 : p.1 ≠ x := fun z => n 0 (by omega) (by rw [← z]; rfl)
    obtain ⟨m, e1, e2⟩ := look_at (kvs := r) (i := i) h (fun j hj => n (j + 1) (by omega))
    refine ⟨m, ?_, e2⟩
    unfold look at e1 ⊢
    rw [List.find?_cons, decide_eq_false h0]
    exact e1
def DeedIs (P : Program) (w : World) (K : PySem.W.Frag) (mg : Str → Option Value) (base : Heap) (d : Dd) (g : Addr) : Prop := PySem.W.keepIn K (.ref g) = true ∧ FnR P w K mg base CX0 1 g (spDeed d)
def spClo (G : Dd → Addr → Prop) (n : Nat) (f : Addr) : Sp := fun vs H Q _ => ∃ (e : Ex) (kvs : List (Str × Int)) (xs : List Str) (b : Addr) (a t : Int), vs = [.ref b, .int a, .int t] ∧ e.deep ≤ n ∧ e.deep ≤ 6 ∧ H b = some (.lst (numsV kvs)) ∧ CloE G (namesOf kvs) e H f ∧ e.good xs ∧ Bx kvs xs ∧
  (0 ≤ a ∧ a < 1024) ∧ (0 ≤ t ∧ t < 1024) ∧ Q (.int (e.val kvs a t)) H
section
variable {P : Program} {w : World} {K : PySem.W.Frag} {mg : Str → Option Value} {base : Heap}
theorem lst_hid {H : Hp} {F : LF} {fr : List Str} {ws xs : List V} {b : Addr} (C : CapsAt H F fr ws) (h : H b = some (.lst xs)) : hid H F.cells b = some (.lst xs) := by
  rw [hid_out fun z => ?_]
  · exact h
  · obtain ⟨w, e⟩ := C.cell z
    rw [h] at e
    unfold CellO at e
    cases e
theorem no_clo : FnL P w K mg base 0 (spClo (DeedIs P w K mg base) 0) := fun f A outer s H us vs Q _ _ _ h => by
  obtain ⟨e, kvs, xs, b, a, t, _, hd, _⟩ := h
  cases e <;> exact absurd hd (by show ¬ _ ≤ 0; exact Nat.not_succ_le_zero _)
theorem ok_clo {n : Nat} (G : FnL P w K mg base (n + 1) (spClo (DeedIs P w K mg base) n)) : FnL P w K mg base (n + 2) (spClo (DeedIs P w K mg base) (n + 1)) := by
  intro f A outer s H us vs Q hr e0 rv h
  obtain ⟨e, kvs, xs, b, a, t, rfl, hd, hd6, hb, hc, hg, B, ha, ht, q⟩ := h
  cases e with
  | num m =>
    obtain ⟨⟨qu, pa, bo, sc, cl, co⟩, M, C⟩ := hc
    obtain ⟨m1, rfl, rfl, rfl, m5⟩ := M
    refine lam_run (k := n + 1) (N := ["boxes", "asked", "told", "number"]) (ws := [.int m]) scN (fun pm ctv us hl => match us, hl with | [_, _, _], _ => rfl) hr e0 m1 m5 C rv rfl fun hr => ⟨_, pv 3, _, rfl, ?_⟩
    exact back q
  | box x =>
    obtain ⟨⟨qu, pa, bo, sc, cl, co⟩, i, M, C, hi, hj⟩ := hc
    obtain ⟨m1, rfl, rfl, rfl, m5⟩ := M
    obtain ⟨m, e1, e2⟩ := look_at hi hj
    refine lam_run (k := n + 1) (N := ["boxes", "asked", "told", "at"]) (ws := [.int i]) scX (fun pm ctv us hl => match us, hl with | [_, _, _], _ => rfl) hr e0 m1 m5 C rv rfl fun hr => ⟨_, pe_ix ix_list (pv 0) (pv 3) (fun _ _ => rfl), _, rfl, _, rfl, b, _, _, _, rfl, rfl, SqL.of (lst_hid C hb), atI_nat e2, ?_⟩
    refine back ?_
    have q' : Q (.int ((look kvs x).getD 0)) H := q
    rw [e1] at q'
    exact q'
  | asked =>
    obtain ⟨⟨qu, pa, bo, sc, cl, co⟩, M, C⟩ := hc
    obtain ⟨m1, rfl, rfl, rfl, m5⟩ := M
    refine lam_run (k := n + 1) (N := ["boxes", "asked", "told"]) (ws := []) scA (fun pm ctv us hl => match us, hl with | [_, _, _], _ => rfl) hr e0 m1 m5 C rv rfl fun hr => ⟨_, pv 1, _, rfl, ?_⟩
    exact back q
  | told =>
    obtain ⟨⟨qu, pa, bo, sc, cl, co⟩, M, C⟩ := hc
    obtain ⟨m1, rfl, rfl, rfl, m5⟩ := M
    refine lam_run (k := n + 1) (N := ["boxes", "asked", "told"]) (ws := []) scT (fun pm ctv us hl => match us, hl with | [_, _, _], _ => rfl) hr e0 m1 m5 C rv rfl fun hr => ⟨_, pv 2, _, rfl, ?_⟩
    exact back q
  | op d l r =>
    obtain ⟨⟨qu, pa, bo, sc, cl, co⟩, g, fl, fr, M, C, ⟨kk, FR⟩, h1, h2⟩ := hc
    obtain ⟨m1, rfl, rfl, rfl, m5⟩ := M
    have dl : l.deep ≤ n := Nat.le_trans (Nat.le_max_left ..) (Nat.le_of_succ_le_succ hd)
    have dr : r.deep ≤ n := Nat.le_trans (Nat.le_max_right ..) (Nat.le_of_succ_le_succ hd)
    have dl6 : l.deep ≤ 6 := Nat.le_trans (Nat.le_max_left ..) (Nat.le_of_succ_le hd6)
    have dr6 : r.deep ≤ 6 := Nat.le_trans (Nat.le_max_right ..) (Nat.le_of_succ_le hd6)
    refine lam_run (k := n + 1) (N := ["boxes", "asked", "told", "deed", "left", "right"]) (ws := [.ref g, .ref fl, .ref fr]) scO (fun pm ctv us hl => match us, hl with | [_, _, _], _ => rfl) hr e0 m1 m5 C rv rfl fun hr =>
      ⟨_, pe_callS (k := 1) (i := 3) (hr.mono (by omega)) pass0 rfl (.inr (.inr rfl)) (pa_cons (pe_callL (i := 4) G hr rfl (.inr (.inr rfl)) (pa_cons (pv 0) (pa_cons (pv 1) (pa_cons (pv 2) pa_nil)))) (pa_cons (pe_callL (i := 5) G hr rfl (.inr (.inr rfl)) (pa_cons (pv 0) (pa_cons (pv 1) (pa_cons (pv 2) pa_nil)))) pa_nil)), ?_⟩
    refine ⟨g, spDeed d, FR, kk, rfl, fl, rfl, h1.lm, _, rfl, _, rfl, _, rfl, h1.lm, l, kvs, xs, b, a, t, rfl, dl, dl6, lst_hid C hb, h1, hg.1, B, ha, ht, ?_⟩
    refine ⟨fr, rfl, h2.lm, _, rfl, _, rfl, _, rfl, h2.lm, r, kvs, xs, b, a, t, rfl, dr, dr6, lst_hid C hb, h2, hg.2, B, ha, ht, ?_⟩
    refine ⟨_, _, rfl, Ex.nb B ha ht hg.1 dl6, Ex.nb B ha ht hg.2 dr6, ?_⟩
    exact back q
theorem all_clo : ∀ n : Nat, FnL P w K mg base (n + 1) (spClo (DeedIs P w K mg base) n)
  | 0 => no_clo.mono (by omega)
  | n + 1 => ok_clo (all_clo n)
end
end Any
set_option maxHeartbeats 1000000
namespace Any
open L2 PySem PySem.Spec PyProof.Rows LamX NdefX
/-! ### heaps that grow, tables aside -/
structure Gr (T : List NTab) (H H' : Hp) : Prop where
  ext : ExtN H H'
  no : ∀ b, H' b = none → H b = none
  tabs : TabsN T H'
theorem Gr.refl {T : List NTab} {H : Hp} (t : TabsN T H) : Gr T H H := ⟨ExtN.refl H, fun _ z => z, t⟩
theorem Gr.trans {T : List NTab} {H H1 H2 : Hp} (a : Gr T H H1) (b : Gr T H1 H2) : Gr T H H2 := ⟨a.ext.trans b.ext, fun c z => a.no c (b.no c z), b.tabs⟩
theorem same_no {H H' : Hp} (s : Same H H') : ∀ b, H' b = none → H b = none := fun b z => by
  cases e : H b with
  | none => rfl
  | some o => rw [s b o e] at z; cases z
theorem Gr.same {T : List NTab} {H H1 H2 : Hp} (a : Gr T H H1) (s : Same H1 H2) : Gr T H H2 := ⟨a.ext.trans (ExtN.of s), fun c z => a.no c (same_no s c z), a.tabs.ext s⟩
theorem Gr.of {T : List NTab} {H H' : Hp} (t : TabsN T H) (s : Same H H') : Gr T H H' := (Gr.refl t).same s
theorem Gr.tup {T : List NTab} {H H' : Hp} (g : Gr T H H') {a : Addr} {xs : List V} (h : H a = some (.tup xs)) : H' a = some (.tup xs) := g.ext _ _ h fun _ z => by cases z
theorem Gr.lst {T : List NTab} {H H' : Hp} (g : Gr T H H') {a : Addr} {xs : List V} (h : H a = some (.lst xs)) : H' a = some (.lst xs) := g.ext _ _ h fun _ z => by cases z
theorem Gr.dK {T : List NTab} {H H' : Hp} (g : Gr T H H') {a : Addr} {xs : List (Key × V)} (h : H a = some (.dK xs)) : H' a = some (.dK xs) := g.ext _ _ h fun _ z => by cases z
theorem Gr.tups {T : List NTab} {H H' : Hp} (g : Gr T H H') : Tups H H' := fun _ _ h => g.tup h
/-! ### a def that hands back a lambda -/
structure FunC (K : PySem.W.Frag) (x qual : Str) (st : Stmt) (f : Addr) (fd : FuncData) (c : Addr) : Prop where
  ex : ∃ (oc : Value) (od : Option Addr) (kV doc pm : Value) (an : Option Addr) (ct : Value) (osl : Array (Option Value)),
    fd = PySem.W.fnOf x qual (defArgs st) (defBody st) (defScope st) .none kV doc pm an (.ref c) ct ∧ K.lookup f = some ⟨oc, od, .func fd, osl⟩ ∧ PySem.W.codeIn K (.ref c) qual = true
  kp : PySem.W.keepIn K (.ref f) = true
section
variable {P : Program} {w : World} {K : PySem.W.Frag} {mg : Str → Option Value} {base : Heap} {f c : Addr} {fd : FuncData}
theorem fun_c {x ql : Str} {st : Stmt} {N ps : List Str} {k : Nat} {sp : Sp} (F : FunC K x ql st f fd c) (S : FnScope N ps (defScope st)) (ln : ∀ vs H Q E, sp vs H Q E → vs.length = ps.length)
    (hb : ∀ (A : Around) (out : List Env) (s : Shared) (H : Hp) (vs : List V) (Q : VK) (E : XK), Room k (A.deeper (envOfC ql (defScope st) s.heap.objs.size f (.ref c))) → sp vs H Q E →
      ∃ t, PRs (cxOf CX0 P w K mg base N ql (defScope st) f (.ref c) A out s H E) (defBody st) t ∧ t ⟨fun _ H' => Q .non H', RetC N (defScope st) s.heap.objs.size Q⟩ (L2.start N vs) H) : FnOk P w K mg base CX0 (k + 1) f fd ps sp := by
  obtain ⟨_, _, _, _, _, _, _, _, rfl, lk, hc⟩ := F.ex
  exact fn_c lk hc S ln hb
theorem FunC.binds {x ql : Str} {st : Stmt} {ps : List Str} (F : FunC K x ql st f fd c) (h : ∀ (kV doc pm : Value) (an : Option Addr) (ct : Value) (us : List Value), us.length = ps.length → bindArgs (PySem.W.fnOf x ql (defArgs st) (defBody st) (defScope st) .none kV doc pm an (.ref c) ct) ⟨us, []⟩ = pure (ps.zip us)) : Binds K fd ps [] := by
  obtain ⟨_, _, kV, doc, pm, an, ct, _, rfl, lk, hc⟩ := F.ex
  intro s us _ hl
  rw [List.append_nil] at hl ⊢
  exact .of_eq (h kV doc pm an ct us hl)
/-- the captured names are known at the end -/
theorem caps_ret {N N2 ps fr : List Str} {sc nsc : Scope} {L : Addr} {σ : L2.St} {H' H'' : Hp} {F : LF} {ws : List V}
    (R : ∀ (x : Str) (c : Addr) (i : Nat) (u : V), (cellsFrom (L + 1) sc.names []).lookup x = some c → N[i]? = some x → σ[i]? = some (some u) → sc.names.lookup x = some .cell → H' c = none ∧ H'' c = some (CellO c u))
    (inj : ∀ x y c, (cellsFrom (L + 1) sc.names []).lookup x = some c → (cellsFrom (L + 1) sc.names []).lookup y = some c → x = y)
    (hcl : F.cl = cloFrom (cellsFrom (L + 1) sc.names []) nsc.names []) (S : NScope N2 ps fr nsc) (cel : ∀ y ∈ fr, sc.names.lookup y = some .cell) (len : ws.length = fr.length)
    (at_ : ∀ (i : Nat) (y : Str), fr[i]? = some y → ∃ (j : Nat) (u : V), N[j]? = some y ∧ σ[j]? = some (some u) ∧ ws[i]? = some u) : CapsAt H'' F fr ws ∧ ∀ b ∈ F.cells, H' b = none := by
  have hfree : ∀ y ∈ nsc.names, y.2 = .free → ∃ c, (cellsFrom (L + 1) sc.names []).lookup y.1 = some c := fun y hy e => cell_has (cel _ (S.free y hy e))
  have sub : ∀ {y c}, F.cl.lookup y = some c → (cellsFrom (L + 1) sc.names []).lookup y = some c := fun {y c} e => by
    rw [hcl] at e
    exact clo_cm hfree e
  have infr : ∀ {y c}, F.cl.lookup y = some c → y ∈ fr := fun {y c} e => by
    rw [hcl] at e
    rcases cloFrom_mem (PySem.mem_of_lookup e) with hm | ⟨h1, _⟩
    · cases hm
    · exact S.free _ h1 rfl
  have one : ∀ {y c}, F.cl.lookup y = some c → ∃ u, H' c = none ∧ H'' c = some (CellO c u) := fun {y c} e => by
    have hy := infr e
    obtain ⟨i, hi⟩ := List.mem_iff_getElem?.mp hy
    obtain ⟨j, u, j1, j2, _⟩ := at_ i y hi
    exact ⟨u, R y c j u (sub e) j1 j2 (cel y hy)⟩
  refine ⟨⟨len, fun y c e => ?_, fun x y c e1 e2 => inj x y c (sub e1) (sub e2), fun i y e => ?_⟩, fun b hb => ?_⟩
  · obtain ⟨u, _, z⟩ := one e
    exact ⟨u, z⟩
  · have hy := List.mem_of_getElem? e
    obtain ⟨c, hc⟩ := cell_has (n := L + 1) (cel y hy)
    refine ⟨c, ?_, fun v hv => ?_⟩
    · rw [hcl]
      exact clo_has hfree (PySem.mem_of_lookup (S.frk y hy)) hc
    · obtain ⟨j, u, j1, j2, j3⟩ := at_ i y e
      rw [hv] at j3
      cases j3
      exact (R y c j v hc j1 j2 (cel y hy)).2
  · obtain ⟨y, e⟩ := F.of_cells hb
    obtain ⟨u, z, _⟩ := one e
    exact z
end
/-! ### ready_worth -/
abbrev nmReady : List Str := ["expression", "owns", "kind", "number", "at", "deed", "left", "right"]
abbrev psReady : List Str := ["expression", "owns"]
theorem scReady : FnScope nmReady psReady (defScope sReady) := ⟨rfl, rfl, rfl, by decide +kernel, rfl, by decide +kernel, by decide +kernel⟩
/-- the lambdas' own name -/
def qReady : Str := (envOfC "ready_worth" (defScope sReady) 0 0 .none).qual ++ "<lambda>"
/-- a lambda that ready_worth made, its frame at L0 -/
abbrev mkReady (L : Expr) (L0 c' : Addr) : LF := ⟨qReady, lamP L, lamB L, lamS L, cloFrom (cellsFrom (L0 + 1) (defScope sReady).names []) (lamS L).names [], c'⟩
def spReady (T : List NTab) (G : Dd → Addr → Prop) (n : Nat) : Sp := fun vs H Q _ => ∃ (v : V) (o : Addr) (e : Ex) (xs : List Str), vs = [v, .ref o] ∧ ExAt H v e ∧ e.deep ≤ n ∧ e.good xs ∧ H o = some (.lst (xs.map V.str)) ∧ TabsN T H ∧
  ∀ f H', Gr T H H' → CloE G xs e H' f → Q (.ref f) H'
/-- the first place of a name -/
theorem first_at {x : Str} : ∀ {xs : List Str}, x ∈ xs → ∃ i : Nat, xs[i]? = some x ∧ ∀ j, j < i → xs[j]? ≠ some x
  | y :: r, h => by
    by_cases e : y = x
    · exact ⟨0, by rw [e]; rfl, fun j hj => absurd hj (Nat.not_lt_zero _)⟩
    · rcases List.mem_cons.mp h with z | z
      · exact absurd z.symm e
      · obtain ⟨i, h1, h2⟩ := first_at z
        refine ⟨i + 1, h1, fun j hj => ?_⟩
        cases j with
        | zero => exact fun z => e (Option.some.inj z)
        | succ j => exact h2 j (by omega)
theorem strs_flat : ∀ xs : List Str, (xs.map V.str).all flatV = true
  | [] => rfl
  | x :: r => by
    rw [List.map_cons, List.all_cons, strs_flat r]
    rfl
/-- the table of deeds, each a def that keeps its promise -/
structure DeedsT (P : Program) (w : World) (K : PySem.W.Frag) (mg : Str → Option Value) (base : Heap) : Prop where
  ex : ∃ D : Addr, mg "DEEDS" = some (.ref D) ∧ ∀ d : Dd, ∃ g : Addr, KDct K w D d.word (.ref g) ∧ DeedIs P w K mg base d g
section
variable {P : Program} {w : World} {K : PySem.W.Frag} {mg : Str → Option Value} {base : Heap} {f c Pt : Addr} {fd : FuncData} {T : List NTab}
theorem no_ready : FnOk P w K mg base CX0 0 f fd psReady (spReady T (DeedIs P w K mg base) 0) := by
  have no : ∀ vs H Q E, ¬ spReady T (DeedIs P w K mg base) 0 vs H Q E := fun vs H Q E h => by
    obtain ⟨v, o, e, xs, _, _, hd, _⟩ := h
    cases e <;> exact absurd hd (by show ¬ _ ≤ 0; exact Nat.not_succ_le_zero _)
  exact ⟨fun vs H Q E h => absurd h (no vs H Q E), fun A outer s H args us vs Q E _ _ _ _ h => absurd h (no vs H Q E)⟩
theorem ok_ready {n : Nat} (F : FunC K "ready_worth" "ready_worth" sReady f fd c) (TB : TabB base mg c Pt) (hm : (Pt, fun _ _ => qReady) ∈ T) (hu : ∀ p ∈ T, p.1 = Pt → p.2 = fun _ _ => qReady) (G : FnOk P w K mg base CX0 (n + 1) f fd psReady (spReady T (DeedIs P w K mg base) n))
    (D : DeedsT P w K mg base) (mR : mg "ready_worth" = some (.ref f)) (bR : Binds K fd psReady []) : FnOk P w K mg base CX0 (n + 2) f fd psReady (spReady T (DeedIs P w K mg base) (n + 1)) := by
  refine fun_c F scReady (fun vs H Q E h => ?_) (fun A outer s H vs Q E hr h => ?_)
  · obtain ⟨v, o, e, xs, rfl, _⟩ := h
    rfl
  obtain ⟨v, o, e, xs, rfl, hv, hd, hg, ho, hT, q⟩ := h
  obtain ⟨DA, mD, hD⟩ := D.ex
  let X := cxOf CX0 P w K mg base nmReady "ready_worth" (defScope sReady) f (.ref c) A outer s H E
  have TBx : TabB X.base X.mg c Pt := TB
  refine ⟨_, prs_cons (pr_go (ps_set (i := 2) scReady.nd rfl (Or.inl rfl) (pe_ix ix_tup (pv 0) pe_int (fun _ _ => rfl))))
    (prs_cons (pr_if (pt_cmpR op_eq (pv 2) pe_str (nomark _)) (prs_cons (pr_go (ps_set (i := 3) scReady.nd rfl (Or.inr rfl) (pe_ix ix_tup (pv 0) pe_int (fun _ _ => rfl)))) (prs_one (pr_ret (pe_lamb TBx rfl hm rfl hu rfl (ndef_free (sc := defScope sReady) (fr := []) (by decide +kernel)))))) prs_nil)
    (prs_cons (pr_if (pt_cmpR op_eq (pv 2) pe_str (nomark _)) (prs_cons (pr_go (ps_set (i := 4) scReady.nd rfl (Or.inr rfl) (pe_bm PySem.F.plainAttrs_list PySem.F.slot_list_index PySem.F.type_list_index mt_index (pv 1) (pa_cons (pe_ix ix_tup (pv 0) pe_int (fun _ _ => rfl)) pa_nil)))) (prs_one (pr_ret (pe_lamb TBx rfl hm rfl hu rfl (ndef_free (sc := defScope sReady) (fr := []) (by decide +kernel)))))) prs_nil)
    (prs_cons (pr_if (pt_cmpR op_eq (pv 2) pe_str (nomark _)) (prs_one (pr_ret (pe_lamb TBx rfl hm rfl hu rfl (ndef_free (sc := defScope sReady) (fr := []) (by decide +kernel))))) prs_nil)
    (prs_cons (pr_if (pt_cmpR op_eq (pv 2) pe_str (nomark _)) (prs_one (pr_ret (pe_lamb TBx rfl hm rfl hu rfl (ndef_free (sc := defScope sReady) (fr := []) (by decide +kernel))))) prs_nil)
    (prs_cons (pr_go (ps_set (i := 5) scReady.nd rfl (Or.inr rfl) (pe_ix ix_kdict (pe_glob (v := .ref DA) rfl mD rfl) (pv 2) (fun _ _ => rfl))))
    (prs_cons (pr_go (ps_set (i := 6) scReady.nd rfl (Or.inr rfl) (pe_call G hr rfl mR F.kp bR .nil pass0 (pa_cons (pe_ix ix_tup (pv 0) pe_int (fun _ _ => rfl)) (pa_cons (pv 1) pa_nil)))))
    (prs_cons (pr_go (ps_set (i := 7) scReady.nd rfl (Or.inr rfl) (pe_call G hr rfl mR F.kp bR .nil pass0 (pa_cons (pe_ix ix_tup (pv 0) pe_int (fun _ _ => rfl)) (pa_cons (pv 1) pa_nil)))))
    (prs_one (pr_ret (pe_lamb TBx rfl hm rfl hu rfl (ndef_free (sc := defScope sReady) (fr := []) (by decide +kernel)))))))))))), ?_⟩
  cases hv with
  | num h =>
    rename_i a m
    refine ⟨_, rfl, _, _, _, _, rfl, rfl, SqT.of h, atI_nat (j := 0) rfl, ?_⟩
    refine ⟨_, rfl, rfl, _, rfl, itT eq_str ?_⟩
    refine ⟨_, rfl, _, _, _, _, rfl, rfl, SqT.of h, atI_nat (j := 1) rfl, hT, fun g c' H1 eN nn T1 f0 f1 c1 H2 sm R _ inj => ?_⟩
    obtain ⟨C, _⟩ := caps_ret (F := mkReady lamN s.heap.objs.size c') (ws := [.int m]) R inj rfl scN (by decide +kernel) rfl fun i y e => match i, e with | 0, e => by cases e; exact ⟨3, _, rfl, rfl, rfl⟩ | _ + 1, e => by cases e
    exact q g H2 ⟨eN.trans (ExtN.of sm), fun b z => nn b (same_no sm b z), T1.ext sm⟩ ⟨_, ⟨sm _ _ f1, rfl, rfl, rfl, sm _ _ c1⟩, C⟩
  | box h =>
    rename_i a x
    obtain ⟨i, i1, i2⟩ := first_at hg
    refine ⟨_, rfl, _, _, _, _, rfl, rfl, SqT.of h, atI_nat (j := 0) rfl, ?_⟩
    refine ⟨_, rfl, rfl, _, rfl, itF (ne_str (by decide)) ?_⟩
    refine ⟨_, rfl, rfl, _, rfl, itT eq_str ?_⟩
    refine ⟨_, rfl, .inl ⟨rfl, _, SqL.of ho⟩, _, rfl, _, _, _, _, rfl, rfl, SqT.of h, atI_nat (j := 1) rfl, o, _, _, i, .str x, rfl, rfl, SqL.of ho, rfl, strs_flat xs, by rw [List.getElem?_map, i1]; rfl, by simp [eqV], fun j z hj hz => ?_, ?_⟩
    · rw [List.getElem?_map] at hz
      cases ez : xs[j]? with
      | none => rw [ez] at hz; cases hz
      | some y =>
        rw [ez] at hz
        cases hz
        have : y ≠ x := fun e => i2 j hj (by rw [ez, e])
        simp [eqV, this]
    · refine ⟨hT, fun g c' H1 eN nn T1 f0 f1 c1 H2 sm R _ inj => ?_⟩
      obtain ⟨C, _⟩ := caps_ret (F := mkReady lamX s.heap.objs.size c') (ws := [.int i]) R inj rfl scX (by decide +kernel) rfl fun i y e => match i, e with | 0, e => by cases e; exact ⟨4, _, rfl, rfl, rfl⟩ | _ + 1, e => by cases e
      exact q g H2 ⟨eN.trans (ExtN.of sm), fun b z => nn b (same_no sm b z), T1.ext sm⟩ ⟨_, i, ⟨sm _ _ f1, rfl, rfl, rfl, sm _ _ c1⟩, C, i1, i2⟩
  | asked h =>
    refine ⟨_, rfl, _, _, _, _, rfl, rfl, SqT.of h, atI_nat (j := 0) rfl, ?_⟩
    refine ⟨_, rfl, rfl, _, rfl, itF (ne_str (by decide)) ?_⟩
    refine ⟨_, rfl, rfl, _, rfl, itF (ne_str (by decide)) ?_⟩
    refine ⟨_, rfl, rfl, _, rfl, itT eq_str ?_⟩
    refine ⟨hT, fun g c' H1 eN nn T1 f0 f1 c1 H2 sm R _ inj => ?_⟩
    obtain ⟨C, _⟩ := caps_ret (F := mkReady lamA s.heap.objs.size c') (ws := []) R inj rfl scA (by decide +kernel) rfl fun i y e => by cases e
    exact q g H2 ⟨eN.trans (ExtN.of sm), fun b z => nn b (same_no sm b z), T1.ext sm⟩ ⟨_, ⟨sm _ _ f1, rfl, rfl, rfl, sm _ _ c1⟩, C⟩
  | told h =>
    refine ⟨_, rfl, _, _, _, _, rfl, rfl, SqT.of h, atI_nat (j := 0) rfl, ?_⟩
    refine ⟨_, rfl, rfl, _, rfl, itF (ne_str (by decide)) ?_⟩
    refine ⟨_, rfl, rfl, _, rfl, itF (ne_str (by decide)) ?_⟩
    refine ⟨_, rfl, rfl, _, rfl, itF (ne_str (by decide)) ?_⟩
    refine ⟨_, rfl, rfl, _, rfl, itT eq_str ?_⟩
    refine ⟨hT, fun g c' H1 eN nn T1 f0 f1 c1 H2 sm R _ inj => ?_⟩
    obtain ⟨C, _⟩ := caps_ret (F := mkReady lamT s.heap.objs.size c') (ws := []) R inj rfl scT (by decide +kernel) rfl fun i y e => by cases e
    exact q g H2 ⟨eN.trans (ExtN.of sm), fun b z => nn b (same_no sm b z), T1.ext sm⟩ ⟨_, ⟨sm _ _ f1, rfl, rfl, rfl, sm _ _ c1⟩, C⟩
  | op h h1 h2 =>
    rename_i p d x y l r
    have w1 : d.word ≠ "number" ∧ d.word ≠ "box" ∧ d.word ≠ "asked" ∧ d.word ≠ "told" := by cases d <;> decide
    obtain ⟨g, kd, gd⟩ := hD d
    have dl : l.deep ≤ n := Nat.le_trans (Nat.le_max_left ..) (Nat.le_of_succ_le_succ hd)
    have dr : r.deep ≤ n := Nat.le_trans (Nat.le_max_right ..) (Nat.le_of_succ_le_succ hd)
    refine ⟨_, rfl, _, _, _, _, rfl, rfl, SqT.of h, atI_nat (j := 0) rfl, ?_⟩
    refine ⟨_, rfl, rfl, _, rfl, itF (ne_str w1.1) ?_⟩
    refine ⟨_, rfl, rfl, _, rfl, itF (ne_str w1.2.1) ?_⟩
    refine ⟨_, rfl, rfl, _, rfl, itF (ne_str w1.2.2.1) ?_⟩
    refine ⟨_, rfl, rfl, _, rfl, itF (ne_str w1.2.2.2) ?_⟩
    refine ⟨_, rfl, DA, d.word, .ref g, rfl, rfl, kd, ?_⟩
    refine ⟨_, rfl, _, _, _, _, rfl, rfl, SqT.of h, atI_nat (j := 1) rfl, _, rfl, x, o, l, xs, rfl, h1, dl, hg.1, ho, hT, fun fl H1 g1 cl1 => ?_⟩
    refine ⟨_, rfl, _, _, _, _, rfl, rfl, SqT.of (g1.tup h), atI_nat (j := 2) rfl, _, rfl, y, o, r, xs, rfl, h2.keep g1.tups, dr, hg.2, g1.lst ho, g1.tabs, fun fr H2 g2 cl2 => ?_⟩
    refine ⟨g2.tabs, fun fo c' H3 eN nn T3 f0 f1 c1 H4 sm R _ inj => ?_⟩
    obtain ⟨C, cn⟩ := caps_ret (F := mkReady lamO s.heap.objs.size c') (ws := [.ref g, .ref fl, .ref fr]) R inj rfl scO (by decide +kernel) rfl fun i y e => match i, e with | 0, e => by cases e; exact ⟨5, _, rfl, rfl, rfl⟩ | 1, e => by cases e; exact ⟨6, _, rfl, rfl, rfl⟩ | 2, e => by cases e; exact ⟨7, _, rfl, rfl, rfl⟩ | _ + 3, e => by cases e
    have g12 := g1.trans g2
    have ex : ∀ cs : List Addr, (∀ b ∈ cs, H3 b = none) → ExtN H3 (hid H4 cs) := fun cs hc b o hb _ => by
      rw [hid_out (fun z => by rw [hc b z] at hb; cases hb)]
      exact sm _ _ hb
    refine q fo H4 ⟨(g12.ext.trans eN).trans (ExtN.of sm), fun b z => g12.no b (nn b (same_no sm b z)), T3.ext sm⟩ ⟨_, g, fl, fr, ⟨sm _ _ f1, rfl, rfl, rfl, sm _ _ c1⟩, C, gd, ?_, ?_⟩
    · exact ((cl1.ext g2.ext).ext eN).ext (ex _ cn)
    · exact (cl2.ext eN).ext (ex _ cn)
theorem all_ready (F : FunC K "ready_worth" "ready_worth" sReady f fd c) (TB : TabB base mg c Pt) (hm : (Pt, fun _ _ => qReady) ∈ T) (hu : ∀ p ∈ T, p.1 = Pt → p.2 = fun _ _ => qReady) (D : DeedsT P w K mg base) (mR : mg "ready_worth" = some (.ref f)) (bR : Binds K fd psReady []) :
    ∀ n : Nat, FnOk P w K mg base CX0 (n + 1) f fd psReady (spReady T (DeedIs P w K mg base) n)
  | 0 => no_ready.mono (by omega)
  | n + 1 => ok_ready F TB hm hu (all_ready F TB hm hu D mR bR n) D mR bR
end
theorem bx_names : ∀ kvs : List (Str × Int), (bx kvs).map (fun kv => kV kv.1) = (namesOf kvs).map V.str
  | [] => rfl
  | p :: r => by
    have ih := bx_names r
    unfold bx namesOf at ih ⊢
    rw [List.map_cons, List.map_cons, List.map_cons, List.map_cons, ih]
    rfl
theorem bx_nums : ∀ kvs : List (Str × Int), (bx kvs).map (·.2) = numsV kvs
  | [] => rfl
  | p :: r => by
    have ih := bx_nums r
    unfold bx numsV at ih ⊢
    rw [List.map_cons, List.map_cons, List.map_cons, ih]
theorem look_in : ∀ {kvs : List (Str × Int)} {x : Str} {n : Int}, look kvs x = some n → x ∈ namesOf kvs
  | [], x, n, h => by cases h
  | p :: r, x, n, h => by
    by_cases e : p.1 = x
    · rw [← e]
      exact List.mem_cons_self ..
    · refine List.mem_cons_of_mem _ (look_in (n := n) ?_)
      unfold look at h ⊢
      rw [List.find?_cons, decide_eq_false e] at h
      exact h
theorem Ex.good_of {kvs : List (Str × Int)} {xs : List Str} (B : Bx kvs xs) : ∀ {e : Ex}, e.good xs → e.good (namesOf kvs)
  | .num _, h => h
  | .box x, h => by
    obtain ⟨n, e, _⟩ := B.all x h
    exact look_in e
  | .asked, _ => trivial
  | .told, _ => trivial
  | .op _ l r, h => ⟨Ex.good_of B h.1, Ex.good_of B h.2⟩
end Any
set_option maxHeartbeats 1000000
namespace Any
open L2 PySem PySem.Spec PyProof.Rows LamX NdefX
/-! ### tests as trees -/
inductive Ts
  | is (l r : Ex) | bel (l r : Ex) | nt (t : Ts) | both (t u : Ts) | either (t u : Ts)
def Ts.deep : Ts → Nat
  | .is _ _ => 1
  | .bel _ _ => 1
  | .nt t => t.deep + 1
  | .both t u => max t.deep u.deep + 1
  | .either t u => max t.deep u.deep + 1
/-- of these boxes, its expressions not too deep -/
def Ts.good (xs : List Str) : Ts → Prop
  | .is l r => (l.good xs ∧ l.deep ≤ 6) ∧ (r.good xs ∧ r.deep ≤ 6)
  | .bel l r => (l.good xs ∧ l.deep ≤ 6) ∧ (r.good xs ∧ r.deep ≤ 6)
  | .nt t => t.good xs
  | .both t u => t.good xs ∧ u.good xs
  | .either t u => t.good xs ∧ u.good xs
def Ts.val (kvs : List (Str × Int)) (a t : Int) : Ts → Bool
  | .is l r => decide (l.val kvs a t = r.val kvs a t)
  | .bel l r => decide (l.val kvs a t < r.val kvs a t)
  | .nt x => !x.val kvs a t
  | .both x y => x.val kvs a t && y.val kvs a t
  | .either x y => x.val kvs a t || y.val kvs a t
inductive TsAt (H : Hp) : V → Ts → Prop
  | is {a : Addr} {v u : V} {l r : Ex} : H a = some (.tup [.str "is", v, u]) → ExAt H v l → ExAt H u r → TsAt H (.ref a) (.is l r)
  | bel {a : Addr} {v u : V} {l r : Ex} : H a = some (.tup [.str "below", v, u]) → ExAt H v l → ExAt H u r → TsAt H (.ref a) (.bel l r)
  | nt {a : Addr} {v : V} {t : Ts} : H a = some (.tup [.str "not", v]) → TsAt H v t → TsAt H (.ref a) (.nt t)
  | both {a : Addr} {v u : V} {l r : Ts} : H a = some (.tup [.str "both", v, u]) → TsAt H v l → TsAt H u r → TsAt H (.ref a) (.both l r)
  | either {a : Addr} {v u : V} {l r : Ts} : H a = some (.tup [.str "either", v, u]) → TsAt H v l → TsAt H u r → TsAt H (.ref a) (.either l r)
theorem TsAt.keep {H H' : Hp} (k : Tups H H') {v : V} {e : Ts} (h : TsAt H v e) : TsAt H' v e := by
  induction h with
  | is h h1 h2 => exact .is (k _ _ h) (h1.keep k) (h2.keep k)
  | bel h h1 h2 => exact .bel (k _ _ h) (h1.keep k) (h2.keep k)
  | nt h _ i1 => exact .nt (k _ _ h) i1
  | both h _ _ i1 i2 => exact .both (k _ _ h) i1 i2
  | either h _ _ i1 i2 => exact .either (k _ _ h) i1 i2


abbrev sRT : Stmt := top 10
abbrev sRC : Stmt := top 11
abbrev lamNt : Expr := retE (stN (ifB (stN (defBody sRT) 1)) 1)
abbrev lamBo : Expr := retE (stN (ifB (stN (defBody sRT) 5)) 0)
abbrev lamEi : Expr := retE (stN (defBody sRT) 6)
abbrev lamIs : Expr := retE (stN (ifB (stN (defBody sRC) 0)) 0)
abbrev lamBe : Expr := retE (stN (defBody sRC) 1)
theorem scNt : NScope ["boxes", "asked", "told", "inner"] psL ["inner"] (lamS lamNt) := nscope_by (by decide +kernel)
theorem scBo : NScope ["boxes", "asked", "told", "first", "second"] psL ["first", "second"] (lamS lamBo) := nscope_by (by decide +kernel)
theorem scEi : NScope ["boxes", "asked", "told", "first", "second"] psL ["first", "second"] (lamS lamEi) := nscope_by (by decide +kernel)
theorem scIs : NScope ["boxes", "asked", "told", "left", "right"] psL ["left", "right"] (lamS lamIs) := nscope_by (by decide +kernel)
theorem scBe : NScope ["boxes", "asked", "told", "left", "right"] psL ["left", "right"] (lamS lamBe) := nscope_by (by decide +kernel)
/-- the lambda at f tells whether e holds -/
def CloT (G : Dd → Addr → Prop) (xs : List Str) : Ts → Hp → Addr → Prop
  | .is l r, H, f => ∃ (F : LF) (fl fr : Addr), Made H f F lamIs ∧ CapsAt H F ["left", "right"] [.ref fl, .ref fr] ∧ CloE G xs l (hid H F.cells) fl ∧ CloE G xs r (hid H F.cells) fr
  | .bel l r, H, f => ∃ (F : LF) (fl fr : Addr), Made H f F lamBe ∧ CapsAt H F ["left", "right"] [.ref fl, .ref fr] ∧ CloE G xs l (hid H F.cells) fl ∧ CloE G xs r (hid H F.cells) fr
  | .nt t, H, f => ∃ (F : LF) (fi : Addr), Made H f F lamNt ∧ CapsAt H F ["inner"] [.ref fi] ∧ CloT G xs t (hid H F.cells) fi
  | .both t u, H, f => ∃ (F : LF) (fl fr : Addr), Made H f F lamBo ∧ CapsAt H F ["first", "second"] [.ref fl, .ref fr] ∧ CloT G xs t (hid H F.cells) fl ∧ CloT G xs u (hid H F.cells) fr
  | .either t u, H, f => ∃ (F : LF) (fl fr : Addr), Made H f F lamEi ∧ CapsAt H F ["first", "second"] [.ref fl, .ref fr] ∧ CloT G xs t (hid H F.cells) fl ∧ CloT G xs u (hid H F.cells) fr
theorem CloT.ext {G : Dd → Addr → Prop} {xs : List Str} : ∀ {e : Ts} {H H' : Hp} {f : Addr}, CloT G xs e H f → ExtN H H' → CloT G xs e H' f
  | .is _ _, _, _, _, ⟨F, a, b, m, c, h1, h2⟩, e => ⟨F, a, b, m.ext e, c.ext e, h1.ext (hid_ext e _), h2.ext (hid_ext e _)⟩
  | .bel _ _, _, _, _, ⟨F, a, b, m, c, h1, h2⟩, e => ⟨F, a, b, m.ext e, c.ext e, h1.ext (hid_ext e _), h2.ext (hid_ext e _)⟩
  | .nt _, _, _, _, ⟨F, a, m, c, h1⟩, e => ⟨F, a, m.ext e, c.ext e, CloT.ext h1 (hid_ext e _)⟩
  | .both _ _, _, _, _, ⟨F, a, b, m, c, h1, h2⟩, e => ⟨F, a, b, m.ext e, c.ext e, CloT.ext h1 (hid_ext e _), CloT.ext h2 (hid_ext e _)⟩
  | .either _ _, _, _, _, ⟨F, a, b, m, c, h1, h2⟩, e => ⟨F, a, b, m.ext e, c.ext e, CloT.ext h1 (hid_ext e _), CloT.ext h2 (hid_ext e _)⟩
theorem CloT.lm {G : Dd → Addr → Prop} {xs : List Str} : ∀ {e : Ts} {H : Hp} {f : Addr}, CloT G xs e H f → IsLm H f
  | .is _ _, _, _, ⟨F, _, _, m, _⟩ => ⟨F, m.at_⟩
  | .bel _ _, _, _, ⟨F, _, _, m, _⟩ => ⟨F, m.at_⟩
  | .nt _, _, _, ⟨F, _, m, _⟩ => ⟨F, m.at_⟩
  | .both _ _, _, _, ⟨F, _, _, m, _⟩ => ⟨F, m.at_⟩
  | .either _ _, _, _, ⟨F, _, _, m, _⟩ => ⟨F, m.at_⟩
def spCloT (G : Dd → Addr → Prop) (n : Nat) (f : Addr) : Sp := fun vs H Q _ => ∃ (e : Ts) (kvs : List (Str × Int)) (xs : List Str) (b : Addr) (a t : Int), vs = [.ref b, .int a, .int t] ∧ e.deep ≤ n ∧ H b = some (.lst (numsV kvs)) ∧ CloT G (namesOf kvs) e H f ∧ e.good xs ∧ Bx kvs xs ∧
  (0 ≤ a ∧ a < 1024) ∧ (0 ≤ t ∧ t < 1024) ∧ Q (.bl (e.val kvs a t)) H
section
variable {P : Program} {w : World} {K : PySem.W.Frag} {mg : Str → Option Value} {base : Heap}
theorem no_cloT {k : Nat} : FnL P w K mg base k (spCloT (DeedIs P w K mg base) 0) := fun f A outer s H us vs Q _ _ _ h => by
  obtain ⟨e, kvs, xs, b, a, t, _, hd, _⟩ := h
  cases e <;> exact absurd hd (by show ¬ _ ≤ 0; exact Nat.not_succ_le_zero _)
theorem ok_cloT {n : Nat} (G : FnL P w K mg base (n + 7) (spCloT (DeedIs P w K mg base) n)) : FnL P w K mg base (n + 8) (spCloT (DeedIs P w K mg base) (n + 1)) := by
  intro f A outer s H us vs Q hr e0 rv h
  obtain ⟨e, kvs, xs, b, a, t, rfl, hd, hb, hc, hg, B, ha, ht, q⟩ := h
  have G6 : FnL P w K mg base 7 (spClo (DeedIs P w K mg base) 6) := all_clo 6
  cases e with
  | is l r =>
    obtain ⟨⟨qu, pa, bo, sc, cl, co⟩, fl, fr, M, C, h1, h2⟩ := hc
    obtain ⟨m1, rfl, rfl, rfl, m5⟩ := M
    refine lam_run (k := n + 7) (N := ["boxes", "asked", "told", "left", "right"]) (ws := [.ref fl, .ref fr]) scIs (fun pm ctv us hl => match us, hl with | [_, _, _], _ => rfl) hr e0 m1 m5 C rv rfl fun hr =>
      ⟨_, pe_cmpR op_eq (pe_callL (i := 3) G6 (hr.mono (by omega)) rfl (.inr (.inr rfl)) (pa_cons (pv 0) (pa_cons (pv 1) (pa_cons (pv 2) pa_nil)))) (pe_callL (i := 4) G6 (hr.mono (by omega)) rfl (.inr (.inr rfl)) (pa_cons (pv 0) (pa_cons (pv 1) (pa_cons (pv 2) pa_nil)))) (nomark _), ?_⟩
    refine ⟨fl, rfl, h1.lm, _, rfl, _, rfl, _, rfl, h1.lm, l, kvs, xs, b, a, t, rfl, hg.1.2, hg.1.2, lst_hid C hb, h1, hg.1.1, B, ha, ht, ?_⟩
    refine ⟨fr, rfl, h2.lm, _, rfl, _, rfl, _, rfl, h2.lm, r, kvs, xs, b, a, t, rfl, hg.2.2, hg.2.2, lst_hid C hb, h2, hg.2.1, B, ha, ht, rfl, ?_⟩
    rw [show decide (V.int (l.val kvs a t) = V.int (r.val kvs a t)) = decide (l.val kvs a t = r.val kvs a t) from decide_eq_decide.mpr ⟨fun z => V.int.inj z, fun z => by rw [z]⟩]
    exact back q
  | bel l r =>
    obtain ⟨⟨qu, pa, bo, sc, cl, co⟩, fl, fr, M, C, h1, h2⟩ := hc
    obtain ⟨m1, rfl, rfl, rfl, m5⟩ := M
    refine lam_run (k := n + 7) (N := ["boxes", "asked", "told", "left", "right"]) (ws := [.ref fl, .ref fr]) scBe (fun pm ctv us hl => match us, hl with | [_, _, _], _ => rfl) hr e0 m1 m5 C rv rfl fun hr =>
      ⟨_, pe_cmpR op_lt (pe_callL (i := 3) G6 (hr.mono (by omega)) rfl (.inr (.inr rfl)) (pa_cons (pv 0) (pa_cons (pv 1) (pa_cons (pv 2) pa_nil)))) (pe_callL (i := 4) G6 (hr.mono (by omega)) rfl (.inr (.inr rfl)) (pa_cons (pv 0) (pa_cons (pv 1) (pa_cons (pv 2) pa_nil)))) (nomark _), ?_⟩
    refine ⟨fl, rfl, h1.lm, _, rfl, _, rfl, _, rfl, h1.lm, l, kvs, xs, b, a, t, rfl, hg.1.2, hg.1.2, lst_hid C hb, h1, hg.1.1, B, ha, ht, ?_⟩
    exact ⟨fr, rfl, h2.lm, _, rfl, _, rfl, _, rfl, h2.lm, r, kvs, xs, b, a, t, rfl, hg.2.2, hg.2.2, lst_hid C hb, h2, hg.2.1, B, ha, ht, _, _, rfl, rfl, back q⟩
  | nt x =>
    obtain ⟨⟨qu, pa, bo, sc, cl, co⟩, fi, M, C, h1⟩ := hc
    obtain ⟨m1, rfl, rfl, rfl, m5⟩ := M
    refine lam_run (k := n + 7) (N := ["boxes", "asked", "told", "inner"]) (ws := [.ref fi]) scNt (fun pm ctv us hl => match us, hl with | [_, _, _], _ => rfl) hr e0 m1 m5 C rv rfl fun hr =>
      ⟨_, pe_not (pe_callL (i := 3) G hr rfl (.inr (.inr rfl)) (pa_cons (pv 0) (pa_cons (pv 1) (pa_cons (pv 2) pa_nil)))), ?_⟩
    exact ⟨fi, rfl, h1.lm, _, rfl, _, rfl, _, rfl, h1.lm, x, kvs, xs, b, a, t, rfl, Nat.le_of_succ_le_succ hd, lst_hid C hb, h1, hg, B, ha, ht, _, rfl, back q⟩
  | both x y =>
    obtain ⟨⟨qu, pa, bo, sc, cl, co⟩, fl, fr, M, C, h1, h2⟩ := hc
    obtain ⟨m1, rfl, rfl, rfl, m5⟩ := M
    have dl : x.deep ≤ n := Nat.le_trans (Nat.le_max_left ..) (Nat.le_of_succ_le_succ hd)
    have dr : y.deep ≤ n := Nat.le_trans (Nat.le_max_right ..) (Nat.le_of_succ_le_succ hd)
    refine lam_run (k := n + 7) (N := ["boxes", "asked", "told", "first", "second"]) (ws := [.ref fl, .ref fr]) scBo (fun pm ctv us hl => match us, hl with | [_, _, _], _ => rfl) hr e0 m1 m5 C rv rfl fun hr =>
      ⟨_, pe_and (pe_callL (i := 3) G hr rfl (.inr (.inr rfl)) (pa_cons (pv 0) (pa_cons (pv 1) (pa_cons (pv 2) pa_nil)))) (pe_one (pe_callL (i := 4) G hr rfl (.inr (.inr rfl)) (pa_cons (pv 0) (pa_cons (pv 1) (pa_cons (pv 2) pa_nil))))), ?_⟩
    have z : Q (.bl (x.val kvs a t && y.val kvs a t)) H := q
    refine ⟨fl, rfl, h1.lm, _, rfl, _, rfl, _, rfl, h1.lm, x, kvs, xs, b, a, t, rfl, dl, lst_hid C hb, h1, hg.1, B, ha, ht, _, rfl, ?_⟩
    cases e1 : x.val kvs a t with
    | false => rw [e1] at z; exact itF rfl (back z)
    | true => rw [e1] at z; exact itT rfl ⟨fr, rfl, h2.lm, _, rfl, _, rfl, _, rfl, h2.lm, y, kvs, xs, b, a, t, rfl, dr, lst_hid C hb, h2, hg.2, B, ha, ht, back z⟩
  | either x y =>
    obtain ⟨⟨qu, pa, bo, sc, cl, co⟩, fl, fr, M, C, h1, h2⟩ := hc
    obtain ⟨m1, rfl, rfl, rfl, m5⟩ := M
    have dl : x.deep ≤ n := Nat.le_trans (Nat.le_max_left ..) (Nat.le_of_succ_le_succ hd)
    have dr : y.deep ≤ n := Nat.le_trans (Nat.le_max_right ..) (Nat.le_of_succ_le_succ hd)
    refine lam_run (k := n + 7) (N := ["boxes", "asked", "told", "first", "second"]) (ws := [.ref fl, .ref fr]) scEi (fun pm ctv us hl => match us, hl with | [_, _, _], _ => rfl) hr e0 m1 m5 C rv rfl fun hr =>
      ⟨_, pe_or (pe_callL (i := 3) G hr rfl (.inr (.inr rfl)) (pa_cons (pv 0) (pa_cons (pv 1) (pa_cons (pv 2) pa_nil)))) (pe_one (pe_callL (i := 4) G hr rfl (.inr (.inr rfl)) (pa_cons (pv 0) (pa_cons (pv 1) (pa_cons (pv 2) pa_nil))))), ?_⟩
    have z : Q (.bl (x.val kvs a t || y.val kvs a t)) H := q
    refine ⟨fl, rfl, h1.lm, _, rfl, _, rfl, _, rfl, h1.lm, x, kvs, xs, b, a, t, rfl, dl, lst_hid C hb, h1, hg.1, B, ha, ht, _, rfl, ?_⟩
    cases e1 : x.val kvs a t with
    | true => rw [e1] at z; exact itT rfl (back z)
    | false => rw [e1] at z; exact itF rfl ⟨fr, rfl, h2.lm, _, rfl, _, rfl, _, rfl, h2.lm, y, kvs, xs, b, a, t, rfl, dr, lst_hid C hb, h2, hg.2, B, ha, ht, back z⟩
theorem all_cloT : ∀ n : Nat, FnL P w K mg base (n + 7) (spCloT (DeedIs P w K mg base) n)
  | 0 => no_cloT
  | n + 1 => ok_cloT (all_cloT n)
end
end Any
set_option maxHeartbeats 1000000
namespace Any
open L2 PySem PySem.Spec PyProof.Rows LamX NdefX
/-! ### ready_comparison, ready_test -/
abbrev nmRC : List Str := ["kind", "left", "right"]
theorem scRC : FnScope nmRC nmRC (defScope sRC) := ⟨rfl, rfl, rfl, by decide +kernel, rfl, by decide +kernel, by decide +kernel⟩
abbrev nmRT : List Str := ["test", "owns", "kind", "inner", "first", "second"]
abbrev psRT : List Str := ["test", "owns"]
theorem scRT : FnScope nmRT psRT (defScope sRT) := ⟨rfl, rfl, rfl, by decide +kernel, rfl, by decide +kernel, by decide +kernel⟩
def qRC : Str := (envOfC "ready_comparison" (defScope sRC) 0 0 .none).qual ++ "<lambda>"
def qRT : Str := (envOfC "ready_test" (defScope sRT) 0 0 .none).qual ++ "<lambda>"
abbrev mkRC (L : Expr) (L0 c' : Addr) : LF := ⟨qRC, lamP L, lamB L, lamS L, cloFrom (cellsFrom (L0 + 1) (defScope sRC).names []) (lamS L).names [], c'⟩
abbrev mkRT (L : Expr) (L0 c' : Addr) : LF := ⟨qRT, lamP L, lamB L, lamS L, cloFrom (cellsFrom (L0 + 1) (defScope sRT).names []) (lamS L).names [], c'⟩
def spRC (T : List NTab) (G : Dd → Addr → Prop) : Sp := fun vs H Q _ => ∃ (k : Str) (fl fr : Addr) (l r : Ex) (xs : List Str), vs = [.str k, .ref fl, .ref fr] ∧ (k = "is" ∨ k = "below") ∧ CloE G xs l H fl ∧ CloE G xs r H fr ∧ TabsN T H ∧
  ∀ f H', Gr T H H' → (k = "is" → CloT G xs (.is l r) H' f) → (k = "below" → CloT G xs (.bel l r) H' f) → Q (.ref f) H'
def spRT (T : List NTab) (G : Dd → Addr → Prop) (n : Nat) : Sp := fun vs H Q _ => ∃ (v : V) (o : Addr) (e : Ts) (xs : List Str), vs = [v, .ref o] ∧ TsAt H v e ∧ e.deep ≤ n ∧ e.good xs ∧ H o = some (.lst (xs.map V.str)) ∧ TabsN T H ∧
  ∀ f H', Gr T H H' → CloT G xs e H' f → Q (.ref f) H'
theorem ext_hid {H3 H4 : Hp} (sm : Same H3 H4) {cs : List Addr} (hc : ∀ b ∈ cs, H3 b = none) : ExtN H3 (hid H4 cs) := fun b o hb _ => by
  rw [hid_out (fun z => by rw [hc b z] at hb; cases hb)]
  exact sm _ _ hb
section
variable {P : Program} {w : World} {K : PySem.W.Frag} {mg : Str → Option Value} {base : Heap} {f c Pt rw_ rc : Addr} {fd rwd rcd : FuncData} {T : List NTab}
theorem ok_rc (F : FunC K "ready_comparison" "ready_comparison" sRC f fd c) (TB : TabB base mg c Pt) (hm : (Pt, fun _ _ => qRC) ∈ T) (hu : ∀ p ∈ T, p.1 = Pt → p.2 = fun _ _ => qRC) : FnOk P w K mg base CX0 1 f fd nmRC (spRC T (DeedIs P w K mg base)) := by
  refine fun_c F scRC (fun vs H Q E h => ?_) (fun A outer s H vs Q E hr h => ?_)
  · obtain ⟨k, fl, fr, l, r, xs, rfl, _⟩ := h
    rfl
  obtain ⟨k, fl, fr, l, r, xs, rfl, hk, h1, h2, hT, q⟩ := h
  let X := cxOf CX0 P w K mg base nmRC "ready_comparison" (defScope sRC) f (.ref c) A outer s H E
  have TBx : TabB X.base X.mg c Pt := TB
  refine ⟨_, prs_cons (pr_if (pt_cmpR op_eq (pv 0) pe_str (nomark _)) (prs_one (pr_ret (pe_lamb TBx rfl hm rfl hu rfl (ndef_free (sc := defScope sRC) (fr := []) (by decide +kernel))))) prs_nil)
    (prs_one (pr_ret (pe_lamb TBx rfl hm rfl hu rfl (ndef_free (sc := defScope sRC) (fr := []) (by decide +kernel))))), ?_⟩
  rcases hk with rfl | rfl
  · refine ⟨_, rfl, rfl, _, rfl, itT eq_str ⟨hT, fun g c' H1 eN nn T1 f0 f1 c1 H2 sm R _ inj => ?_⟩⟩
    obtain ⟨C, cn⟩ := caps_ret (F := mkRC lamIs s.heap.objs.size c') (ws := [.ref fl, .ref fr]) R inj rfl scIs (by decide +kernel) rfl fun i y e => match i, e with | 0, e => by cases e; exact ⟨1, _, rfl, rfl, rfl⟩ | 1, e => by cases e; exact ⟨2, _, rfl, rfl, rfl⟩ | _ + 2, e => by cases e
    exact q g H2 ⟨eN.trans (ExtN.of sm), fun b z => nn b (same_no sm b z), T1.ext sm⟩ (fun _ => ⟨_, fl, fr, ⟨sm _ _ f1, rfl, rfl, rfl, sm _ _ c1⟩, C, (h1.ext eN).ext (ext_hid sm cn), (h2.ext eN).ext (ext_hid sm cn)⟩) fun z => absurd z (by decide)
  · refine ⟨_, rfl, rfl, _, rfl, itF (ne_str (by decide)) ⟨hT, fun g c' H1 eN nn T1 f0 f1 c1 H2 sm R _ inj => ?_⟩⟩
    obtain ⟨C, cn⟩ := caps_ret (F := mkRC lamBe s.heap.objs.size c') (ws := [.ref fl, .ref fr]) R inj rfl scBe (by decide +kernel) rfl fun i y e => match i, e with | 0, e => by cases e; exact ⟨1, _, rfl, rfl, rfl⟩ | 1, e => by cases e; exact ⟨2, _, rfl, rfl, rfl⟩ | _ + 2, e => by cases e
    exact q g H2 ⟨eN.trans (ExtN.of sm), fun b z => nn b (same_no sm b z), T1.ext sm⟩ (fun z => absurd z (by decide)) fun _ => ⟨_, fl, fr, ⟨sm _ _ f1, rfl, rfl, rfl, sm _ _ c1⟩, C, (h1.ext eN).ext (ext_hid sm cn), (h2.ext eN).ext (ext_hid sm cn)⟩
theorem no_rt {k : Nat} : FnOk P w K mg base CX0 k f fd psRT (spRT T (DeedIs P w K mg base) 0) := by
  have no : ∀ vs H Q E, ¬ spRT T (DeedIs P w K mg base) 0 vs H Q E := fun vs H Q E h => by
    obtain ⟨v, o, e, xs, _, _, hd, _⟩ := h
    cases e <;> exact absurd hd (by show ¬ _ ≤ 0; exact Nat.not_succ_le_zero _)
  exact ⟨fun vs H Q E h => absurd h (no vs H Q E), fun A outer s H args us vs Q E _ _ _ _ h => absurd h (no vs H Q E)⟩
theorem ok_rt {n : Nat} (F : FunC K "ready_test" "ready_test" sRT f fd c) (TB : TabB base mg c Pt) (hm : (Pt, fun _ _ => qRT) ∈ T) (hu : ∀ p ∈ T, p.1 = Pt → p.2 = fun _ _ => qRT) (G : FnOk P w K mg base CX0 (n + 7) f fd psRT (spRT T (DeedIs P w K mg base) n)) (mG : mg "ready_test" = some (.ref f)) (bG : Binds K fd psRT [])
    (GW : FnOk P w K mg base CX0 7 rw_ rwd psReady (spReady T (DeedIs P w K mg base) 6)) (mW : mg "ready_worth" = some (.ref rw_)) (kW : PySem.W.keepIn K (.ref rw_) = true) (bW : Binds K rwd psReady [])
    (GC : FnOk P w K mg base CX0 1 rc rcd nmRC (spRC T (DeedIs P w K mg base))) (mC : mg "ready_comparison" = some (.ref rc)) (kC : PySem.W.keepIn K (.ref rc) = true) (bC : Binds K rcd nmRC []) : FnOk P w K mg base CX0 (n + 8) f fd psRT (spRT T (DeedIs P w K mg base) (n + 1)) := by
  refine fun_c F scRT (fun vs H Q E h => ?_) (fun A outer s H vs Q E hr h => ?_)
  · obtain ⟨v, o, e, xs, rfl, _⟩ := h
    rfl
  obtain ⟨v, o, e, xs, rfl, hv, hd, hg, ho, hT, q⟩ := h
  let X := cxOf CX0 P w K mg base nmRT "ready_test" (defScope sRT) f (.ref c) A outer s H E
  have TBx : TabB X.base X.mg c Pt := TB
  have hr7 : Room 7 (A.deeper (envOfC "ready_test" (defScope sRT) s.heap.objs.size f (.ref c))) := hr.mono (by omega)
  have hr1 : Room 1 (A.deeper (envOfC "ready_test" (defScope sRT) s.heap.objs.size f (.ref c))) := hr.mono (by omega)
  have two : 2 ≤ sizeLine := by decide
  refine ⟨_, prs_cons (pr_go (ps_set (i := 2) scRT.nd rfl (Or.inl rfl) (pe_ix ix_tup (pv 0) pe_int (fun _ _ => rfl))))
    (prs_cons (pr_if (pt_cmpR op_eq (pv 2) pe_str (nomark _)) (prs_cons (pr_go (ps_set (i := 3) scRT.nd rfl (Or.inr rfl) (pe_call G hr rfl mG F.kp bG .nil pass0 (pa_cons (pe_ix ix_tup (pv 0) pe_int (fun _ _ => rfl)) (pa_cons (pv 1) pa_nil))))) (prs_one (pr_ret (pe_lamb TBx rfl hm rfl hu rfl (ndef_free (sc := defScope sRT) (fr := []) (by decide +kernel)))))) prs_nil)
    (prs_cons (pr_if (pt_cmpR op_in_seq (pv 2) (pe_tup (pa_cons pe_str (pa_cons pe_str pa_nil))) (by rfl)) (prs_one (pr_ret (pe_call GC hr1 rfl mC kC bC .nil pass0 (pa_cons (pv 2) (pa_cons (pe_call GW hr7 rfl mW kW bW .nil pass0 (pa_cons (pe_ix ix_tup (pv 0) pe_int (fun _ _ => rfl)) (pa_cons (pv 1) pa_nil))) (pa_cons (pe_call GW hr7 rfl mW kW bW .nil pass0 (pa_cons (pe_ix ix_tup (pv 0) pe_int (fun _ _ => rfl)) (pa_cons (pv 1) pa_nil))) pa_nil)))))) prs_nil)
    (prs_cons (pr_go (ps_set (i := 4) scRT.nd rfl (Or.inr rfl) (pe_call G hr rfl mG F.kp bG .nil pass0 (pa_cons (pe_ix ix_tup (pv 0) pe_int (fun _ _ => rfl)) (pa_cons (pv 1) pa_nil)))))
    (prs_cons (pr_go (ps_set (i := 5) scRT.nd rfl (Or.inr rfl) (pe_call G hr rfl mG F.kp bG .nil pass0 (pa_cons (pe_ix ix_tup (pv 0) pe_int (fun _ _ => rfl)) (pa_cons (pv 1) pa_nil)))))
    (prs_cons (pr_if (pt_cmpR op_eq (pv 2) pe_str (nomark _)) (prs_one (pr_ret (pe_lamb TBx rfl hm rfl hu rfl (ndef_free (sc := defScope sRT) (fr := []) (by decide +kernel))))) prs_nil)
    (prs_one (pr_ret (pe_lamb TBx rfl hm rfl hu rfl (ndef_free (sc := defScope sRT) (fr := []) (by decide +kernel)))))))))), ?_⟩
  cases hv with
  | nt h h1 =>
    rename_i p0 x l
    refine ⟨_, rfl, _, _, _, _, rfl, rfl, SqT.of h, atI_nat (j := 0) rfl, ?_⟩
    refine ⟨_, rfl, rfl, _, rfl, itT eq_str ?_⟩
    refine ⟨_, rfl, _, _, _, _, rfl, rfl, SqT.of h, atI_nat (j := 1) rfl, _, rfl, x, o, l, xs, rfl, h1, Nat.le_of_succ_le_succ hd, hg, ho, hT, fun fi H1 g1 cl1 => ?_⟩
    refine ⟨g1.tabs, fun g c' H2 eN nn T2 f0 f1 c1 H3 sm R _ inj => ?_⟩
    obtain ⟨C, cn⟩ := caps_ret (F := mkRT lamNt s.heap.objs.size c') (ws := [.ref fi]) R inj rfl scNt (by decide +kernel) rfl fun i y e => match i, e with | 0, e => by cases e; exact ⟨3, _, rfl, rfl, rfl⟩ | _ + 1, e => by cases e
    exact q g H3 ⟨(g1.ext.trans eN).trans (ExtN.of sm), fun b z => g1.no b (nn b (same_no sm b z)), T2.ext sm⟩ ⟨_, fi, ⟨sm _ _ f1, rfl, rfl, rfl, sm _ _ c1⟩, C, (cl1.ext eN).ext (ext_hid sm cn)⟩
  | both h h1 h2 =>
    rename_i p0 x y l r
    have dl : l.deep ≤ n := Nat.le_trans (Nat.le_max_left ..) (Nat.le_of_succ_le_succ hd)
    have dr : r.deep ≤ n := Nat.le_trans (Nat.le_max_right ..) (Nat.le_of_succ_le_succ hd)
    refine ⟨_, rfl, _, _, _, _, rfl, rfl, SqT.of h, atI_nat (j := 0) rfl, ?_⟩
    refine ⟨_, rfl, rfl, _, rfl, itF (ne_str (by decide)) ?_⟩
    refine ⟨_, rfl, two, fun p hp => ⟨p, _, rfl, .inr (SqT.of upd_same), rfl, rfl, _, rfl, itF rfl ?_⟩⟩
    have g0 := Gr.of hT (same_new hp (.tup [.str "is", .str "below"]))
    refine ⟨_, rfl, _, _, _, _, rfl, rfl, SqT.of (g0.tup h), atI_nat (j := 1) rfl, _, rfl, x, o, l, xs, rfl, h1.keep g0.tups, dl, hg.1, g0.lst ho, g0.tabs, fun fl H1 g1 cl1 => ?_⟩
    have g01 := g0.trans g1
    refine ⟨_, rfl, _, _, _, _, rfl, rfl, SqT.of (g01.tup h), atI_nat (j := 2) rfl, _, rfl, y, o, r, xs, rfl, h2.keep g01.tups, dr, hg.2, g01.lst ho, g01.tabs, fun fr H2 g2 cl2 => ?_⟩
    have g02 := g01.trans g2
    refine ⟨_, rfl, rfl, _, rfl, itT eq_str ⟨g02.tabs, fun g c' H3 eN nn T3 f0 f1 c1 H4 sm R _ inj => ?_⟩⟩
    obtain ⟨C, cn⟩ := caps_ret (F := mkRT lamBo s.heap.objs.size c') (ws := [.ref fl, .ref fr]) R inj rfl scBo (by decide +kernel) rfl fun i y e => match i, e with | 0, e => by cases e; exact ⟨4, _, rfl, rfl, rfl⟩ | 1, e => by cases e; exact ⟨5, _, rfl, rfl, rfl⟩ | _ + 2, e => by cases e
    exact q g H4 ⟨(g02.ext.trans eN).trans (ExtN.of sm), fun b z => g02.no b (nn b (same_no sm b z)), T3.ext sm⟩ ⟨_, fl, fr, ⟨sm _ _ f1, rfl, rfl, rfl, sm _ _ c1⟩, C, ((cl1.ext g2.ext).ext eN).ext (ext_hid sm cn), (cl2.ext eN).ext (ext_hid sm cn)⟩
  | either h h1 h2 =>
    rename_i p0 x y l r
    have dl : l.deep ≤ n := Nat.le_trans (Nat.le_max_left ..) (Nat.le_of_succ_le_succ hd)
    have dr : r.deep ≤ n := Nat.le_trans (Nat.le_max_right ..) (Nat.le_of_succ_le_succ hd)
    refine ⟨_, rfl, _, _, _, _, rfl, rfl, SqT.of h, atI_nat (j := 0) rfl, ?_⟩
    refine ⟨_, rfl, rfl, _, rfl, itF (ne_str (by decide)) ?_⟩
    refine ⟨_, rfl, two, fun p hp => ⟨p, _, rfl, .inr (SqT.of upd_same), rfl, rfl, _, rfl, itF rfl ?_⟩⟩
    have g0 := Gr.of hT (same_new hp (.tup [.str "is", .str "below"]))
    refine ⟨_, rfl, _, _, _, _, rfl, rfl, SqT.of (g0.tup h), atI_nat (j := 1) rfl, _, rfl, x, o, l, xs, rfl, h1.keep g0.tups, dl, hg.1, g0.lst ho, g0.tabs, fun fl H1 g1 cl1 => ?_⟩
    have g01 := g0.trans g1
    refine ⟨_, rfl, _, _, _, _, rfl, rfl, SqT.of (g01.tup h), atI_nat (j := 2) rfl, _, rfl, y, o, r, xs, rfl, h2.keep g01.tups, dr, hg.2, g01.lst ho, g01.tabs, fun fr H2 g2 cl2 => ?_⟩
    have g02 := g01.trans g2
    refine ⟨_, rfl, rfl, _, rfl, itF (ne_str (by decide)) ⟨g02.tabs, fun g c' H3 eN nn T3 f0 f1 c1 H4 sm R _ inj => ?_⟩⟩
    obtain ⟨C, cn⟩ := caps_ret (F := mkRT lamEi s.heap.objs.size c') (ws := [.ref fl, .ref fr]) R inj rfl scEi (by decide +kernel) rfl fun i y e => match i, e with | 0, e => by cases e; exact ⟨4, _, rfl, rfl, rfl⟩ | 1, e => by cases e; exact ⟨5, _, rfl, rfl, rfl⟩ | _ + 2, e => by cases e
    exact q g H4 ⟨(g02.ext.trans eN).trans (ExtN.of sm), fun b z => g02.no b (nn b (same_no sm b z)), T3.ext sm⟩ ⟨_, fl, fr, ⟨sm _ _ f1, rfl, rfl, rfl, sm _ _ c1⟩, C, ((cl1.ext g2.ext).ext eN).ext (ext_hid sm cn), (cl2.ext eN).ext (ext_hid sm cn)⟩
  | is h h1 h2 =>
    rename_i p0 x y l r
    refine ⟨_, rfl, _, _, _, _, rfl, rfl, SqT.of h, atI_nat (j := 0) rfl, ?_⟩
    refine ⟨_, rfl, rfl, _, rfl, itF (ne_str (by decide)) ?_⟩
    refine ⟨_, rfl, two, fun p hp => ⟨p, _, rfl, .inr (SqT.of upd_same), rfl, rfl, _, rfl, itT rfl ?_⟩⟩
    have g0 := Gr.of hT (same_new hp (.tup [.str "is", .str "below"]))
    refine ⟨_, rfl, _, rfl, _, _, _, _, rfl, rfl, SqT.of (g0.tup h), atI_nat (j := 1) rfl, _, rfl, x, o, l, xs, rfl, h1.keep g0.tups, hg.1.2, hg.1.1, g0.lst ho, g0.tabs, fun fl H1 g1 cl1 => ?_⟩
    have g01 := g0.trans g1
    refine ⟨_, rfl, _, _, _, _, rfl, rfl, SqT.of (g01.tup h), atI_nat (j := 2) rfl, _, rfl, y, o, r, xs, rfl, h2.keep g01.tups, hg.2.2, hg.2.1, g01.lst ho, g01.tabs, fun fr H2 g2 cl2 => ?_⟩
    have g02 := g01.trans g2
    refine ⟨"is", fl, fr, l, r, xs, rfl, .inl rfl, cl1.ext g2.ext, cl2, g02.tabs, fun g H3 g3 c3 _ H4 sm _ _ _ => ?_⟩
    exact q g H4 ((g02.trans g3).same sm) ((c3 rfl).ext (ExtN.of sm))
  | bel h h1 h2 =>
    rename_i p0 x y l r
    refine ⟨_, rfl, _, _, _, _, rfl, rfl, SqT.of h, atI_nat (j := 0) rfl, ?_⟩
    refine ⟨_, rfl, rfl, _, rfl, itF (ne_str (by decide)) ?_⟩
    refine ⟨_, rfl, two, fun p hp => ⟨p, _, rfl, .inr (SqT.of upd_same), rfl, rfl, _, rfl, itT rfl ?_⟩⟩
    have g0 := Gr.of hT (same_new hp (.tup [.str "is", .str "below"]))
    refine ⟨_, rfl, _, rfl, _, _, _, _, rfl, rfl, SqT.of (g0.tup h), atI_nat (j := 1) rfl, _, rfl, x, o, l, xs, rfl, h1.keep g0.tups, hg.1.2, hg.1.1, g0.lst ho, g0.tabs, fun fl H1 g1 cl1 => ?_⟩
    have g01 := g0.trans g1
    refine ⟨_, rfl, _, _, _, _, rfl, rfl, SqT.of (g01.tup h), atI_nat (j := 2) rfl, _, rfl, y, o, r, xs, rfl, h2.keep g01.tups, hg.2.2, hg.2.1, g01.lst ho, g01.tabs, fun fr H2 g2 cl2 => ?_⟩
    have g02 := g01.trans g2
    refine ⟨"below", fl, fr, l, r, xs, rfl, .inr rfl, cl1.ext g2.ext, cl2, g02.tabs, fun g H3 g3 _ c3 H4 sm _ _ _ => ?_⟩
    exact q g H4 ((g02.trans g3).same sm) ((c3 rfl).ext (ExtN.of sm))
theorem all_rt (F : FunC K "ready_test" "ready_test" sRT f fd c) (TB : TabB base mg c Pt) (hm : (Pt, fun _ _ => qRT) ∈ T) (hu : ∀ p ∈ T, p.1 = Pt → p.2 = fun _ _ => qRT) (mG : mg "ready_test" = some (.ref f)) (bG : Binds K fd psRT [])
    (GW : FnOk P w K mg base CX0 7 rw_ rwd psReady (spReady T (DeedIs P w K mg base) 6)) (mW : mg "ready_worth" = some (.ref rw_)) (kW : PySem.W.keepIn K (.ref rw_) = true) (bW : Binds K rwd psReady [])
    (GC : FnOk P w K mg base CX0 1 rc rcd nmRC (spRC T (DeedIs P w K mg base))) (mC : mg "ready_comparison" = some (.ref rc)) (kC : PySem.W.keepIn K (.ref rc) = true) (bC : Binds K rcd nmRC []) : ∀ n : Nat, FnOk P w K mg base CX0 (n + 7) f fd psRT (spRT T (DeedIs P w K mg base) n)
  | 0 => no_rt
  | n + 1 => ok_rt F TB hm hu (all_rt F TB hm hu mG bG GW mW kW bW GC mC kC bC n) mG bG GW mW kW bW GC mC kC bC
end
/-! ### holds -/
abbrev sHolds : Stmt := top 8
abbrev nmHolds : List Str := ["test", "boxes", "asked", "told", "holds_by"]
abbrev psH : List Str := ["test", "boxes", "asked", "told"]
theorem scHolds : FnScope nmHolds psH (defScope sHolds) := ⟨rfl, rfl, rfl, by decide +kernel, rfl, by decide +kernel, by decide +kernel⟩
def spHolds (T : List NTab) (n : Nat) : Sp := fun vs H Q _ => ∃ (v : V) (c : Addr) (e : Ts) (kvs : List (Str × Int)) (xs : List Str) (a t : Int), vs = [v, .ref c, .int a, .int t] ∧ TsAt H v e ∧ e.deep ≤ n ∧ e.good xs ∧ Bx kvs xs ∧
  H c = some (.dK (bx kvs)) ∧ (0 ≤ a ∧ a < 1024) ∧ (0 ≤ t ∧ t < 1024) ∧ TabsN T H ∧ ∀ H', Gr T H H' → Q (.bl (e.val kvs a t)) H'
theorem Ts.good_of {kvs : List (Str × Int)} {xs : List Str} (B : Bx kvs xs) : ∀ {e : Ts}, e.good xs → e.good (namesOf kvs)
  | .is _ _, h => ⟨⟨Ex.good_of B h.1.1, h.1.2⟩, Ex.good_of B h.2.1, h.2.2⟩
  | .bel _ _, h => ⟨⟨Ex.good_of B h.1.1, h.1.2⟩, Ex.good_of B h.2.1, h.2.2⟩
  | .nt t, h => Ts.good_of (e := t) B h
  | .both _ _, h => ⟨Ts.good_of B h.1, Ts.good_of B h.2⟩
  | .either _ _, h => ⟨Ts.good_of B h.1, Ts.good_of B h.2⟩
section
variable {P : Program} {w : World} {K : PySem.W.Frag} {mg : Str → Option Value} {base : Heap} {f rf : Addr} {fd rd : FuncData} {T : List NTab}
theorem ok_holds {n : Nat} {kws : List (Str × V)} (F : FunD K "holds" "holds" (defArgs sHolds) (defBody sHolds) (defScope sHolds) [] kws f fd) (G : FnOk P w K mg base CX0 (n + 7) rf rd psRT (spRT T (DeedIs P w K mg base) n)) (mR : mg "ready_test" = some (.ref rf)) (kR : PySem.W.keepIn K (.ref rf) = true) (bR : Binds K rd psRT [])
    (ml : mg "list" = none) : FnOk P w K mg base CX0 (n + 8) f fd psH (spHolds T n) := by
  refine F.ok scHolds (fun vs H Q E h => ?_) (fun cdv A outer s H vs Q E hr h => ?_)
  · obtain ⟨v, c, e, kvs, xs, a, t, rfl, _⟩ := h
    rfl
  obtain ⟨v, c, e, kvs, xs, a, t, rfl, hv, hd, hg, B, hc, ha, ht, hT, q⟩ := h
  refine ⟨_, PSs.nox (pss_cons (ps_set (i := 4) scHolds.nd rfl (Or.inl rfl) (pe_call G hr rfl mR kR bR .nil pass0 (pa_cons (pv 0) (pa_cons (pe_callTy (call_listD rfl) rfl ml (by decide +kernel) (pa_cons (pv 1) pa_nil)) pa_nil))))
    (pss_one (ps_ret (pe_callL (i := 4) (all_cloT n) hr rfl (.inl rfl) (pa_cons (pe_listVals rfl (pv 1) rfl ml (by decide +kernel)) (pa_cons (pv 2) (pa_cons (pv 3) pa_nil))))))), ?_⟩
  refine ⟨_, rfl, _, rfl, c, _, rfl, .inl hc, fun p1 hp1 => ?_⟩
  rw [bx_names]
  have s1 := same_new hp1 (.lst ((namesOf kvs).map V.str))
  refine ⟨v, p1, e, namesOf kvs, rfl, hv.keep (Same.tups s1), hd, Ts.good_of B hg, upd_same, hT.ext s1, fun g H2 g2 cl => ?_⟩
  have gr := (Gr.of hT s1).trans g2
  refine ⟨g, rfl, cl.lm, _, rfl, c, _, rfl, gr.dK hc, fun p3 hp3 => ?_⟩
  rw [bx_nums]
  have s3 := same_new hp3 (.lst (numsV kvs))
  have cl3 := cl.ext (ExtN.of s3)
  exact ⟨_, rfl, _, rfl, cl3.lm, e, kvs, xs, p3, a, t, rfl, hd, upd_same, cl3, hg, B, ha, ht, q _ (gr.same s3)⟩
theorem kb_holds {kws : List (Str × V)} (F : FunD K "holds" "holds" (defArgs sHolds) (defBody sHolds) (defScope sHolds) [] kws f fd) : KBn K fd psH 2 ["asked", "told"] (fun us ws => us ++ ws) (fun us ws => us ++ ws) := by
  obtain ⟨oc, od, dV, kV, doc, pm, an, cdv, ct, osl, rfl, lk, hcd, hD, hK⟩ := F.ex
  have hd : dV = .none := hD.elim (fun z => z.2) (fun z => absurd rfl z.1)
  subst hd
  refine ⟨fun s us ws _ l1 l2 => ?_, fun r1 r2 => r1.append r2⟩
  match us, ws, l1, l2 with
  | [u1, u2], [w1, w2], _, _ => exact .of_eq rfl
end
end Any
namespace Any
open L2 PySem PySem.Spec PyProof.Rows LamX NdefX
abbrev sBag : Stmt := top 78
abbrev sTake : Stmt := top 79
abbrev sOf : Stmt := top 80
/-- a bag: what is left, its seed, how often it was asked -/
def Bag (H : Hp) (b : Addr) (n : Nat) : Prop := ∃ g s c : Int, H b = some (.lst [.int g, .int s, .int c]) ∧ 0 ≤ g ∧ 0 ≤ s ∧ s < 2 ^ 62 ∧ 0 ≤ c ∧ c ≤ n
theorem Bag.more {H : Hp} {b : Addr} {m n : Nat} (h : Bag H b m) (k : m ≤ n) : Bag H b n := by
  obtain ⟨g, s, c, h1, h2, h3, h4, h5, h6⟩ := h
  exact ⟨g, s, c, h1, h2, h3, h4, h5, by omega⟩
theorem Bag.keep {H H' : Hp} {b : Addr} {n : Nat} (h : Bag H b n) (k : Same H H') : Bag H' b n := by
  obtain ⟨g, s, c, h1, h2⟩ := h
  exact ⟨g, s, c, k _ _ h1, h2⟩
theorem Bag.lst {H : Hp} {b : Addr} {n : Nat} (h : Bag H b n) : ∃ xs, H b = some (.lst xs) := by
  obtain ⟨g, s, c, h1, h2⟩ := h
  exact ⟨_, h1⟩
theorem Bag.tups {H H' : Hp} {b : Addr} {n : Nat} (h : Bag H b n) (k : Kept b H H') : Tups H H' := by
  obtain ⟨xs, h⟩ := h.lst
  exact k.tups h
theorem Bag.ne {H : Hp} {b p : Addr} {n : Nat} (h : Bag H b n) (k : H p = none) : p ≠ b := by
  obtain ⟨xs, h⟩ := h.lst
  intro e
  rw [e, h] at k
  cases k
def spBag (K : PySem.W.Frag) : Sp := fun vs H Q _ => ∃ (a : Addr) (ns : List Int) (k : Int), vs = [.ref a, .int k] ∧ SqL K H a (ns.map V.int) ∧ 0 ≤ k ∧ k < 64 ∧ ∀ (b : Addr) (H' : Hp), H b = none → Same H H' → Bag H' b 0 → Q (.ref b) H'
def spTake : Sp := fun vs H Q _ => ∃ (b : Addr) (m : Int) (n : Nat), vs = [.ref b, .int m] ∧ Bag H b n ∧ n + 1 < 2 ^ 40 ∧ 1 ≤ m ∧ m ≤ 1000 ∧
  ∀ (d : Int) (H' : Hp), Kept b H H' → Bag H' b (n + 1) → 0 ≤ d → d < m → Q (.int d) H'
def spOf : Sp := fun vs H Q _ => ∃ (b l : Addr) (xs : List V) (n : Nat), vs = [.ref b, .ref l] ∧ Bag H b n ∧ n + 1 < 2 ^ 40 ∧ H l = some (.lst xs) ∧ l ≠ b ∧ 1 ≤ xs.length ∧ xs.length ≤ 1000 ∧
  ∀ (v : V) (H' : Hp), Kept b H H' → Bag H' b (n + 1) → v ∈ xs → Q v H'
theorem scBag : FnScope ["_law_script", "_law_at", "_law_cell", "_law_great", "_law_seed"] ["_law_script", "_law_at"] (defScope sBag) := ⟨rfl, rfl, rfl, by decide +kernel, rfl, by decide +kernel, by decide +kernel⟩
theorem scTake : FnScope ["_law_bag_here", "_law_many", "_law_digit", "_law_primes", "_law_step", "_law_base", "_law_mixed_here", "_law_more"] ["_law_bag_here", "_law_many"] (defScope sTake) :=
  ⟨rfl, rfl, rfl, by decide +kernel, rfl, by decide +kernel, by decide +kernel⟩
theorem scOf : FnScope ["_law_bag_here", "_law_some"] ["_law_bag_here", "_law_some"] (defScope sOf) := ⟨rfl, rfl, rfl, by decide +kernel, rfl, by decide +kernel, by decide +kernel⟩
theorem small {n : Nat} (h : n ≤ 1000) : n ≤ sizeLine := Nat.le_of_lt (small1000 h)
section
variable {P : Program} {w : World} {K : PySem.W.Frag} {mg : Str → Option Value} {base : Heap} {f : Addr} {fd : FuncData}
theorem ok_bag (F : Fun K "_law_bag" "_law_bag" sBag f fd) (ml : mg "len" = none) (ma : mg "abs" = none) (mi : mg "int" = none) : FnOk P w K mg base CX0 1 f fd ["_law_script", "_law_at"] (spBag K) := by
  refine F.ok scBag (fun vs H Q E h => ?_) (fun cdv A outer s H vs Q E hr h => ?_)
  · obtain ⟨a, ns, k, rfl, _⟩ := h
    rfl
  obtain ⟨a, ns, k, rfl, hS, h0, h1, q⟩ := h
  refine ⟨_, pss_cons (ps_set (i := 2) scBag.nd rfl (Or.inl rfl) pe_int)
    (pss_cons (ps_if (pt_cmpR op_lt (pv 1) (pe_callB call_len_seq rfl ml PySem.boot_len (pa_cons (pv 0) pa_nil)) (nomark _)) (pss_one (ps_set (i := 2) scBag.nd rfl (Or.inl rfl) (pe_ix ix_list (pv 0) (pv 1) (fun _ _ => rfl)))) pss_nil)
    (pss_cons (ps_set (i := 3) scBag.nd rfl (Or.inl rfl) (pe_callB call_abs rfl ma (by decide +kernel) (pa_cons (pv 2) pa_nil)))
    (pss_cons (ps_set (i := 4) scBag.nd rfl (Or.inl rfl) (pe_op op_add (pe_op op_add (pe_op op_add (pe_op op_mod (pv 2) pe_int) (pe_op op_mul (pe_op op_mul pe_int (pv 1)) (pv 1))) (pe_op op_mul pe_int (pv 1))) pe_int))
    (pss_one (ps_ret (pe_lst (pa_cons (pe_op op_mul (pv 3) (pe_callTy call_int1 rfl mi (by decide +kernel) (pa_cons (pe_cmpR op_ge (pv 3) (pe_op op_pow pe_int pe_int) (nomark _)) pa_nil))) (pa_cons (pv 4) (pa_cons pe_int pa_nil))))))))), ?_⟩
  have fin : ∀ cell : Int, ∀ (b : Addr), H b = none → Q (.ref b) (upd H b (.lst [.int ((if cell < 0 then -cell else cell) * (if decide ((10 : Int) ^ (18 : Int).toNat ≤ (if cell < 0 then -cell else cell)) = true then 1 else 0)), .int (cell % 2305843009213693951 + 9973 * k * k + 101 * k + 11), .int 0])) := fun cell b hb => by
    refine q b _ hb (same_new hb _) ⟨_, _, _, upd_same, ?_, ?_, ?_, Int.le_refl 0, Int.le_refl 0⟩
    · refine Int.mul_nonneg (by split <;> omega) (by split <;> omega)
    · have z := Int.emod_nonneg cell (show (2305843009213693951 : Int) ≠ 0 by decide)
      have z2 : 0 ≤ 9973 * k * k := Int.mul_nonneg (Int.mul_nonneg (by decide) h0) h0
      omega
    · have z := Int.emod_lt_of_pos cell (show (0 : Int) < 2305843009213693951 by decide)
      have z2 : 9973 * k * k ≤ 9973 * 64 * 64 := by
        have a1 : 9973 * k ≤ 9973 * 64 := by omega
        have a2 : 9973 * k * k ≤ 9973 * 64 * k := Int.mul_le_mul_of_nonneg_right a1 h0
        have a3 : 9973 * 64 * k ≤ 9973 * 64 * 64 := by omega
        omega
      omega
  have one : ∀ c : Bool, -(2 ^ 64) < (if c = true then (1 : Int) else 0) ∧ (if c = true then (1 : Int) else 0) < 2 ^ 64 := fun c => by cases c <;> decide
  refine ⟨_, rfl, _, rfl, a, _, rfl, .inl hS, _, _, rfl, rfl, _, rfl, ?_⟩
  refine ite2 (fun c => ?_) (fun c => ?_)
  · have c' : k < (((ns.map V.int).length : Nat) : Int) := of_decide_eq_true c
    rw [List.length_map] at c'
    have hk : k.toNat < ns.length := by omega
    have ek : k = ((k.toNat : Nat) : Int) := by omega
    have q2 : atI (ns.map V.int) ((k.toNat : Nat) : Int) = some (.int ns[k.toNat]) := atI_nat (by rw [List.getElem?_map, List.getElem?_eq_getElem hk]; rfl)
    rw [← ek] at q2
    refine ⟨_, rfl, _, rfl, a, _, _, _, rfl, rfl, hS, q2, ?_⟩
    refine ⟨_, rfl, _, rfl, ?_⟩
    refine ⟨_, rfl, _, _, rfl, rfl, (by show (0 : Int) < 2305843009213693951; decide), _, rfl, _, _, rfl, rfl, .inl ⟨by decide, by decide⟩, _, rfl, _, _, rfl, rfl, .inl ⟨by omega, by omega⟩, _, _, rfl, rfl, ?_⟩
    refine ⟨_, rfl, _, _, rfl, rfl, .inl ⟨by decide, by decide⟩, _, _, rfl, rfl, _, _, rfl, rfl, ?_⟩
    refine ⟨_, rfl, _, rfl, _, _, rfl, rfl, ⟨by decide, by decide, by decide⟩, _, _, rfl, rfl, .inr ⟨_, rfl, _, _, rfl, rfl, .inr (one _), _, rfl, (by show 3 ≤ sizeLine; decide), fun p hp => ?_⟩⟩
    exact fin _ p hp
  · refine ⟨_, rfl, _, rfl, ?_⟩
    refine ⟨_, rfl, _, _, rfl, rfl, (by show (0 : Int) < 2305843009213693951; decide), _, rfl, _, _, rfl, rfl, .inl ⟨by decide, by decide⟩, _, rfl, _, _, rfl, rfl, .inl ⟨by omega, by omega⟩, _, _, rfl, rfl, ?_⟩
    refine ⟨_, rfl, _, _, rfl, rfl, .inl ⟨by decide, by decide⟩, _, _, rfl, rfl, _, _, rfl, rfl, ?_⟩
    refine ⟨_, rfl, _, rfl, _, _, rfl, rfl, ⟨by decide, by decide, by decide⟩, _, _, rfl, rfl, .inr ⟨_, rfl, _, _, rfl, rfl, .inr (one _), _, rfl, (by show 3 ≤ sizeLine; decide), fun p hp => ?_⟩⟩
    exact fin 0 p hp

def primes : List Int := [2147483647, 2147483629, 2147483587, 2147483579, 2147483563, 2147483549, 2147483543]
theorem prime_at {r : Int} (h0 : 0 ≤ r) (h1 : r < 7) : ∃ p : Int, atI (primes.map V.int) r = some (.int p) ∧ 0 < p ∧ p < 2 ^ 31 := by
  have : r = 0 ∨ r = 1 ∨ r = 2 ∨ r = 3 ∨ r = 4 ∨ r = 5 ∨ r = 6 := by omega
  rcases this with rfl | rfl | rfl | rfl | rfl | rfl | rfl <;> exact ⟨_, rfl, by decide, by decide⟩
theorem base_bits {s c : Int} (h1 : 0 ≤ s) (h2 : s < 2 ^ 62) (h3 : 0 ≤ c) (h4 : c < 2 ^ 40) : CPowW (s * (2 * c + 1) + 7001 * c * c + 53) 3 := by
  refine ⟨by decide, ?_⟩
  have a1 : 0 ≤ s * (2 * c + 1) := Int.mul_nonneg h1 (by omega)
  have a2 : s * (2 * c + 1) ≤ 2 ^ 62 * 2 ^ 42 := Int.mul_le_mul (by omega) (by omega) (by omega) (by decide)
  have a3 : 0 ≤ 7001 * c * c := Int.mul_nonneg (by omega) h3
  have a4 : 7001 * c * c ≤ 2 ^ 53 * 2 ^ 40 := Int.mul_le_mul (by omega) (by omega) h3 (by decide)
  have b : (s * (2 * c + 1) + 7001 * c * c + 53).natAbs < 2 ^ 110 := by
    generalize s * (2 * c + 1) = x at *
    generalize 7001 * c * c = y at *
    omega
  have c1 := intBits_le b
  omega
theorem ok_take (F : Fun K "_law_take" "_law_take" sTake f fd) : FnOk P w K mg base CX0 1 f fd ["_law_bag_here", "_law_many"] spTake := by
  refine F.ok scTake (fun vs H Q E h => ?_) (fun cdv A outer s H vs Q E hr h => ?_)
  · obtain ⟨b, m, n, rfl, _⟩ := h
    rfl
  obtain ⟨b, m, n, rfl, ⟨g, sd, c, hb, hg, hs0, hs1, hc0, hc1⟩, hn, hm0, hm1, q⟩ := h
  refine ⟨_, pss_cons (ps_if (pt_cmpR op_gt (pe_ix ix_list (pv 0) pe_int (fun _ _ => rfl)) pe_int (nomark _))
      (pss_cons (ps_set (i := 2) scTake.nd rfl (Or.inl rfl) (pe_op op_mod (pe_ix ix_list (pv 0) pe_int (fun _ _ => rfl)) (pv 1)))
      (pss_cons (ps_asg (pe_op op_fdiv (pe_ix ix_list (pv 0) pe_int (fun _ _ => rfl)) (pv 1)) (pg_sub (pv 0) pe_int set_list))
      (pss_one (ps_ret (pv 2))))) pss_nil)
    (pss_cons (ps_set (i := 3) scTake.nd rfl (Or.inl rfl) (pe_tup (pa_cons pe_int (pa_cons pe_int (pa_cons pe_int (pa_cons pe_int (pa_cons pe_int (pa_cons pe_int (pa_cons pe_int pa_nil)))))))))
    (pss_cons (ps_asg (pe_op op_add (pe_ix ix_list (pv 0) pe_int (fun _ _ => rfl)) pe_int) (pg_sub (pv 0) pe_int set_list))
    (pss_cons (ps_set (i := 4) scTake.nd rfl (Or.inl rfl) (pe_ix ix_list (pv 0) pe_int (fun _ _ => rfl)))
    (pss_cons (ps_set (i := 5) scTake.nd rfl (Or.inl rfl) (pe_op op_add (pe_op op_add (pe_op op_mul (pe_ix ix_list (pv 0) pe_int (fun _ _ => rfl)) (pe_op op_add (pe_op op_mul pe_int (pv 4)) pe_int)) (pe_op op_mul (pe_op op_mul pe_int (pv 4)) (pv 4))) pe_int))
    (pss_cons (ps_set (i := 6) scTake.nd rfl (Or.inl rfl) (pe_op op_mod (pe_op op_powW (pv 5) pe_int) (pe_ix ix_tup (pv 3) (pe_op op_mod (pv 4) pe_int) (fun _ _ => rfl))))
    (pss_cons (ps_set (i := 7) scTake.nd rfl (Or.inl rfl) (pe_op op_add (pe_op op_add (pe_op op_fdiv (pv 6) pe_int) (pe_op op_mul pe_int (pv 4))) pe_int))
    (pss_one (ps_ret (pe_op op_mod (pe_op op_fdiv (pe_op op_mod (pe_op op_mul (pv 6) (pv 7)) (pe_ix ix_tup (pv 3) (pe_op op_mod (pe_op op_add (pv 4) pe_int) pe_int) (fun _ _ => rfl))) pe_int) (pv 1)))))))))), ?_⟩
  refine ⟨_, rfl, b, _, _, _, rfl, rfl, SqL.of hb, atI_nat (j := 0) rfl, _, _, rfl, rfl, _, rfl, ?_⟩
  refine ite2 (fun c' => ?_) (fun c' => ?_)
  · refine ⟨_, rfl, b, _, _, _, rfl, rfl, SqL.of hb, atI_nat (j := 0) rfl, _, rfl, _, _, rfl, rfl, (by omega), ?_⟩
    refine ⟨_, rfl, b, _, _, _, rfl, rfl, SqL.of hb, atI_nat (j := 0) rfl, _, rfl, _, _, rfl, rfl, ⟨by omega, by omega⟩, ?_⟩
    refine ⟨_, rfl, b, _, _, 0, rfl, rfl, hb, rfl, ?_⟩
    refine ⟨_, rfl, q _ _ (Kept.put _) ⟨_, _, _, upd_same, ?_, hs0, hs1, hc0, by omega⟩ (Int.emod_nonneg _ (by omega)) (Int.emod_lt_of_pos _ (by omega))⟩
    exact Int.ediv_nonneg hg (by omega)
  · refine ⟨(by show 7 ≤ sizeLine; decide), fun p hp => ?_⟩
    have bp : b ≠ p := ne_of_none hb hp
    have hb1 : upd H p (.tup (primes.map V.int)) b = some (.lst [.int g, .int sd, .int c]) := by rw [upd_ne bp]; exact hb
    refine ⟨_, rfl, b, _, _, _, rfl, rfl, SqL.of hb1, atI_nat (j := 2) rfl, _, _, rfl, rfl, ?_⟩
    refine ⟨_, rfl, b, _, _, 2, rfl, rfl, hb1, rfl, ?_⟩
    have hb2 : upd (upd H p (.tup (primes.map V.int))) b (.lst [.int g, .int sd, .int (c + 1)]) b = some (.lst [.int g, .int sd, .int (c + 1)]) := upd_same
    have hp2 : upd (upd H p (.tup (primes.map V.int))) b (.lst [.int g, .int sd, .int (c + 1)]) p = some (.tup (primes.map V.int)) := by rw [upd_ne bp.symm]; exact upd_same
    have kept : Kept b H (upd (upd H p (.tup (primes.map V.int))) b (.lst [.int g, .int sd, .int (c + 1)])) := (Kept.new hp _).trans (Kept.put _)
    have bag : Bag (upd (upd H p (.tup (primes.map V.int))) b (.lst [.int g, .int sd, .int (c + 1)])) b (n + 1) := ⟨_, _, _, hb2, hg, hs0, hs1, by omega, by omega⟩
    have c0 : 0 ≤ c + 1 := by omega
    have c1 : c + 1 < 2 ^ 40 := by omega
    refine ⟨_, rfl, b, _, _, _, rfl, rfl, SqL.of hb2, atI_nat (j := 2) rfl, ?_⟩
    refine ⟨_, rfl, b, _, _, _, rfl, rfl, SqL.of hb2, atI_nat (j := 1) rfl, _, rfl, _, _, rfl, rfl, .inl ⟨by decide, by decide⟩, _, _, rfl, rfl, _, _, rfl, rfl, .inl ⟨by omega, by omega⟩, ?_⟩
    refine ⟨_, rfl, _, _, rfl, rfl, .inl ⟨by decide, by decide⟩, _, rfl, _, _, rfl, rfl, .inl ⟨by omega, by omega⟩, _, _, rfl, rfl, _, _, rfl, rfl, ?_⟩
    obtain ⟨p1, e1, p10, p11⟩ := prime_at (r := (c + 1) % 7) (by omega) (by omega)
    refine ⟨_, rfl, _, _, rfl, rfl, base_bits hs0 hs1 c0 c1, _, rfl, _, rfl, _, _, rfl, rfl, (by show (0 : Int) < 7; decide), p, _, _, _, rfl, rfl, SqT.of hp2, e1, _, _, rfl, rfl, p10, ?_⟩
    have m0 := Int.emod_nonneg ((sd * (2 * (c + 1) + 1) + 7001 * (c + 1) * (c + 1) + 53) ^ Int.toNat 3) (show p1 ≠ 0 by omega)
    have m1 := Int.emod_lt_of_pos ((sd * (2 * (c + 1) + 1) + 7001 * (c + 1) * (c + 1) + 53) ^ Int.toNat 3) p10
    have m2 : -(2 ^ 64) < (sd * (2 * (c + 1) + 1) + 7001 * (c + 1) * (c + 1) + 53) ^ Int.toNat 3 % p1 ∧ (sd * (2 * (c + 1) + 1) + 7001 * (c + 1) * (c + 1) + 53) ^ Int.toNat 3 % p1 < 2 ^ 64 := by
      generalize (sd * (2 * (c + 1) + 1) + 7001 * (c + 1) * (c + 1) + 53) ^ Int.toNat 3 % p1 = mx at *
      omega
    refine ⟨_, rfl, _, _, rfl, rfl, ⟨by decide, by decide⟩, _, rfl, _, _, rfl, rfl, .inl ⟨by decide, by decide⟩, _, _, rfl, rfl, _, _, rfl, rfl, ?_⟩
    obtain ⟨p2, e2, p20, p21⟩ := prime_at (r := (c + 1 + 3) % 7) (by omega) (by omega)
    refine ⟨_, rfl, _, rfl, _, _, rfl, rfl, .inl m2, _, rfl, _, rfl, _, _, rfl, rfl, _, _, rfl, rfl, (by show (0 : Int) < 7; decide), p, _, _, _, rfl, rfl, SqT.of hp2, e2, _, _, rfl, rfl, p20, _, _, rfl, rfl, ⟨by decide, by decide⟩, _, rfl, _, _, rfl, rfl, (by omega), ?_⟩
    exact q _ _ kept bag (Int.emod_nonneg _ (by omega)) (Int.emod_lt_of_pos _ (by omega))
theorem ok_of {t : Addr} {td : FuncData} (F : Fun K "_law_of" "_law_of" sOf f fd) (G : FnOk P w K mg base CX0 1 t td ["_law_bag_here", "_law_many"] spTake) (bG : Binds K td ["_law_bag_here", "_law_many"] []) (kG : PySem.W.keepIn K (.ref t) = true) (mG : mg "_law_take" = some (.ref t)) (ml : mg "len" = none) :
    FnOk P w K mg base CX0 2 f fd ["_law_bag_here", "_law_some"] spOf := by
  refine F.ok scOf (fun vs H Q E h => ?_) (fun cdv A outer s H vs Q E hr h => ?_)
  · obtain ⟨b, l, xs, n, rfl, _⟩ := h
    rfl
  obtain ⟨b, l, xs, n, rfl, hB, hn, hl, hne, h1, h2, q⟩ := h
  refine ⟨_, pss_one (ps_ret (pe_ix ix_list (pv 1) (pe_call G hr rfl mG kG bG .nil pass0 (pa_cons (pv 0) (pa_cons (pe_callB call_len_seq rfl ml PySem.boot_len (pa_cons (pv 1) pa_nil)) pa_nil))) (fun _ _ => rfl))), ?_⟩
  refine ⟨_, rfl, _, rfl, _, rfl, l, _, rfl, .inl (SqL.of hl), b, _, n, rfl, hB, hn, by omega, by omega, fun d H' k B' d0 d1 => ?_⟩
  have hd : d.toNat < xs.length := by omega
  have e : atI xs d = some xs[d.toNat] := by
    have z : atI xs ((d.toNat : Nat) : Int) = some xs[d.toNat] := atI_nat (List.getElem?_eq_getElem hd)
    rwa [show ((d.toNat : Nat) : Int) = d by omega] at z
  exact ⟨l, _, _, _, rfl, rfl, SqL.of (k _ _ hne hl), e, q _ _ k B' (List.getElem_mem hd)⟩
end
end Any
namespace Any
open L2 PySem PySem.Spec PyProof.Rows LamX NdefX
abbrev sLw : Stmt := top 82
theorem scLw : FnScope ["_law_some", "_law_crates", "_law_wish", "_law_reply", "_law_word", "_law_one", "_law_other"] ["_law_some", "_law_crates", "_law_wish", "_law_reply"] (defScope sLw) :=
  ⟨rfl, rfl, rfl, by decide +kernel, rfl, by decide +kernel, by decide +kernel⟩
def spLw (n : Nat) : Sp := fun vs H Q _ => ∃ (v : V) (c : Addr) (e : Ex) (kvs : List (Str × Int)) (xs : List Str) (a t : Int), vs = [v, .ref c, .int a, .int t] ∧ ExAt H v e ∧ e.deep ≤ n ∧ e.deep ≤ 6 ∧ e.good xs ∧ Bx kvs xs ∧
  H c = some (.dK (bx kvs)) ∧ (0 ≤ a ∧ a < 1024) ∧ (0 ≤ t ∧ t < 1024) ∧ ∀ H', Same H H' → Q (.int (e.val kvs a t)) H'
section
variable {P : Program} {w : World} {K : PySem.W.Frag} {mg : Str → Option Value} {base : Heap} {f : Addr} {fd : FuncData}
theorem no_lw : FnOk P w K mg base CX0 0 f fd ["_law_some", "_law_crates", "_law_wish", "_law_reply"] (spLw 0) := by
  have no : ∀ vs H Q E, ¬ spLw 0 vs H Q E := fun vs H Q E h => by
    obtain ⟨v, c, e, kvs, xs, a, t, _, _, hd, _⟩ := h
    cases e <;> exact absurd hd (by show ¬ _ ≤ 0; exact Nat.not_succ_le_zero _)
  exact ⟨fun vs H Q E h => absurd h (no vs H Q E), fun A outer s H args us vs Q E _ _ _ _ h => absurd h (no vs H Q E)⟩
theorem before1 : ∀ (m : Nat) (z : V), m < 1 → ([.str "plus", .str "less", .str "times"] : List V)[m]? = some z → eqV z (.str "less") = false := fun m z hm hz => by
  obtain rfl : m = 0 := by omega
  cases hz
  rfl
theorem before2 : ∀ (m : Nat) (z : V), m < 2 → ([.str "plus", .str "less", .str "times"] : List V)[m]? = some z → eqV z (.str "times") = false := fun m z hm hz => by
  have e : m = 0 ∨ m = 1 := by omega
  rcases e with rfl | rfl <;> (cases hz; rfl)
theorem nb_div {i j : Int} (hi : Nb i) (hj : Nb j) : Nb (i / j) := ⟨Int.ediv_nonneg hi.1 hj.1, Int.lt_of_le_of_lt (Int.ediv_le_self _ hi.1) hi.2⟩
theorem ok_lw {n : Nat} (F : Fun K "_law_worth" "_law_worth" sLw f fd) (G : FnOk P w K mg base CX0 n f fd ["_law_some", "_law_crates", "_law_wish", "_law_reply"] (spLw n)) (bG : Binds K fd ["_law_some", "_law_crates", "_law_wish", "_law_reply"] [])
    (mG : mg "_law_worth" = some (.ref f)) (mm : mg "max" = none) : FnOk P w K mg base CX0 (n + 1) f fd ["_law_some", "_law_crates", "_law_wish", "_law_reply"] (spLw (n + 1)) := by
  refine F.ok scLw (fun vs H Q E h => ?_) (fun cdv A outer s H vs Q E hr h => ?_)
  · obtain ⟨v, c, e, kvs, xs, a, t, rfl, _⟩ := h
    rfl
  obtain ⟨v, c, e, kvs, xs, a, t, rfl, hv, hd, hd6, hg, B, hc, ha, ht, q⟩ := h
  have hu := hu_of hr
  have kG := F.kp
  refine ⟨_, pss_cons (ps_set (i := 4) scLw.nd rfl (Or.inl rfl) (pe_ix ix_tup (pv 0) pe_int (fun _ _ => rfl)))
    (pss_cons (ps_if (pt_cmpR op_in_seq (pv 4) (pe_tup (pa_cons pe_str (pa_cons pe_str pa_nil))) (by rfl))
      (pss_one (ps_ret (pe_ifExp (pt_cmpR op_eq (pv 4) pe_str (nomark _)) (pe_ix ix_tup (pv 0) pe_int (fun _ _ => rfl)) (pe_dget hu (pv 1) (pe_ix ix_tup (pv 0) pe_int (fun _ _ => rfl)) (fun _ _ => rfl))))) pss_nil)
    (pss_cons (ps_if (pt_cmpR op_in_seq (pv 4) (pe_tup (pa_cons pe_str (pa_cons pe_str pa_nil))) (by rfl))
      (pss_one (ps_ret (pe_ifExp (pt_cmpR op_eq (pv 4) pe_str (nomark _)) (pv 2) (pv 3)))) pss_nil)
    (pss_cons (ps_par (i := 5) (j := 6) (by rfl) scLw.nd rfl rfl (by decide) rfl rfl (pa_cons (pe_call G hr rfl mG kG bG .nil pass0 (pa_cons (pe_ix ix_tup (pv 0) pe_int (fun _ _ => rfl)) (pa_cons (pv 1) (pa_cons (pv 2) (pa_cons (pv 3) pa_nil)))))
        (pa_cons (pe_call G hr rfl mG kG bG .nil pass0 (pa_cons (pe_ix ix_tup (pv 0) pe_int (fun _ _ => rfl)) (pa_cons (pv 1) (pa_cons (pv 2) (pa_cons (pv 3) pa_nil))))) pa_nil)) (by rfl))
    (pss_cons (ps_if (pt_cmpR op_in_seq (pv 4) (pe_tup (pa_cons pe_str (pa_cons pe_str pa_nil))) (by rfl))
      (pss_cons (ps_if (pt_cmpR op_eq (pv 6) pe_int (nomark _)) (pss_one (ps_ret pe_int)) pss_nil)
      (pss_one (ps_ret (pe_ifExp (pt_cmpR op_eq (pv 4) pe_str (nomark _)) (pe_op op_fdivW (pv 5) (pv 6)) (pe_op op_sub (pv 5) (pe_op op_mulW (pe_op op_fdivW (pv 5) (pv 6)) (pv 6))))))) pss_nil)
    (pss_one (ps_ret (pe_ix ix_list (pe_lst (pa_cons (pe_op op_add (pv 5) (pv 6)) (pa_cons (pe_callB (call_max2 rfl) rfl mm (by decide +kernel) (pa_cons (pe_op op_sub (pv 5) (pv 6)) (pa_cons pe_int pa_nil))) (pa_cons (pe_op op_mulW (pv 5) (pv 6)) pa_nil))))
      (pe_bm PySem.F.plainAttrs_list PySem.F.slot_list_index PySem.F.type_list_index mt_index (pe_lst (pa_cons pe_str (pa_cons pe_str (pa_cons pe_str pa_nil)))) (pa_cons (pv 4) pa_nil)) (fun _ _ => rfl)))))))), ?_⟩
  have two : 2 ≤ sizeLine := by decide
  cases hv with
  | num h =>
    refine ⟨_, rfl, _, _, _, _, rfl, rfl, SqT.of h, atI_nat (j := 0) rfl, ?_⟩
    refine ⟨_, rfl, two, fun p hp => ⟨p, _, rfl, .inr (SqT.of upd_same), rfl, rfl, _, rfl, itT rfl ?_⟩⟩
    have s1 := same_new hp (.tup [.str "number", .str "box"])
    refine ⟨_, rfl, rfl, _, rfl, itT eq_str ⟨_, rfl, _, _, _, _, rfl, rfl, SqT.of (s1 _ _ h), atI_nat (j := 1) rfl, q _ s1⟩⟩
  | box h =>
    rename_i bp bn
    obtain ⟨n, e1, _, _⟩ := B.all _ hg
    refine ⟨_, rfl, _, _, _, _, rfl, rfl, SqT.of h, atI_nat (j := 0) rfl, ?_⟩
    refine ⟨_, rfl, two, fun p hp => ⟨p, _, rfl, .inr (SqT.of upd_same), rfl, rfl, _, rfl, itT rfl ?_⟩⟩
    have s1 := same_new hp (.tup [.str "number", .str "box"])
    have g := DGet.k (k := Sum.inr bn) (s1 _ _ hc)
    rw [bx_val, e1] at g
    refine ⟨_, rfl, rfl, _, rfl, itF (ne_str (by decide)) ⟨_, rfl, _, rfl, _, _, _, _, rfl, rfl, SqT.of (s1 _ _ h), atI_nat (j := 1) rfl, c, .int n, rfl, g, ?_⟩⟩
    have q' : ∀ H', Same H H' → Q (.int ((look kvs bn).getD 0)) H' := q
    rw [e1] at q'
    exact q' _ s1
  | asked h =>
    refine ⟨_, rfl, _, _, _, _, rfl, rfl, SqT.of h, atI_nat (j := 0) rfl, ?_⟩
    refine ⟨_, rfl, two, fun p hp => ⟨p, _, rfl, .inr (SqT.of upd_same), rfl, rfl, _, rfl, itF rfl ?_⟩⟩
    have s1 := same_new hp (.tup [.str "number", .str "box"])
    refine ⟨_, rfl, two, fun p2 hp2 => ⟨p2, _, rfl, .inr (SqT.of upd_same), rfl, rfl, _, rfl, itT rfl ?_⟩⟩
    have s2 := s1.trans (same_new hp2 (.tup [.str "asked", .str "told"]))
    exact ⟨_, rfl, rfl, _, rfl, itT eq_str ⟨_, rfl, q _ s2⟩⟩
  | told h =>
    refine ⟨_, rfl, _, _, _, _, rfl, rfl, SqT.of h, atI_nat (j := 0) rfl, ?_⟩
    refine ⟨_, rfl, two, fun p hp => ⟨p, _, rfl, .inr (SqT.of upd_same), rfl, rfl, _, rfl, itF rfl ?_⟩⟩
    have s1 := same_new hp (.tup [.str "number", .str "box"])
    refine ⟨_, rfl, two, fun p2 hp2 => ⟨p2, _, rfl, .inr (SqT.of upd_same), rfl, rfl, _, rfl, itT rfl ?_⟩⟩
    have s2 := s1.trans (same_new hp2 (.tup [.str "asked", .str "told"]))
    exact ⟨_, rfl, rfl, _, rfl, itF (ne_str (by decide)) ⟨_, rfl, q _ s2⟩⟩
  | op h h1 h2 =>
    rename_i p0 d x y l r
    have dl : l.deep ≤ n := Nat.le_trans (Nat.le_max_left ..) (Nat.le_of_succ_le_succ hd)
    have dr : r.deep ≤ n := Nat.le_trans (Nat.le_max_right ..) (Nat.le_of_succ_le_succ hd)
    have dl6 : l.deep ≤ 6 := Nat.le_trans (Nat.le_max_left ..) (Nat.le_of_succ_le hd6)
    have dr6 : r.deep ≤ 6 := Nat.le_trans (Nat.le_max_right ..) (Nat.le_of_succ_le hd6)
    have i1 : inV (.str d.word) [.str "number", .str "box"] = false := by cases d <;> rfl
    have i2 : inV (.str d.word) [.str "asked", .str "told"] = false := by cases d <;> rfl
    refine ⟨_, rfl, _, _, _, _, rfl, rfl, SqT.of h, atI_nat (j := 0) rfl, ?_⟩
    refine ⟨_, rfl, two, fun p hp => ⟨p, _, rfl, .inr (SqT.of upd_same), rfl, rfl, _, rfl, itF i1 ?_⟩⟩
    have s1 := same_new hp (.tup [.str "number", .str "box"])
    refine ⟨_, rfl, two, fun p2 hp2 => ⟨p2, _, rfl, .inr (SqT.of upd_same), rfl, rfl, _, rfl, itF i2 ?_⟩⟩
    have s2 := s1.trans (same_new hp2 (.tup [.str "asked", .str "told"]))
    refine ⟨_, rfl, _, _, _, _, rfl, rfl, SqT.of (s2 _ _ h), atI_nat (j := 1) rfl, _, rfl, _, rfl, _, rfl, x, c, l, kvs, xs, a, t, rfl, h1.keep (Same.tups s2), dl, dl6, hg.1, B, s2 _ _ hc, ha, ht, fun H3 s3 => ?_⟩
    have s3 := s2.trans s3
    refine ⟨_, rfl, _, _, _, _, rfl, rfl, SqT.of (s3 _ _ h), atI_nat (j := 2) rfl, _, rfl, _, rfl, _, rfl, y, c, r, kvs, xs, a, t, rfl, h2.keep (Same.tups s3), dr, dr6, hg.2, B, s3 _ _ hc, ha, ht, fun H4 s4 => ?_⟩
    have s4 := s3.trans s4
    have n1 := Ex.nb B ha ht hg.1 dl6
    have n2 := Ex.nb B ha ht hg.2 dr6
    have q' : ∀ H', Same H H' → Q (.int (d.fn (l.val kvs a t) (r.val kvs a t))) H' := q
    generalize l.val kvs a t = i at *
    generalize r.val kvs a t = j at *
    refine ⟨_, _, rfl, ?_⟩
    refine ⟨_, rfl, two, fun p5 hp5 => ⟨p5, _, rfl, .inr (SqT.of upd_same), rfl, rfl, _, rfl, ?_⟩⟩
    have s5 := s4.trans (same_new hp5 (.tup [.str "over", .str "rest"]))
    cases d with
    | over =>
      refine itT rfl ⟨_, rfl, rfl, _, rfl, ?_⟩
      refine ite2 (fun cc => ?_) (fun cc => ?_)
      · have c' : V.int j = V.int 0 := of_decide_eq_true cc
        have z := q' _ s5
        rw [show Dd.fn .over i j = 0 from if_pos (V.int.inj c')] at z
        exact z
      · have c' : ¬ V.int j = V.int 0 := of_decide_eq_false (Bool.eq_false_iff.mpr cc)
        have nz : j ≠ 0 := fun z => c' (by rw [z])
        have z := q' _ s5
        rw [show Dd.fn .over i j = i / j from if_neg nz] at z
        exact ⟨_, rfl, rfl, _, rfl, itT eq_str ⟨_, rfl, _, rfl, _, _, rfl, rfl, wideDiv n2 nz, z⟩⟩
    | rest =>
      refine itT rfl ⟨_, rfl, rfl, _, rfl, ?_⟩
      refine ite2 (fun cc => ?_) (fun cc => ?_)
      · have c' : V.int j = V.int 0 := of_decide_eq_true cc
        have z := q' _ s5
        rw [show Dd.fn .rest i j = 0 from if_pos (V.int.inj c')] at z
        exact z
      · have c' : ¬ V.int j = V.int 0 := of_decide_eq_false (Bool.eq_false_iff.mpr cc)
        have nz : j ≠ 0 := fun z => c' (by rw [z])
        have z := q' _ s5
        rw [show Dd.fn .rest i j = i % j from if_neg nz, Int.emod_def, Int.mul_comm] at z
        exact ⟨_, rfl, rfl, _, rfl, itF (ne_str (by decide)) ⟨_, rfl, _, rfl, _, rfl, _, _, rfl, rfl, wideDiv n2 nz, _, rfl, _, _, rfl, rfl, wideMul (nb_div n1 n2) n2, _, _, rfl, rfl, z⟩⟩
    | plus =>
      refine itF rfl ⟨_, rfl, _, rfl, _, _, rfl, rfl, _, rfl, _, rfl, _, _, rfl, rfl, _, _, rfl, _, rfl, _, rfl, _, _, rfl, rfl, wideMul n1 n2, (by show 3 ≤ sizeLine; decide), fun p6 hp6 => ?_⟩
      refine ⟨(by show 3 ≤ sizeLine; decide), fun p7 hp7 => ⟨.inl ⟨rfl, _, SqL.of upd_same⟩, _, rfl, p7, _, _, 0, _, rfl, rfl, SqL.of upd_same, rfl, rfl, rfl, rfl, (by intro m z hm; omega), ?_⟩⟩
      have n67 : p6 ≠ p7 := by intro e; rw [e, upd_same] at hp7; cases hp7
      refine ⟨p6, _, _, _, rfl, rfl, SqL.of (by rw [upd_ne n67]; exact upd_same), atI_nat (j := 0) rfl, ?_⟩
      exact q' _ ((s5.trans (same_new hp6 _)).trans (same_new hp7 _))
    | less =>
      refine itF rfl ⟨_, rfl, _, rfl, _, _, rfl, rfl, _, rfl, _, rfl, _, _, rfl, rfl, _, _, rfl, _, rfl, _, rfl, _, _, rfl, rfl, wideMul n1 n2, (by show 3 ≤ sizeLine; decide), fun p6 hp6 => ?_⟩
      refine ⟨(by show 3 ≤ sizeLine; decide), fun p7 hp7 => ⟨.inl ⟨rfl, _, SqL.of upd_same⟩, _, rfl, p7, _, _, 1, _, rfl, rfl, SqL.of upd_same, rfl, rfl, rfl, rfl, before1, ?_⟩⟩
      have n67 : p6 ≠ p7 := by intro e; rw [e, upd_same] at hp7; cases hp7
      refine ⟨p6, _, _, _, rfl, rfl, SqL.of (by rw [upd_ne n67]; exact upd_same), atI_nat (j := 1) rfl, ?_⟩
      have z := fun o => q' _ ((s5.trans (same_new hp6 _)).trans (same_new hp7 o))
      have e : Dd.fn .less i j = if 0 > i - j then 0 else i - j := by
        show (if i < j then 0 else i - j) = _
        by_cases c : i < j
        · rw [if_pos c, if_pos (by omega)]
        · rw [if_neg c, if_neg (by omega)]
      rw [e] at z
      exact z _
    | times =>
      refine itF rfl ⟨_, rfl, _, rfl, _, _, rfl, rfl, _, rfl, _, rfl, _, _, rfl, rfl, _, _, rfl, _, rfl, _, rfl, _, _, rfl, rfl, wideMul n1 n2, (by show 3 ≤ sizeLine; decide), fun p6 hp6 => ?_⟩
      refine ⟨(by show 3 ≤ sizeLine; decide), fun p7 hp7 => ⟨.inl ⟨rfl, _, SqL.of upd_same⟩, _, rfl, p7, _, _, 2, _, rfl, rfl, SqL.of upd_same, rfl, rfl, rfl, rfl, before2, ?_⟩⟩
      have n67 : p6 ≠ p7 := by intro e; rw [e, upd_same] at hp7; cases hp7
      refine ⟨p6, _, _, _, rfl, rfl, SqL.of (by rw [upd_ne n67]; exact upd_same), atI_nat (j := 2) rfl, ?_⟩
      exact q' _ ((s5.trans (same_new hp6 _)).trans (same_new hp7 _))
theorem all_lw (F : Fun K "_law_worth" "_law_worth" sLw f fd) (bG : Binds K fd ["_law_some", "_law_crates", "_law_wish", "_law_reply"] []) (mG : mg "_law_worth" = some (.ref f)) (mm : mg "max" = none) :
    ∀ n : Nat, FnOk P w K mg base CX0 n f fd ["_law_some", "_law_crates", "_law_wish", "_law_reply"] (spLw n)
  | 0 => no_lw
  | n + 1 => ok_lw F (all_lw F bG mG mm n) bG mG mm
end
end Any
namespace Any
open L2 PySem PySem.Spec PyProof.Rows LamX NdefX

/-! ### list(d), d a written dict of texts -/
def Keyed : List DictEntry → List Str → Prop
  | [], [] => True
  | e :: es, k :: ks => (∃ t, e.key = .str k t) ∧ Keyed es ks
  | _, _ => False
theorem keyed_pairs {P : Program} {w : World} : ∀ {es : List DictEntry} {ks : List Str}, Keyed es ks →
    ∃ kvs : List (Str × Value), Pairs (PySem.strKind P w) es kvs ∧ kvs.map (·.1) = ks
  | [], [], _ => ⟨[], .nil, rfl⟩
  | e :: es, k :: ks, h => by
    obtain ⟨⟨t, h1⟩, h2⟩ := h
    obtain ⟨kvs, p, q⟩ := keyed_pairs (P := P) (w := w) h2
    exact ⟨(k, e.val) :: kvs, .cons (by rw [h1]; exact strKind_is P w k t) rfl p, by rw [List.map_cons, q]⟩
  | [], _ :: _, h => h.elim
  | _ :: _, [], h => h.elim
/-- a written dict with these keys -/
def KKeys (K : PySem.W.Frag) (w : World) (a : Addr) (ks : List Str) : Prop :=
  ∃ es n, K.lookup a = some ⟨.type "dict", none, .dict es n, #[]⟩ ∧ PySem.W.KeysLit w.params es.toList ∧ Keyed es.toList ks ∧ ks.Nodup ∧ (a == sysModules) = false ∧ ks.length ≤ sizeLine
theorem strs_is {P : Program} {w : World} : ∀ {us : List Value} {ks : List Str}, us.length = ks.length → (∀ (j : Nat) (v : Value), us[j]? = some v → ∃ k, ks[j]? = some k ∧ (PySem.strKind P w).is k v = true) → Vals (ks.map V.str) us
  | [], [], _, _ => .nil
  | u :: us, k :: ks, hl, h => by
    obtain ⟨k', e, h0⟩ := h 0 u rfl
    cases e
    obtain ⟨t, rfl⟩ := Value.isStrOf_shape h0
    exact .cons ⟨t, rfl⟩ (strs_is (P := P) (w := w) (by simpa using hl) fun j v e => h (j + 1) v e)
section
variable {X : Cx}
theorem call_listK (hc : X.calm = true) : CallR X (.type "list") (fun xs H Q => ∃ a ks, xs = [.ref a] ∧ KKeys X.K X.w a ks ∧ ∀ p, H p = none → Q (.ref p) (upd H p (.lst (ks.map V.str)))) := by
  intro pins s σ H xs us Q I r q
  obtain ⟨a, ks, rfl, ⟨es, n, hl, hk, hy, nd, lo, hz⟩, q⟩ := q
  obtain ⟨u, rfl, rx⟩ := vals1 r
  cases rx
  obtain ⟨kvs, hp, ek⟩ := keyed_pairs (P := X.prog) (w := X.w) hy
  have hat : s.heap.DictAt (PySem.strKind X.prog X.w) a kvs n := ⟨_, es, I.kIn _ _ hl, ⟨rfl, rfl, rfl⟩, rfl, fun e he => by
    obtain ⟨x, t, e1, e2⟩ := hk.all e (Array.mem_toList_iff.mpr he)
    exact ⟨x, by rw [e1]; exact strKind_is X.prog X.w x t, e2⟩, hp, by rw [ek]; exact nd⟩
  have hlen : kvs.length = ks.length := by rw [← ek, List.length_map]
  refine PySem.W.kdl_call (PySem.W.kdl_dict (knd := PySem.strKind X.prog X.w) (kvs := kvs) (ep := n) lo) (I.ok.hd hc) hat (by rw [hlen]; exact hz) fun h' tk acc c' kp hD hacc => ?_
  have hv : Vals (ks.map V.str) acc.toList := strs_is (P := X.prog) (w := X.w) (by rw [Array.length_toList, ← hlen]; exact hacc.1) fun j v e => by
    obtain ⟨k, x, h1, h2⟩ := hacc.2 j v (by rw [← Array.getElem?_toList]; exact e)
    exact ⟨k, by rw [← ek, List.getElem?_map, h1]; rfl, h2⟩
  refine ⟨.ref s.heap.objs.size, upd H s.heap.objs.size (.lst (ks.map V.str)), I.laid (t' := tk) kp (Nat.le_refl _)
    (show ObjOk X.prog X.w _ _ _ (.lst (ks.map V.str)) from ⟨by rw [List.length_map]; exact hz, acc.toList, c', hv, by rw [Array.toArray_toList]; exact hD⟩), rfl, q _ (I.hok.fresh (Nat.le_refl _))⟩
end

/-! ### rows made of rows, all else staying -/
/-- what a row's making asks -/
def Turns (J : It) (g : TG) (tt : TT) (te : TE) (vs : List Nat) (σ : L2.St) (H1 : Hp) (D : Addr) (Qd : Hp → Prop) : Prop :=
  ∃ W : Nat → Nat → Hp → Prop, (∃ m, W 0 m (upd H1 D (.lst []))) ∧
    ∀ i m H, W i m H → (J.stop i H ∧ Qd H) ∨
      (J.go i H ∧ ∃ N : Hp → Prop, (∀ H', N H' → ∃ m', m' < m ∧ W (i + 1) m' H') ∧
        ∀ x H', J.yld i H x H' →
          g x (wipe σ vs) H' fun σ2 H2 => wipe σ2 vs = wipe σ vs ∧
            tt σ2 H2 fun b H3 => if b = true then te σ2 H3 fun y H4 => ∃ acc, H4 D = some (.lst acc) ∧ acc.length < sizeLine ∧ N (upd H4 D (.lst (acc ++ [y]))) else N H3)
section
variable {K : PySem.W.Frag} {a : Addr} {xs : List V} {g : TG} {tt : TT} {te : TE} {vs : List Nat} {σ : L2.St} {H1 : Hp} {D : Addr} {Qd : Hp → Prop}
/-- each turn puts one thing behind, or none -/
def TurnF (xs : List V) (gs : List (Option V)) (g : TG) (tt : TT) (te : TE) (vs : List Nat) (σ : L2.St) (H1 : Hp) : Prop :=
  ∀ (i : Nat) (x : V) (o : Option V) (H : Hp) (Y : VK) (N : Hp → Prop), xs[i]? = some x → gs[i]? = some o → Same H1 H → (∀ y, o = some y → ∀ H4, Same H H4 → Y y H4) → (o = none → ∀ H4, Same H H4 → N H4) →
    g x (wipe σ vs) H fun σ2 H2 => wipe σ2 vs = wipe σ vs ∧ tt σ2 H2 fun b H3 => if b = true then te σ2 H3 Y else N H3
theorem take_fm {gs : List (Option V)} {i : Nat} {o : Option V} (h : gs[i]? = some o) : (gs.take (i + 1)).filterMap id = (gs.take i).filterMap id ++ o.toList := by
  rw [List.take_add_one, h, List.filterMap_append]
  cases o <;> rfl
theorem fm_len (gs : List (Option V)) : (gs.filterMap id).length ≤ gs.length := List.length_filterMap_le ..
theorem turns_tup (gs : List (Option V)) (hD : H1 D = none) (ha : ∀ H, Same H1 H → SqT K H a xs) (hn : gs.length = xs.length) (hz : xs.length ≤ sizeLine) (hs : TurnF xs gs g tt te vs σ H1)
    (hd : ∀ H, H D = some (.lst (gs.filterMap id)) → Same H1 H → Qd H) : Turns (Itt K a) g tt te vs σ H1 D Qd := by
  refine lc_tup (K := K) (a := a) (xs := xs) (fun i Hc => Hc D = some (.lst ((gs.take i).filterMap id)) ∧ Same H1 Hc) ⟨upd_same, same_new hD _⟩ (fun i Hc _ z => ha Hc z.2) ?_ ?_
  · rintro i x Hc hx ⟨hC, sm⟩
    have hi : i < xs.length := (List.getElem?_eq_some_iff.mp hx).1
    obtain ⟨o, ho⟩ : ∃ o, gs[i]? = some o := ⟨gs[i]'(by omega), by simp [hn, hi]⟩
    refine hs i x o Hc _ _ hx ho sm (fun y ey H4 s4 => ⟨_, s4 _ _ hC, ?_, ?_, fun b u hb => ?_⟩) (fun en H4 s4 => ⟨?_, sm.trans s4⟩)
    · have := fm_len (gs.take i)
      rw [List.length_take] at this
      omega
    · rw [upd_same, take_fm ho, ey]
      rfl
    · rw [upd_ne (ne_of_none hb hD)]
      exact s4 _ _ (sm _ _ hb)
    · rw [take_fm ho, en]
      show H4 D = some (.lst (_ ++ []))
      rw [List.append_nil]
      exact s4 _ _ hC
  · rintro Hc ⟨hC, sm⟩
    rw [← hn, List.take_length] at hC
    exact hd Hc hC sm
theorem turns_list (gs : List (Option V)) (hD : H1 D = none) (ha : ∀ H, Same H1 H → SqL K H a xs) (hn : gs.length = xs.length) (hz : xs.length ≤ sizeLine) (hs : TurnF xs gs g tt te vs σ H1)
    (hd : ∀ H, H D = some (.lst (gs.filterMap id)) → Same H1 H → Qd H) : Turns (Itl K a) g tt te vs σ H1 D Qd := by
  refine lc_list (K := K) (a := a) (xs := xs) (fun i Hc => Hc D = some (.lst ((gs.take i).filterMap id)) ∧ Same H1 Hc) ⟨upd_same, same_new hD _⟩ (fun i Hc _ z => ha Hc z.2) ?_ ?_
  · rintro i x Hc hx ⟨hC, sm⟩
    have hi : i < xs.length := (List.getElem?_eq_some_iff.mp hx).1
    obtain ⟨o, ho⟩ : ∃ o, gs[i]? = some o := ⟨gs[i]'(by omega), by simp [hn, hi]⟩
    refine hs i x o Hc _ _ hx ho sm (fun y ey H4 s4 => ⟨_, s4 _ _ hC, ?_, ?_, fun b u hb => ?_⟩) (fun en H4 s4 => ⟨?_, sm.trans s4⟩)
    · have := fm_len (gs.take i)
      rw [List.length_take] at this
      omega
    · rw [upd_same, take_fm ho, ey]
      rfl
    · rw [upd_ne (ne_of_none hb hD)]
      exact s4 _ _ (sm _ _ hb)
    · rw [take_fm ho, en]
      show H4 D = some (.lst (_ ++ []))
      rw [List.append_nil]
      exact s4 _ _ hC
  · rintro Hc ⟨hC, sm⟩
    rw [← hn, List.take_length] at hC
    exact hd Hc hC sm
end
end Any
namespace Any
open L2 PySem PySem.Spec PyProof.Rows LamX NdefX
abbrev sWhole : Stmt := top 34
abbrev sWithin : Stmt := top 35
abbrev sName : Stmt := top 36
abbrev sIsExpr : Stmt := top 37
abbrev sIsTest : Stmt := top 38
abbrev sExFits : Stmt := top 39
abbrev sTsFits : Stmt := top 40
abbrev sRow : Stmt := top 41
abbrev sCount : Stmt := top 42
theorem scWhole : FnScope ["thing"] ["thing"] (defScope sWhole) := ⟨rfl, rfl, rfl, by decide +kernel, rfl, by decide +kernel, by decide +kernel⟩
theorem scWithin : FnScope ["thing", "least", "most"] ["thing", "least", "most"] (defScope sWithin) := ⟨rfl, rfl, rfl, by decide +kernel, rfl, by decide +kernel, by decide +kernel⟩
theorem scRow : FnScope ["thing"] ["thing"] (defScope sRow) := ⟨rfl, rfl, rfl, by decide +kernel, rfl, by decide +kernel, by decide +kernel⟩
theorem scCount : FnScope ["term", "part"] ["term"] (defScope sCount) := ⟨rfl, rfl, rfl, by decide +kernel, rfl, by decide +kernel, by decide +kernel⟩
theorem scExFits : FnScope ["thing", "boxes", "words", "deep", "kind", "part"] ["thing", "boxes", "words", "deep"] (defScope sExFits) := ⟨rfl, rfl, rfl, by decide +kernel, rfl, by decide +kernel, by decide +kernel⟩
theorem scTsFits : FnScope ["thing", "boxes", "words", "deep", "kind", "part"] ["thing", "boxes", "words", "deep"] (defScope sTsFits) := ⟨rfl, rfl, rfl, by decide +kernel, rfl, by decide +kernel, by decide +kernel⟩
theorem scIsExpr : FnScope ["thing", "boxes", "words"] ["thing", "boxes", "words"] (defScope sIsExpr) := ⟨rfl, rfl, rfl, by decide +kernel, rfl, by decide +kernel, by decide +kernel⟩
theorem scIsTest : FnScope ["thing", "boxes", "words"] ["thing", "boxes", "words"] (defScope sIsTest) := ⟨rfl, rfl, rfl, by decide +kernel, rfl, by decide +kernel, by decide +kernel⟩
/-- the names of Python's own that the program asks for -/
structure Own (mg : Str → Option Value) : Prop where
  isi : mg "isinstance" = none
  int : mg "int" = none
  bool : mg "bool" = none
  str : mg "str" = none
  tuple : mg "tuple" = none
  len : mg "len" = none
  all : mg "all" = none
  sum : mg "sum" = none
  list : mg "list" = none
def spWhole : Sp := fun vs H Q _ => ∃ i, vs = [.int i] ∧ Q (.bl true) H
def spWithin : Sp := fun vs H Q _ => ∃ i l m, vs = [.int i, .int l, .int m] ∧ Q (.bl (decide (l ≤ i) && decide (i ≤ m))) H
def spRow : Sp := fun vs H Q _ => ∃ a x xs, vs = [.ref a] ∧ H a = some (.tup (x :: xs)) ∧ Q (.bl true) H
section
variable {P : Program} {w : World} {K : PySem.W.Frag} {mg : Str → Option Value} {base : Heap} {f g : Addr} {fd gd : FuncData}
theorem kb (a b : String) (r : Bool) (h : kitB a b = some r := by decide +kernel) : PySem.W.kitOne K (.type a) (.type b) = some r := kit_ty h
theorem ok_whole (O : Own mg) (F : Fun K "is_whole" "is_whole" sWhole f fd) : FnOk P w K mg base CX0 1 f fd ["thing"] spWhole := by
  refine F.ok scWhole (fun vs H Q E h => ?_) (fun cdv A outer s H vs Q E hr h => ?_)
  · obtain ⟨i, rfl, _⟩ := h
    rfl
  obtain ⟨i, rfl, q⟩ := h
  refine ⟨_, pss_one (ps_ret (pe_and (pe_callB call_isi rfl O.isi (by decide +kernel) (pa_cons (pv 0) (pa_cons (pe_bltn (v := .ty "int") rfl O.int (by decide +kernel) rfl) pa_nil)))
    (pe_one (pe_not (pe_callB call_isi rfl O.isi (by decide +kernel) (pa_cons (pv 0) (pa_cons (pe_bltn (v := .ty "bool") rfl O.bool (by decide +kernel) rfl) pa_nil))))))), ?_⟩
  exact ⟨_, rfl, _, _, _, _, true, rfl, .ty "int", .base (.int i), kb "int" "int" true, _, rfl, _, rfl, _, _, _, _, false, rfl, .ty "bool", .base (.int i), kb "int" "bool" false, _, rfl, q⟩
theorem ok_within (F : Fun K "is_within" "is_within" sWithin f fd) (G : FnOk P w K mg base CX0 1 g gd ["thing"] spWhole) (bG : Binds K gd ["thing"] []) (kG : PySem.W.keepIn K (.ref g) = true) (mG : mg "is_whole" = some (.ref g)) :
    FnOk P w K mg base CX0 2 f fd ["thing", "least", "most"] spWithin := by
  refine F.ok scWithin (fun vs H Q E h => ?_) (fun cdv A outer s H vs Q E hr h => ?_)
  · obtain ⟨i, l, m, rfl, _⟩ := h
    rfl
  obtain ⟨i, l, m, rfl, q⟩ := h
  refine ⟨_, pss_one (ps_ret (pe_and (pe_call G hr rfl mG kG bG .nil pass0 (pa_cons (pv 0) pa_nil)) (pe_one (pe_chain op_le op_le (pv 1) (pv 0) (pv 2))))), ?_⟩
  refine ⟨_, rfl, i, rfl, _, rfl, _, rfl, _, rfl, _, _, rfl, rfl, _, rfl, ?_⟩
  refine ite2 (fun c => ?_) (fun c => ?_)
  · rw [c] at q
    exact ⟨_, rfl, _, _, rfl, rfl, q⟩
  · rw [Bool.eq_false_iff.mpr c] at q
    exact q
theorem ok_row (O : Own mg) (F : Fun K "is_row" "is_row" sRow f fd) : FnOk P w K mg base CX0 1 f fd ["thing"] spRow := by
  refine F.ok scRow (fun vs H Q E h => ?_) (fun cdv A outer s H vs Q E hr h => ?_)
  · obtain ⟨a, x, xs, rfl, _⟩ := h
    rfl
  obtain ⟨a, x, xs, rfl, ha, q⟩ := h
  refine ⟨_, pss_one (ps_ret (pe_and (pe_callB call_isi rfl O.isi (by decide +kernel) (pa_cons (pv 0) (pa_cons (pe_bltn (v := .ty "tuple") rfl O.tuple (by decide +kernel) rfl) pa_nil)))
    (pe_one (pe_cmpR op_gt (pe_callB call_len_seq rfl O.len PySem.boot_len (pa_cons (pv 0) pa_nil)) pe_int (nomark _))))), ?_⟩
  refine ⟨_, rfl, _, _, _, _, true, rfl, .ty "tuple", .base (.tup ha), kb "tuple" "tuple" true, _, rfl, _, rfl, a, _, rfl, .inr (SqT.of ha), _, _, rfl, rfl, ?_⟩
  show Q (.bl (decide ((0 : Int) < ((x :: xs).length : Nat)))) H
  rw [show decide ((0 : Int) < ((x :: xs).length : Nat)) = true from decide_eq_true (by rw [List.length_cons]; omega)]
  exact q
end
end Any
namespace Any
open L2 PySem PySem.Spec PyProof.Rows LamX NdefX
/-! ### right ones -/
def Ex.cnt : Ex → Nat
  | .op _ l r => 1 + (l.cnt + r.cnt)
  | _ => 1
def Ts.cnt : Ts → Nat
  | .is l r => 1 + (l.cnt + r.cnt)
  | .bel l r => 1 + (l.cnt + r.cnt)
  | .nt t => 1 + t.cnt
  | .both t u => 1 + (t.cnt + u.cnt)
  | .either t u => 1 + (t.cnt + u.cnt)
/-- how many stand within one another, expressions too -/
def Ts.dp : Ts → Nat
  | .is l r => max l.deep r.deep + 1
  | .bel l r => max l.deep r.deep + 1
  | .nt t => t.dp + 1
  | .both t u => max t.dp u.dp + 1
  | .either t u => max t.dp u.dp + 1
def Ex.fit (xs ws : List Str) : Ex → Prop
  | .num n => 0 ≤ n ∧ n ≤ 999
  | .box x => x ∈ xs
  | .asked => ("asked" : Str) ∈ ws
  | .told => ("told" : Str) ∈ ws
  | .op _ l r => l.fit xs ws ∧ r.fit xs ws
def Ts.fit (xs ws : List Str) : Ts → Prop
  | .is l r => l.fit xs ws ∧ r.fit xs ws
  | .bel l r => l.fit xs ws ∧ r.fit xs ws
  | .nt t => t.fit xs ws
  | .both t u => t.fit xs ws ∧ u.fit xs ws
  | .either t u => t.fit xs ws ∧ u.fit xs ws
theorem Ex.deep_pos : ∀ e : Ex, 0 < e.deep
  | .num _ => Nat.one_pos
  | .box _ => Nat.one_pos
  | .asked => Nat.one_pos
  | .told => Nat.one_pos
  | .op _ _ _ => Nat.succ_pos _
theorem Ts.dp_pos : ∀ e : Ts, 0 < e.dp
  | .is _ _ => Nat.succ_pos _
  | .bel _ _ => Nat.succ_pos _
  | .nt _ => Nat.succ_pos _
  | .both _ _ => Nat.succ_pos _
  | .either _ _ => Nat.succ_pos _
/-- a part of an expression or a test: none that is a tuple, or one that counts so many, at most d deep -/
inductive Part (H : Hp) (d : Nat) : V → Option Nat → Prop
  | int (i : Int) : Part H d (.int i) none
  | str (x : Str) : Part H d (.str x) none
  | ex {v : V} {e : Ex} : ExAt H v e → e.deep ≤ d → Part H d v (some e.cnt)
  | ts {v : V} {e : Ts} : TsAt H v e → e.dp ≤ d → Part H d v (some e.cnt)
theorem Part.keep {H H' : Hp} (k : Tups H H') {d : Nat} {v : V} {o : Option Nat} (h : Part H d v o) : Part H' d v o := by
  cases h with
  | int i => exact .int i
  | str x => exact .str x
  | ex h hd => exact .ex (h.keep k) hd
  | ts h hd => exact .ts (h.keep k) hd
/-- as a tuple of a word and parts -/
theorem Part.open {H : Hp} {d : Nat} {v : V} {n : Nat} (h : Part H (d + 1) v (some n)) : ∃ a z xs os, v = .ref a ∧ H a = some (.tup (z :: xs)) ∧ Paired (Part H d) xs os ∧ n = 1 + (os.map fun o => o.getD 0).sum ∧ xs.length ≤ 2 := by
  cases h with
  | ex h hd =>
    cases h with
    | num h => exact ⟨_, _, _, [none], rfl, h, .cons (.int _) .nil, rfl, by first | decide | (show 1 ≤ 2; decide) | (show 0 ≤ 2; decide)⟩
    | box h => exact ⟨_, _, _, [none], rfl, h, .cons (.str _) .nil, rfl, by first | decide | (show 1 ≤ 2; decide) | (show 0 ≤ 2; decide)⟩
    | asked h => exact ⟨_, _, _, [], rfl, h, .nil, rfl, by first | decide | (show 1 ≤ 2; decide) | (show 0 ≤ 2; decide)⟩
    | told h => exact ⟨_, _, _, [], rfl, h, .nil, rfl, by first | decide | (show 1 ≤ 2; decide) | (show 0 ≤ 2; decide)⟩
    | op h h1 h2 =>
      rename_i l r
      have hd : max l.deep r.deep + 1 ≤ d + 1 := hd
      exact ⟨_, _, _, [some l.cnt, some r.cnt], rfl, h, .cons (.ex h1 (by omega)) (.cons (.ex h2 (by omega)) .nil), (by show 1 + (l.cnt + r.cnt) = 1 + (l.cnt + (r.cnt + 0)); omega), by show 2 ≤ 2; decide⟩
  | ts h hd =>
    cases h with
    | is h h1 h2 =>
      rename_i l r
      have hd : max l.deep r.deep + 1 ≤ d + 1 := hd
      exact ⟨_, _, _, [some l.cnt, some r.cnt], rfl, h, .cons (.ex h1 (by omega)) (.cons (.ex h2 (by omega)) .nil), (by show 1 + (l.cnt + r.cnt) = 1 + (l.cnt + (r.cnt + 0)); omega), by show 2 ≤ 2; decide⟩
    | bel h h1 h2 =>
      rename_i l r
      have hd : max l.deep r.deep + 1 ≤ d + 1 := hd
      exact ⟨_, _, _, [some l.cnt, some r.cnt], rfl, h, .cons (.ex h1 (by omega)) (.cons (.ex h2 (by omega)) .nil), (by show 1 + (l.cnt + r.cnt) = 1 + (l.cnt + (r.cnt + 0)); omega), by show 2 ≤ 2; decide⟩
    | nt h h1 =>
      rename_i t
      have hd : t.dp + 1 ≤ d + 1 := hd
      exact ⟨_, _, _, [some t.cnt], rfl, h, .cons (.ts h1 (by omega)) .nil, rfl, by show 1 ≤ 2; decide⟩
    | both h h1 h2 =>
      rename_i l r
      have hd : max l.dp r.dp + 1 ≤ d + 1 := hd
      exact ⟨_, _, _, [some l.cnt, some r.cnt], rfl, h, .cons (.ts h1 (by omega)) (.cons (.ts h2 (by omega)) .nil), (by show 1 + (l.cnt + r.cnt) = 1 + (l.cnt + (r.cnt + 0)); omega), by show 2 ≤ 2; decide⟩
    | either h h1 h2 =>
      rename_i l r
      have hd : max l.dp r.dp + 1 ≤ d + 1 := hd
      exact ⟨_, _, _, [some l.cnt, some r.cnt], rfl, h, .cons (.ts h1 (by omega)) (.cons (.ts h2 (by omega)) .nil), (by show 1 + (l.cnt + r.cnt) = 1 + (l.cnt + (r.cnt + 0)); omega), by show 2 ≤ 2; decide⟩
theorem Part.ref {H : Hp} {d n : Nat} {v : V} (h : Part H d v (some n)) : ∃ a xs, v = .ref a ∧ H a = some (.tup xs) := by
  cases d with
  | zero =>
    cases h with
    | ex _ hd => exact absurd hd (Nat.not_le.mpr (Ex.deep_pos _))
    | ts _ hd => exact absurd hd (Nat.not_le.mpr (Ts.dp_pos _))
  | succ d =>
    obtain ⟨a, z, xs, os, e, h1, _⟩ := h.open
    exact ⟨a, _, e, h1⟩
def spCount (n : Nat) : Sp := fun vs H Q _ => ∃ v k, vs = [v] ∧ Part H n v (some k) ∧ ∀ H', Same H H' → Q (.int k) H'
theorem paired_at {α β : Type} {R : α → β → Prop} : ∀ {xs : List α} {ys : List β}, Paired R xs ys → ∀ {i : Nat} {x : α} {y : β}, xs[i]? = some x → ys[i]? = some y → R x y
  | _, _, .nil, i, x, y, h, _ => by simp at h
  | _, _, .cons r t, 0, x, y, h, g => by cases h; cases g; exact r
  | _, _, .cons r t, i + 1, x, y, h, g => paired_at t (i := i) h g
theorem paired_len {α β : Type} {R : α → β → Prop} : ∀ {xs : List α} {ys : List β}, Paired R xs ys → xs.length = ys.length
  | _, _, .nil => rfl
  | _, _, .cons r t => by rw [List.length_cons, List.length_cons, paired_len t]
theorem sum_fm : ∀ os : List (Option Nat), ((os.filterMap id).map fun n : Nat => (n : Int)).sum = ((os.map fun o => o.getD 0).sum : Nat)
  | [] => rfl
  | none :: r => by
    have := sum_fm r
    simpa using this
  | some n :: r => by
    have := sum_fm r
    simp only [List.filterMap_cons, id, List.map_cons, List.sum_cons, Option.getD_some] at this ⊢
    rw [this]
    omega
theorem fm_ints : ∀ os : List (Option Nat), (os.map fun o => o.map fun n : Nat => V.int n).filterMap id = (((os.filterMap id).map fun n : Nat => (n : Int)).map V.int)
  | [] => rfl
  | none :: r => by simpa using fm_ints r
  | some n :: r => by simpa using fm_ints r
theorem cut1 (z : V) (xs : List V) : cutV (z :: xs) (some 1) none = xs := by
  have e1 : HT.sIx (z :: xs).length 0 (some 1) = 1 := by
    unfold HT.sIx
    simp only [List.length_cons]
    first | omega | (split <;> omega) | simp
  have e2 : HT.sIx (z :: xs).length (z :: xs).length none = (z :: xs).length := rfl
  unfold cutV
  rw [e1, e2, List.drop_one, List.tail_cons, List.length_cons, Nat.add_sub_cancel, List.take_length]
section
variable {P : Program} {w : World} {K : PySem.W.Frag} {mg : Str → Option Value} {base : Heap} {f : Addr} {fd : FuncData}
theorem no_count {k : Nat} : FnOk P w K mg base CX0 k f fd ["term"] (spCount 0) := by
  have no : ∀ vs H Q E, ¬ spCount 0 vs H Q E := fun vs H Q E h => by
    obtain ⟨v, k, _, h, _⟩ := h
    cases h with
    | ex _ hd => exact absurd hd (Nat.not_le.mpr (Ex.deep_pos _))
    | ts _ hd => exact absurd hd (Nat.not_le.mpr (Ts.dp_pos _))
  exact ⟨fun vs H Q E h => absurd h (no vs H Q E), fun A outer s H args us vs Q E _ _ _ _ h => absurd h (no vs H Q E)⟩
theorem ok_count {n : Nat} (O : Own mg) (F : Fun K "count_terms" "count_terms" sCount f fd) (G : FnOk P w K mg base CX0 (n + 1) f fd ["term"] (spCount n)) (bG : Binds K fd ["term"] []) (mG : mg "count_terms" = some (.ref f)) :
    FnOk P w K mg base CX0 (n + 2) f fd ["term"] (spCount (n + 1)) := by
  refine F.ok scCount (fun vs H Q E h => ?_) (fun cdv A outer s H vs Q E hr h => ?_)
  · obtain ⟨v, k, rfl, _⟩ := h
    rfl
  obtain ⟨v, k, rfl, h, q⟩ := h
  obtain ⟨a, z, xs, os, rfl, ha, hp, hk, h2⟩ := h.open
  refine ⟨_, pss_one (ps_ret (pe_op op_add pe_int (pe_callB (cr_sum rfl) rfl O.sum (by decide +kernel) (pa_cons (pe_lc (own := [("part", 1)]) (g := gName 1) rfl scCount.nd
    (pi_tup (pe_slice sl_tup (pv 0) (po_some pe_int) po_none)) (blkOk_by (N := ["term", "part"]) (sc := defScope sCount) (by decide +kernel))
    (fun _ _ _ _ _ => pg_name (i := 1) scCount.nd rfl (Or.inl rfl)) (fun _ _ _ _ _ => pts_one (pt_val (pe_callB (show CallR _ (.builtin "isinstance") (rIsi K) from call_isi) rfl O.isi (by decide +kernel) (pa_cons (pv 1) (pa_cons (pe_bltn (v := .ty "tuple") rfl O.tuple (by decide +kernel) rfl) pa_nil)))))
    (fun _ _ _ _ _ => pe_call G hr rfl mG F.kp bG .nil pass0 (pa_cons (pv 1) pa_nil))) pa_nil)))), ?_⟩
  have hz : (z :: xs).length ≤ sizeLine := by
    have e : sizeLine = 16777216 := sizeLine_eq
    rw [List.length_cons]
    omega
  refine ⟨_, rfl, 1, rfl, a, _, rfl, SqT.of ha, (by show ¬ (1 = 0 ∧ _); omega), fun p hp2 => ⟨p, rfl, ⟨_, SqT.of upd_same⟩, fun C hC => ?_⟩⟩
  rw [cut1] at hC ⊢
  have s1 := same_new hp2 (.tup xs)
  have hl := paired_len hp
  refine turns_tup (K := K) (a := p) (xs := xs) (os.map fun o => o.map fun n : Nat => V.int n) hC (fun Hc sm => SqT.of (sm _ _ upd_same)) (by rw [List.length_map]; exact hl.symm) (by rw [List.length_cons] at hz; omega) ?_ ?_
  · intro i x o Hc Y N hx ho sm hY hN
    refine ⟨rfl, ?_⟩
    obtain ⟨o', e1, e2⟩ : ∃ o', os[i]? = some o' ∧ o = o'.map fun n : Nat => V.int n := by
      rw [List.getElem?_map] at ho
      cases e : os[i]? with
      | none => rw [e] at ho; cases ho
      | some o' => rw [e] at ho; exact ⟨o', rfl, (Option.some.inj ho).symm⟩
    have pt : Part Hc n x o' := (paired_at hp hx e1).keep (Same.tups (s1.trans sm))
    cases o' with
    | none =>
      have e3 : ∃ t, TyX K Hc x t ∧ PySem.W.kitOne K t (.type "tuple") = some false := by
        cases pt with
        | int i => exact ⟨_, .base (.int i), kb "int" "tuple" false⟩
        | str y => exact ⟨_, .base (.str y), kb "str" "tuple" false⟩
      obtain ⟨t, h3, h4⟩ := e3
      exact ⟨_, rfl, x, _, t, _, false, rfl, .ty "tuple", h3, h4, _, rfl, hN e2 Hc same_refl⟩
    | some m =>
      obtain ⟨b, ys, rfl, hb⟩ := pt.ref
      exact ⟨_, rfl, .ref b, _, _, _, true, rfl, .ty "tuple", .base (.tup hb), kb "tuple" "tuple" true, _, rfl, _, rfl, _, m, rfl, pt, fun H4 s4 => hY _ e2 H4 s4⟩
  · intro Hc hc sm
    rw [fm_ints] at hc
    refine ⟨C, _, rfl, SqL.of hc, _, _, rfl, rfl, ?_⟩
    rw [sum_fm]
    have e : (1 : Int) + ((os.map fun o => o.getD 0).sum : Nat) = (k : Int) := by rw [hk]; omega
    show Q (.int (1 + ((os.map fun o => o.getD 0).sum : Nat))) Hc
    rw [e]
    exact q Hc (s1.trans sm)
theorem all_count (O : Own mg) (F : Fun K "count_terms" "count_terms" sCount f fd) (bG : Binds K fd ["term"] []) (mG : mg "count_terms" = some (.ref f)) : ∀ n : Nat, FnOk P w K mg base CX0 (n + 1) f fd ["term"] (spCount n)
  | 0 => no_count
  | n + 1 => ok_count O F (all_count O F bG mG n) bG mG
end
end Any
namespace Any
open L2 PySem PySem.Spec PyProof.Rows LamX NdefX
/-- a list or a tuple of names -/
def Nms (H : Hp) (b : Addr) (xs : List Str) : Prop := (H b = some (.lst (xs.map V.str)) ∨ H b = some (.tup (xs.map V.str)))
theorem Nms.keep {H H' : Hp} {b : Addr} {xs : List Str} (s : Same H H') (h : Nms H b xs) : Nms H' b xs := h.elim (fun h => .inl (s _ _ h)) (fun h => .inr (s _ _ h))
theorem Nms.seq {K : PySem.W.Frag} {H : Hp} {b : Addr} {xs : List Str} (h : Nms H b xs) : SqL K H b (xs.map V.str) ∨ SqT K H b (xs.map V.str) := h.elim (fun h => .inl (SqL.of h)) (fun h => .inr (SqT.of h))
theorem in_strs {x : Str} {xs : List Str} : inV (.str x) (xs.map V.str) = decide (x ∈ xs) := by
  unfold inV
  induction xs with
  | nil => rfl
  | cons y r ih =>
    rw [List.map_cons, List.any_cons, ih]
    by_cases e : y = x
    · subst e
      rw [decide_eq_true (List.mem_cons_self ..)]
      have e0 : eqV (.str y) (.str y) = true := by
        show decide (y = y) = true
        exact decide_eq_true rfl
      rw [e0]
      rfl
    · have e1 : eqV (.str y) (.str x) = false := by
        show decide (y = x) = false
        exact decide_eq_false e
      rw [e1, Bool.false_or]
      refine decide_eq_decide.mpr ⟨fun h => List.mem_cons_of_mem _ h, fun h => ?_⟩
      rcases List.mem_cons.mp h with h | h
      · exact absurd h.symm e
      · exact h
abbrev psF : List Str := ["thing", "boxes", "words", "deep"]
abbrev nmF : List Str := ["thing", "boxes", "words", "deep", "kind", "part"]
def spEF (n : Nat) : Sp := fun vs H Q _ => ∃ (v : V) (b wd : Addr) (e : Ex) (xs ws : List Str) (k : Nat), vs = [v, .ref b, .ref wd, .int k] ∧ ExAt H v e ∧ e.fit xs ws ∧ e.deep ≤ k ∧ k ≤ n ∧ Nms H b xs ∧ H wd = some (.tup (ws.map V.str)) ∧ ∀ H', Same H H' → Q (.bl true) H'
abbrev deedWords : List Str := ["plus", "less", "times", "over", "rest"]
theorem deed_in (d : Dd) : d.word ∈ deedWords := by cases d <;> decide
section
variable {P : Program} {w : World} {K : PySem.W.Frag} {mg : Str → Option Value} {base : Heap} {f rw' wi : Addr} {fd rd wid : FuncData}
theorem no_ef {k : Nat} : FnOk P w K mg base CX0 k f fd psF (spEF 0) := by
  have no : ∀ vs H Q E, ¬ spEF 0 vs H Q E := fun vs H Q E h => by
    obtain ⟨v, b, wd, e, xs, ws, k, _, _, _, h1, h2, _⟩ := h
    exact absurd (Nat.le_trans h1 h2) (Nat.not_le.mpr (Ex.deep_pos _))
  exact ⟨fun vs H Q E h => absurd h (no vs H Q E), fun A outer s H args us vs Q E _ _ _ _ h => absurd h (no vs H Q E)⟩
theorem ok_ef {n : Nat} (O : Own mg) (F : Fun K "expression_fits" "expression_fits" sExFits f fd) (G : FnOk P w K mg base CX0 (n + 3) f fd psF (spEF n)) (bG : Binds K fd psF []) (mG : mg "expression_fits" = some (.ref f))
    (R : FnOk P w K mg base CX0 1 rw' rd ["thing"] spRow) (bR : Binds K rd ["thing"] []) (kR : PySem.W.keepIn K (.ref rw') = true) (mR : mg "is_row" = some (.ref rw'))
    (WI : FnOk P w K mg base CX0 2 wi wid ["thing", "least", "most"] spWithin) (bW : Binds K wid ["thing", "least", "most"] []) (kW : PySem.W.keepIn K (.ref wi) = true) (mW : mg "is_within" = some (.ref wi))
    {DA : Addr} (mD : mg "DEEDS" = some (.ref DA)) (kD : KKeys K w DA deedWords) :
    FnOk P w K mg base CX0 (n + 4) f fd psF (spEF (n + 1)) := by
  refine F.ok scExFits (fun vs H Q E h => ?_) (fun cdv A outer s H vs Q E hr h => ?_)
  · obtain ⟨v, b, wd, e, xs, ws, k, rfl, _⟩ := h
    rfl
  obtain ⟨v, b, wd, e, xs, ws, k, rfl, hv, hf, hd, hk, hb, hw, q⟩ := h
  have hr1 := hr.mono (show 1 ≤ n + 3 by omega)
  have hr2 := hr.mono (show 2 ≤ n + 3 by omega)
  have k0 : ¬ (k : Int) = 0 := by have := e.deep_pos; omega
  refine ⟨_, pss_cons (ps_if (PW.pt (pw_or (pt_not (pt_val (pe_call R hr1 rfl mR kR bR .nil pass0 (pa_cons (pv 0) pa_nil)))) (pw_or1 (pt_cmpR op_eq (pv 3) pe_int (nomark _))))) (pss_one (ps_ret pe_bl)) pss_nil)
    (pss_cons (ps_set (i := 4) scExFits.nd rfl (Or.inl rfl) (pe_ix ix_tup (pv 0) pe_int (fun _ _ => rfl)))
    (pss_cons (ps_if (pt_cmpR op_eq (pv 4) pe_str (nomark _)) (pss_one (ps_ret (pe_and (pe_cmpR op_eq (pe_callB call_len_seq rfl O.len PySem.boot_len (pa_cons (pv 0) pa_nil)) pe_int (nomark _))
        (pe_one (pe_call WI hr2 rfl mW kW bW .nil pass0 (pa_cons (pe_ix ix_tup (pv 0) pe_int (fun _ _ => rfl)) (pa_cons pe_int (pa_cons pe_int pa_nil)))))))) pss_nil)
    (pss_cons (ps_if (pt_cmpR op_eq (pv 4) pe_str (nomark _)) (pss_one (ps_ret (pe_and (pe_cmpR op_eq (pe_callB call_len_seq rfl O.len PySem.boot_len (pa_cons (pv 0) pa_nil)) pe_int (nomark _))
        (pe_one (pe_cmpR op_in_seq (pe_ix ix_tup (pv 0) pe_int (fun _ _ => rfl)) (pv 1) (by rfl)))))) pss_nil)
    (pss_cons (ps_if (pt_cmpR op_in_seq (pv 4) (pe_callTy (call_listK rfl) rfl O.list (by decide +kernel) (pa_cons (pe_glob (v := .ref DA) rfl mD rfl) pa_nil)) (by rfl))
        (pss_one (ps_ret (pe_and (pe_cmpR op_eq (pe_callB call_len_seq rfl O.len PySem.boot_len (pa_cons (pv 0) pa_nil)) pe_int (nomark _))
          (pe_one (pe_callB (cr_all rfl) rfl O.all (by decide +kernel) (pa_cons (pe_lc (own := [("part", 5)]) (g := gName 5) (tt := tYes) rfl scExFits.nd
            (pi_tup (pe_slice sl_tup (pv 0) (po_some pe_int) po_none)) (blkOk_by (N := nmF) (sc := defScope sExFits) (by decide +kernel))
            (fun _ _ _ _ _ => pg_name (i := 5) scExFits.nd rfl (Or.inl rfl)) (fun _ _ _ _ _ => pts_nil)
            (fun _ _ _ _ _ => pe_call G hr rfl mG F.kp bG .nil pass0 (pa_cons (pv 5) (pa_cons (pv 1) (pa_cons (pv 2) (pa_cons (pe_op op_sub (pv 3) pe_int) pa_nil)))))) pa_nil)))))) pss_nil)
    (pss_one (ps_ret (pe_and (pe_cmpR op_eq (pe_callB call_len_seq rfl O.len PySem.boot_len (pa_cons (pv 0) pa_nil)) pe_int (nomark _)) (pe_one (pe_cmpR op_in_seq (pv 4) (pv 2) (by rfl)))))))))), ?_⟩
  have kk : decide (V.int (k : Int) = V.int 0) = false := decide_eq_false fun z => k0 (V.int.inj z)
  cases hv with
  | num h =>
    refine ⟨_, rfl, _, _, _, rfl, h, _, rfl, itF rfl ⟨_, rfl, rfl, _, rfl, itF kk ?_⟩⟩
    refine ⟨_, rfl, _, _, _, _, rfl, rfl, SqT.of h, atI_nat (j := 0) rfl, ?_⟩
    refine ⟨_, rfl, rfl, _, rfl, itT eq_str ?_⟩
    refine ⟨_, rfl, _, _, rfl, .inr (SqT.of h), rfl, _, rfl, itT rfl ?_⟩
    refine ⟨_, rfl, _, _, _, _, rfl, rfl, SqT.of h, atI_nat (j := 1) rfl, _, _, _, rfl, ?_⟩
    rename_i m
    have hf : 0 ≤ m ∧ m ≤ (999 : Int) := hf
    rw [decide_eq_true hf.1, decide_eq_true hf.2]
    exact q _ same_refl
  | box h =>
    refine ⟨_, rfl, _, _, _, rfl, h, _, rfl, itF rfl ⟨_, rfl, rfl, _, rfl, itF kk ?_⟩⟩
    refine ⟨_, rfl, _, _, _, _, rfl, rfl, SqT.of h, atI_nat (j := 0) rfl, ?_⟩
    refine ⟨_, rfl, rfl, _, rfl, itF (ne_str (by decide)) ?_⟩
    refine ⟨_, rfl, rfl, _, rfl, itT eq_str ?_⟩
    refine ⟨_, rfl, _, _, rfl, .inr (SqT.of h), rfl, _, rfl, itT rfl ?_⟩
    refine ⟨_, rfl, _, _, _, _, rfl, rfl, SqT.of h, atI_nat (j := 1) rfl, _, rfl, b, _, rfl, hb.seq, rfl, strs_flat _, ?_⟩
    have hf : _ ∈ xs := hf
    show Q (.bl (inV _ _)) H
    rw [in_strs, decide_eq_true hf]
    exact q _ same_refl
  | asked h =>
    refine ⟨_, rfl, _, _, _, rfl, h, _, rfl, itF rfl ⟨_, rfl, rfl, _, rfl, itF kk ?_⟩⟩
    refine ⟨_, rfl, _, _, _, _, rfl, rfl, SqT.of h, atI_nat (j := 0) rfl, ?_⟩
    refine ⟨_, rfl, rfl, _, rfl, itF (ne_str (by decide)) ?_⟩
    refine ⟨_, rfl, rfl, _, rfl, itF (ne_str (by decide)) ?_⟩
    refine ⟨_, rfl, DA, _, rfl, kD, fun p hp => ⟨p, _, rfl, .inl (SqL.of upd_same), rfl, rfl, _, rfl, itF rfl ?_⟩⟩
    have s1 := same_new hp (.lst (deedWords.map V.str))
    refine ⟨_, rfl, _, _, rfl, .inr (SqT.of (s1 _ _ h)), rfl, _, rfl, itT rfl ?_⟩
    refine ⟨_, rfl, _, rfl, wd, _, rfl, .inr (SqT.of (s1 _ _ hw)), rfl, strs_flat _, ?_⟩
    have hf : _ ∈ ws := hf
    show Q (.bl (inV _ _)) _
    rw [in_strs, decide_eq_true hf]
    exact q _ s1
  | told h =>
    refine ⟨_, rfl, _, _, _, rfl, h, _, rfl, itF rfl ⟨_, rfl, rfl, _, rfl, itF kk ?_⟩⟩
    refine ⟨_, rfl, _, _, _, _, rfl, rfl, SqT.of h, atI_nat (j := 0) rfl, ?_⟩
    refine ⟨_, rfl, rfl, _, rfl, itF (ne_str (by decide)) ?_⟩
    refine ⟨_, rfl, rfl, _, rfl, itF (ne_str (by decide)) ?_⟩
    refine ⟨_, rfl, DA, _, rfl, kD, fun p hp => ⟨p, _, rfl, .inl (SqL.of upd_same), rfl, rfl, _, rfl, itF rfl ?_⟩⟩
    have s1 := same_new hp (.lst (deedWords.map V.str))
    refine ⟨_, rfl, _, _, rfl, .inr (SqT.of (s1 _ _ h)), rfl, _, rfl, itT rfl ?_⟩
    refine ⟨_, rfl, _, rfl, wd, _, rfl, .inr (SqT.of (s1 _ _ hw)), rfl, strs_flat _, ?_⟩
    have hf : _ ∈ ws := hf
    show Q (.bl (inV _ _)) _
    rw [in_strs, decide_eq_true hf]
    exact q _ s1
  | op h h1 h2 =>
    rename_i a d x y l r
    have w1 : d.word ≠ "number" ∧ d.word ≠ "box" := by cases d <;> decide
    have hd : max l.deep r.deep + 1 ≤ k := hd
    refine ⟨_, rfl, _, _, _, rfl, h, _, rfl, itF rfl ⟨_, rfl, rfl, _, rfl, itF kk ?_⟩⟩
    refine ⟨_, rfl, _, _, _, _, rfl, rfl, SqT.of h, atI_nat (j := 0) rfl, ?_⟩
    refine ⟨_, rfl, rfl, _, rfl, itF (ne_str w1.1) ?_⟩
    refine ⟨_, rfl, rfl, _, rfl, itF (ne_str w1.2) ?_⟩
    refine ⟨_, rfl, DA, _, rfl, kD, fun p hp => ⟨p, _, rfl, .inl (SqL.of upd_same), rfl, rfl, _, rfl, itT ?_ ?_⟩⟩
    · show inV _ _ = true
      rw [in_strs]
      exact decide_eq_true (deed_in d)
    have s1 := same_new hp (.lst (deedWords.map V.str))
    refine ⟨_, rfl, _, _, rfl, .inr (SqT.of (s1 _ _ h)), rfl, _, rfl, itT rfl ?_⟩
    refine ⟨_, rfl, 1, rfl, a, _, rfl, SqT.of (s1 _ _ h), (by show ¬ (1 = 0 ∧ _); omega), fun p2 hp2 => ⟨p2, rfl, ⟨_, SqT.of upd_same⟩, fun C hC => ?_⟩⟩
    have s2 := s1.trans (same_new hp2 (.tup [x, y]))
    refine turns_tup (K := K) (a := p2) (xs := [x, y]) [some (.bl true), some (.bl true)] hC (fun Hc sm => SqT.of (sm _ _ upd_same)) rfl (by show 2 ≤ sizeLine; decide) ?_ ?_
    · intro i z o Hc Y N hx ho sm hY hN
      have s3 := s2.trans sm
      have ek : (k : Int) - 1 = ((k - 1 : Nat) : Int) := by omega
      match i, hx, ho with
      | 0, hx, ho =>
        cases hx
        cases ho
        exact ⟨rfl, _, rfl, _, rfl, _, rfl, _, rfl, _, _, rfl, rfl, x, b, wd, l, xs, ws, k - 1, (by rw [← ek]; rfl), h1.keep (Same.tups s3), hf.1, by omega, by omega, hb.keep s3, s3 _ _ hw, fun H4 s4 => hY _ rfl H4 s4⟩
      | 1, hx, ho =>
        cases hx
        cases ho
        exact ⟨rfl, _, rfl, _, rfl, _, rfl, _, rfl, _, _, rfl, rfl, y, b, wd, r, xs, ws, k - 1, (by rw [← ek]; rfl), h2.keep (Same.tups s3), hf.2, by omega, by omega, hb.keep s3, s3 _ _ hw, fun H4 s4 => hY _ rfl H4 s4⟩
    · intro Hc hc sm
      exact ⟨C, [true, true], rfl, SqL.of hc, q Hc (s2.trans sm)⟩
theorem all_ef (O : Own mg) (F : Fun K "expression_fits" "expression_fits" sExFits f fd) (bG : Binds K fd psF []) (mG : mg "expression_fits" = some (.ref f))
    (R : FnOk P w K mg base CX0 1 rw' rd ["thing"] spRow) (bR : Binds K rd ["thing"] []) (kR : PySem.W.keepIn K (.ref rw') = true) (mR : mg "is_row" = some (.ref rw'))
    (WI : FnOk P w K mg base CX0 2 wi wid ["thing", "least", "most"] spWithin) (bW : Binds K wid ["thing", "least", "most"] []) (kW : PySem.W.keepIn K (.ref wi) = true) (mW : mg "is_within" = some (.ref wi))
    {DA : Addr} (mD : mg "DEEDS" = some (.ref DA)) (kD : KKeys K w DA deedWords) : ∀ n : Nat, FnOk P w K mg base CX0 (n + 3) f fd psF (spEF n)
  | 0 => no_ef
  | n + 1 => ok_ef O F (all_ef O F bG mG R bR kR mR WI bW kW mW mD kD n) bG mG R bR kR mR WI bW kW mW mD kD
end
end Any
namespace Any
open L2 PySem PySem.Spec PyProof.Rows LamX NdefX
def spTF (n : Nat) : Sp := fun vs H Q _ => ∃ (v : V) (b wd : Addr) (e : Ts) (xs ws : List Str) (k : Nat), vs = [v, .ref b, .ref wd, .int k] ∧ TsAt H v e ∧ e.fit xs ws ∧ e.dp ≤ k ∧ k ≤ n ∧ k ≤ 6 ∧ Nms H b xs ∧ H wd = some (.tup (ws.map V.str)) ∧ ∀ H', Same H H' → Q (.bl true) H'
section
variable {P : Program} {w : World} {K : PySem.W.Frag} {mg : Str → Option Value} {base : Heap} {f ef rw' : Addr} {fd ed rd : FuncData}
theorem no_tf {k : Nat} : FnOk P w K mg base CX0 k f fd psF (spTF 0) := by
  have no : ∀ vs H Q E, ¬ spTF 0 vs H Q E := fun vs H Q E h => by
    obtain ⟨v, b, wd, e, xs, ws, k, _, _, _, h1, h2, _⟩ := h
    exact absurd (Nat.le_trans h1 h2) (Nat.not_le.mpr (Ts.dp_pos _))
  exact ⟨fun vs H Q E h => absurd h (no vs H Q E), fun A outer s H args us vs Q E _ _ _ _ h => absurd h (no vs H Q E)⟩
theorem ok_tf {n : Nat} (O : Own mg) (F : Fun K "test_fits" "test_fits" sTsFits f fd) (G : FnOk P w K mg base CX0 (n + 9) f fd psF (spTF n)) (bG : Binds K fd psF []) (mG : mg "test_fits" = some (.ref f))
    (R : FnOk P w K mg base CX0 1 rw' rd ["thing"] spRow) (bR : Binds K rd ["thing"] []) (kR : PySem.W.keepIn K (.ref rw') = true) (mR : mg "is_row" = some (.ref rw'))
    (GE : FnOk P w K mg base CX0 9 ef ed psF (spEF 6)) (bE : Binds K ed psF []) (kE : PySem.W.keepIn K (.ref ef) = true) (mE : mg "expression_fits" = some (.ref ef)) :
    FnOk P w K mg base CX0 (n + 10) f fd psF (spTF (n + 1)) := by
  refine F.ok scTsFits (fun vs H Q E h => ?_) (fun cdv A outer s H vs Q E hr h => ?_)
  · obtain ⟨v, b, wd, e, xs, ws, k, rfl, _⟩ := h
    rfl
  obtain ⟨v, b, wd, e, xs, ws, k, rfl, hv, hf, hd, hk, hk6, hb, hw, q⟩ := h
  have hr1 := hr.mono (show 1 ≤ n + 9 by omega)
  have hr9 := hr.mono (show 9 ≤ n + 9 by omega)
  have k0 : ¬ (k : Int) = 0 := by have := e.dp_pos; omega
  have two : 2 ≤ sizeLine := by decide
  have ek : (k : Int) - 1 = ((k - 1 : Nat) : Int) := by have := e.dp_pos; omega
  refine ⟨_, pss_cons (ps_if (PW.pt (pw_or (pt_not (pt_val (pe_call R hr1 rfl mR kR bR .nil pass0 (pa_cons (pv 0) pa_nil)))) (pw_or1 (pt_cmpR op_eq (pv 3) pe_int (nomark _))))) (pss_one (ps_ret pe_bl)) pss_nil)
    (pss_cons (ps_set (i := 4) scTsFits.nd rfl (Or.inl rfl) (pe_ix ix_tup (pv 0) pe_int (fun _ _ => rfl)))
    (pss_cons (ps_if (pt_cmpR op_in_seq (pv 4) (pe_tup (pa_cons pe_str (pa_cons pe_str pa_nil))) (by rfl))
        (pss_one (ps_ret (pe_and (pe_cmpR op_eq (pe_callB call_len_seq rfl O.len PySem.boot_len (pa_cons (pv 0) pa_nil)) pe_int (nomark _))
          (pe_one (pe_callB (cr_all rfl) rfl O.all (by decide +kernel) (pa_cons (pe_lc (own := [("part", 5)]) (g := gName 5) (tt := tYes) rfl scTsFits.nd
            (pi_tup (pe_slice sl_tup (pv 0) (po_some pe_int) po_none)) (blkOk_by (N := nmF) (sc := defScope sTsFits) (by decide +kernel))
            (fun _ _ _ _ _ => pg_name (i := 5) scTsFits.nd rfl (Or.inl rfl)) (fun _ _ _ _ _ => pts_nil)
            (fun _ _ _ _ _ => pe_call GE hr9 rfl mE kE bE .nil pass0 (pa_cons (pv 5) (pa_cons (pv 1) (pa_cons (pv 2) (pa_cons (pe_op op_sub (pv 3) pe_int) pa_nil)))))) pa_nil)))))) pss_nil)
    (pss_cons (ps_if (pt_cmpR op_eq (pv 4) pe_str (nomark _)) (pss_one (ps_ret (pe_and (pe_cmpR op_eq (pe_callB call_len_seq rfl O.len PySem.boot_len (pa_cons (pv 0) pa_nil)) pe_int (nomark _))
        (pe_one (pe_call G hr rfl mG F.kp bG .nil pass0 (pa_cons (pe_ix ix_tup (pv 0) pe_int (fun _ _ => rfl)) (pa_cons (pv 1) (pa_cons (pv 2) (pa_cons (pe_op op_sub (pv 3) pe_int) pa_nil))))))))) pss_nil)
    (pss_cons (ps_if (pt_cmpR op_in_seq (pv 4) (pe_tup (pa_cons pe_str (pa_cons pe_str pa_nil))) (by rfl))
        (pss_one (ps_ret (pe_and (pe_cmpR op_eq (pe_callB call_len_seq rfl O.len PySem.boot_len (pa_cons (pv 0) pa_nil)) pe_int (nomark _))
          (pe_one (pe_callB (cr_all rfl) rfl O.all (by decide +kernel) (pa_cons (pe_lc (own := [("part", 5)]) (g := gName 5) (tt := tYes) rfl scTsFits.nd
            (pi_tup (pe_slice sl_tup (pv 0) (po_some pe_int) po_none)) (blkOk_by (N := nmF) (sc := defScope sTsFits) (by decide +kernel))
            (fun _ _ _ _ _ => pg_name (i := 5) scTsFits.nd rfl (Or.inl rfl)) (fun _ _ _ _ _ => pts_nil)
            (fun _ _ _ _ _ => pe_call G hr rfl mG F.kp bG .nil pass0 (pa_cons (pv 5) (pa_cons (pv 1) (pa_cons (pv 2) (pa_cons (pe_op op_sub (pv 3) pe_int) pa_nil)))))) pa_nil)))))) pss_nil)
    (pss_one (ps_ret pe_bl)))))), ?_⟩
  have kk : decide (V.int (k : Int) = V.int 0) = false := decide_eq_false fun z => k0 (V.int.inj z)
  cases hv with
  | is h h1 h2 =>
    rename_i a x y l r
    have hd : max l.deep r.deep + 1 ≤ k := hd
    refine ⟨_, rfl, _, _, _, rfl, h, _, rfl, itF rfl ⟨_, rfl, rfl, _, rfl, itF kk ?_⟩⟩
    refine ⟨_, rfl, _, _, _, _, rfl, rfl, SqT.of h, atI_nat (j := 0) rfl, ?_⟩
    refine ⟨_, rfl, two, fun p hp => ⟨p, _, rfl, .inr (SqT.of upd_same), rfl, rfl, _, rfl, itT rfl ?_⟩⟩
    have s1 := same_new hp (.tup [.str "is", .str "below"])
    refine ⟨_, rfl, _, _, rfl, .inr (SqT.of (s1 _ _ h)), rfl, _, rfl, itT rfl ?_⟩
    refine ⟨_, rfl, 1, rfl, a, _, rfl, SqT.of (s1 _ _ h), (by show ¬ (1 = 0 ∧ _); omega), fun p2 hp2 => ⟨p2, rfl, ⟨_, SqT.of upd_same⟩, fun C hC => ?_⟩⟩
    have s2 := s1.trans (same_new hp2 (.tup [x, y]))
    refine turns_tup (K := K) (a := p2) (xs := [x, y]) [some (.bl true), some (.bl true)] hC (fun Hc sm => SqT.of (sm _ _ upd_same)) rfl two ?_ ?_
    · intro i z o Hc Y N hx ho sm hY hN
      have s3 := s2.trans sm
      match i, hx, ho with
      | 0, hx, ho =>
        cases hx
        cases ho
        exact ⟨rfl, _, rfl, _, rfl, _, rfl, _, rfl, _, _, rfl, rfl, x, b, wd, l, xs, ws, k - 1, (by rw [← ek]; rfl), h1.keep (Same.tups s3), hf.1, by omega, by omega, hb.keep s3, s3 _ _ hw, fun H4 s4 => hY _ rfl H4 s4⟩
      | 1, hx, ho =>
        cases hx
        cases ho
        exact ⟨rfl, _, rfl, _, rfl, _, rfl, _, rfl, _, _, rfl, rfl, y, b, wd, r, xs, ws, k - 1, (by rw [← ek]; rfl), h2.keep (Same.tups s3), hf.2, by omega, by omega, hb.keep s3, s3 _ _ hw, fun H4 s4 => hY _ rfl H4 s4⟩
    · intro Hc hc sm
      exact ⟨C, [true, true], rfl, SqL.of hc, q Hc (s2.trans sm)⟩
  | bel h h1 h2 =>
    rename_i a x y l r
    have hd : max l.deep r.deep + 1 ≤ k := hd
    refine ⟨_, rfl, _, _, _, rfl, h, _, rfl, itF rfl ⟨_, rfl, rfl, _, rfl, itF kk ?_⟩⟩
    refine ⟨_, rfl, _, _, _, _, rfl, rfl, SqT.of h, atI_nat (j := 0) rfl, ?_⟩
    refine ⟨_, rfl, two, fun p hp => ⟨p, _, rfl, .inr (SqT.of upd_same), rfl, rfl, _, rfl, itT rfl ?_⟩⟩
    have s1 := same_new hp (.tup [.str "is", .str "below"])
    refine ⟨_, rfl, _, _, rfl, .inr (SqT.of (s1 _ _ h)), rfl, _, rfl, itT rfl ?_⟩
    refine ⟨_, rfl, 1, rfl, a, _, rfl, SqT.of (s1 _ _ h), (by show ¬ (1 = 0 ∧ _); omega), fun p2 hp2 => ⟨p2, rfl, ⟨_, SqT.of upd_same⟩, fun C hC => ?_⟩⟩
    have s2 := s1.trans (same_new hp2 (.tup [x, y]))
    refine turns_tup (K := K) (a := p2) (xs := [x, y]) [some (.bl true), some (.bl true)] hC (fun Hc sm => SqT.of (sm _ _ upd_same)) rfl two ?_ ?_
    · intro i z o Hc Y N hx ho sm hY hN
      have s3 := s2.trans sm
      match i, hx, ho with
      | 0, hx, ho =>
        cases hx
        cases ho
        exact ⟨rfl, _, rfl, _, rfl, _, rfl, _, rfl, _, _, rfl, rfl, x, b, wd, l, xs, ws, k - 1, (by rw [← ek]; rfl), h1.keep (Same.tups s3), hf.1, by omega, by omega, hb.keep s3, s3 _ _ hw, fun H4 s4 => hY _ rfl H4 s4⟩
      | 1, hx, ho =>
        cases hx
        cases ho
        exact ⟨rfl, _, rfl, _, rfl, _, rfl, _, rfl, _, _, rfl, rfl, y, b, wd, r, xs, ws, k - 1, (by rw [← ek]; rfl), h2.keep (Same.tups s3), hf.2, by omega, by omega, hb.keep s3, s3 _ _ hw, fun H4 s4 => hY _ rfl H4 s4⟩
    · intro Hc hc sm
      exact ⟨C, [true, true], rfl, SqL.of hc, q Hc (s2.trans sm)⟩
  | nt h h1 =>
    rename_i a x t
    have hd : t.dp + 1 ≤ k := hd
    refine ⟨_, rfl, _, _, _, rfl, h, _, rfl, itF rfl ⟨_, rfl, rfl, _, rfl, itF kk ?_⟩⟩
    refine ⟨_, rfl, _, _, _, _, rfl, rfl, SqT.of h, atI_nat (j := 0) rfl, ?_⟩
    refine ⟨_, rfl, two, fun p hp => ⟨p, _, rfl, .inr (SqT.of upd_same), rfl, rfl, _, rfl, itF rfl ?_⟩⟩
    have s1 := same_new hp (.tup [.str "is", .str "below"])
    refine ⟨_, rfl, rfl, _, rfl, itT eq_str ?_⟩
    refine ⟨_, rfl, _, _, rfl, .inr (SqT.of (s1 _ _ h)), rfl, _, rfl, itT rfl ?_⟩
    exact ⟨_, rfl, _, _, _, _, rfl, rfl, SqT.of (s1 _ _ h), atI_nat (j := 1) rfl, _, rfl, _, rfl, _, rfl, _, _, rfl, rfl, x, b, wd, t, xs, ws, k - 1, (by rw [← ek]; rfl), h1.keep (Same.tups s1), hf, by omega, by omega, by omega, hb.keep s1, s1 _ _ hw, fun H4 s4 => q H4 (s1.trans s4)⟩
  | both h h1 h2 =>
    rename_i a x y l r
    have hd : max l.dp r.dp + 1 ≤ k := hd
    refine ⟨_, rfl, _, _, _, rfl, h, _, rfl, itF rfl ⟨_, rfl, rfl, _, rfl, itF kk ?_⟩⟩
    refine ⟨_, rfl, _, _, _, _, rfl, rfl, SqT.of h, atI_nat (j := 0) rfl, ?_⟩
    refine ⟨_, rfl, two, fun p hp => ⟨p, _, rfl, .inr (SqT.of upd_same), rfl, rfl, _, rfl, itF rfl ?_⟩⟩
    have s1 := same_new hp (.tup [.str "is", .str "below"])
    refine ⟨_, rfl, rfl, _, rfl, itF (ne_str (by decide)) ?_⟩
    refine ⟨_, rfl, two, fun p1 hp1 => ⟨p1, _, rfl, .inr (SqT.of upd_same), rfl, rfl, _, rfl, itT rfl ?_⟩⟩
    have s1 := s1.trans (same_new hp1 (.tup [.str "both", .str "either"]))
    refine ⟨_, rfl, _, _, rfl, .inr (SqT.of (s1 _ _ h)), rfl, _, rfl, itT rfl ?_⟩
    refine ⟨_, rfl, 1, rfl, a, _, rfl, SqT.of (s1 _ _ h), (by show ¬ (1 = 0 ∧ _); omega), fun p2 hp2 => ⟨p2, rfl, ⟨_, SqT.of upd_same⟩, fun C hC => ?_⟩⟩
    have s2 := s1.trans (same_new hp2 (.tup [x, y]))
    refine turns_tup (K := K) (a := p2) (xs := [x, y]) [some (.bl true), some (.bl true)] hC (fun Hc sm => SqT.of (sm _ _ upd_same)) rfl two ?_ ?_
    · intro i z o Hc Y N hx ho sm hY hN
      have s3 := s2.trans sm
      match i, hx, ho with
      | 0, hx, ho =>
        cases hx
        cases ho
        exact ⟨rfl, _, rfl, _, rfl, _, rfl, _, rfl, _, _, rfl, rfl, x, b, wd, l, xs, ws, k - 1, (by rw [← ek]; rfl), h1.keep (Same.tups s3), hf.1, by omega, by omega, by omega, hb.keep s3, s3 _ _ hw, fun H4 s4 => hY _ rfl H4 s4⟩
      | 1, hx, ho =>
        cases hx
        cases ho
        exact ⟨rfl, _, rfl, _, rfl, _, rfl, _, rfl, _, _, rfl, rfl, y, b, wd, r, xs, ws, k - 1, (by rw [← ek]; rfl), h2.keep (Same.tups s3), hf.2, by omega, by omega, by omega, hb.keep s3, s3 _ _ hw, fun H4 s4 => hY _ rfl H4 s4⟩
    · intro Hc hc sm
      exact ⟨C, [true, true], rfl, SqL.of hc, q Hc (s2.trans sm)⟩
  | either h h1 h2 =>
    rename_i a x y l r
    have hd : max l.dp r.dp + 1 ≤ k := hd
    refine ⟨_, rfl, _, _, _, rfl, h, _, rfl, itF rfl ⟨_, rfl, rfl, _, rfl, itF kk ?_⟩⟩
    refine ⟨_, rfl, _, _, _, _, rfl, rfl, SqT.of h, atI_nat (j := 0) rfl, ?_⟩
    refine ⟨_, rfl, two, fun p hp => ⟨p, _, rfl, .inr (SqT.of upd_same), rfl, rfl, _, rfl, itF rfl ?_⟩⟩
    have s1 := same_new hp (.tup [.str "is", .str "below"])
    refine ⟨_, rfl, rfl, _, rfl, itF (ne_str (by decide)) ?_⟩
    refine ⟨_, rfl, two, fun p1 hp1 => ⟨p1, _, rfl, .inr (SqT.of upd_same), rfl, rfl, _, rfl, itT rfl ?_⟩⟩
    have s1 := s1.trans (same_new hp1 (.tup [.str "both", .str "either"]))
    refine ⟨_, rfl, _, _, rfl, .inr (SqT.of (s1 _ _ h)), rfl, _, rfl, itT rfl ?_⟩
    refine ⟨_, rfl, 1, rfl, a, _, rfl, SqT.of (s1 _ _ h), (by show ¬ (1 = 0 ∧ _); omega), fun p2 hp2 => ⟨p2, rfl, ⟨_, SqT.of upd_same⟩, fun C hC => ?_⟩⟩
    have s2 := s1.trans (same_new hp2 (.tup [x, y]))
    refine turns_tup (K := K) (a := p2) (xs := [x, y]) [some (.bl true), some (.bl true)] hC (fun Hc sm => SqT.of (sm _ _ upd_same)) rfl two ?_ ?_
    · intro i z o Hc Y N hx ho sm hY hN
      have s3 := s2.trans sm
      match i, hx, ho with
      | 0, hx, ho =>
        cases hx
        cases ho
        exact ⟨rfl, _, rfl, _, rfl, _, rfl, _, rfl, _, _, rfl, rfl, x, b, wd, l, xs, ws, k - 1, (by rw [← ek]; rfl), h1.keep (Same.tups s3), hf.1, by omega, by omega, by omega, hb.keep s3, s3 _ _ hw, fun H4 s4 => hY _ rfl H4 s4⟩
      | 1, hx, ho =>
        cases hx
        cases ho
        exact ⟨rfl, _, rfl, _, rfl, _, rfl, _, rfl, _, _, rfl, rfl, y, b, wd, r, xs, ws, k - 1, (by rw [← ek]; rfl), h2.keep (Same.tups s3), hf.2, by omega, by omega, by omega, hb.keep s3, s3 _ _ hw, fun H4 s4 => hY _ rfl H4 s4⟩
    · intro Hc hc sm
      exact ⟨C, [true, true], rfl, SqL.of hc, q Hc (s2.trans sm)⟩
theorem all_tf (O : Own mg) (F : Fun K "test_fits" "test_fits" sTsFits f fd) (bG : Binds K fd psF []) (mG : mg "test_fits" = some (.ref f))
    (R : FnOk P w K mg base CX0 1 rw' rd ["thing"] spRow) (bR : Binds K rd ["thing"] []) (kR : PySem.W.keepIn K (.ref rw') = true) (mR : mg "is_row" = some (.ref rw'))
    (GE : FnOk P w K mg base CX0 9 ef ed psF (spEF 6)) (bE : Binds K ed psF []) (kE : PySem.W.keepIn K (.ref ef) = true) (mE : mg "expression_fits" = some (.ref ef)) : ∀ n : Nat, FnOk P w K mg base CX0 (n + 9) f fd psF (spTF n)
  | 0 => no_tf
  | n + 1 => ok_tf O F (all_tf O F bG mG R bR kR mR GE bE kE mE n) bG mG R bR kR mR GE bE kE mE
/-! ### is_expression, is_test -/
abbrev ps3 : List Str := ["thing", "boxes", "words"]
/-- an expression as point 4 has it, of these boxes and words -/
def Ex.right (xs ws : List Str) (e : Ex) : Prop := e.fit xs ws ∧ e.deep ≤ 5 ∧ e.cnt ≤ 16
def Ts.right (xs ws : List Str) (e : Ts) : Prop := e.fit xs ws ∧ e.dp ≤ 5 ∧ e.cnt ≤ 16
def spIsE : Sp := fun vs H Q _ => ∃ (v : V) (b wd : Addr) (e : Ex) (xs ws : List Str), vs = [v, .ref b, .ref wd] ∧ ExAt H v e ∧ e.right xs ws ∧ Nms H b xs ∧ H wd = some (.tup (ws.map V.str)) ∧ ∀ H', Same H H' → Q (.bl true) H'
def spIsT : Sp := fun vs H Q _ => ∃ (v : V) (b wd : Addr) (e : Ts) (xs ws : List Str), vs = [v, .ref b, .ref wd] ∧ TsAt H v e ∧ e.right xs ws ∧ Nms H b xs ∧ H wd = some (.tup (ws.map V.str)) ∧ ∀ H', Same H H' → Q (.bl true) H'
theorem ok_isE {ct : Addr} {cd : FuncData} (F : Fun K "is_expression" "is_expression" sIsExpr f fd) (GE : FnOk P w K mg base CX0 9 ef ed psF (spEF 6)) (bE : Binds K ed psF []) (kE : PySem.W.keepIn K (.ref ef) = true) (mE : mg "expression_fits" = some (.ref ef))
    (GC : FnOk P w K mg base CX0 7 ct cd ["term"] (spCount 6)) (bC : Binds K cd ["term"] []) (kC : PySem.W.keepIn K (.ref ct) = true) (mC : mg "count_terms" = some (.ref ct)) {t5 t16 : Tok} (m5 : mg "MOST_DEEP_TERM" = some (.int 5 t5)) (m16 : mg "MOST_TERMS" = some (.int 16 t16)) :
    FnOk P w K mg base CX0 10 f fd ps3 spIsE := by
  refine F.ok scIsExpr (fun vs H Q E h => ?_) (fun cdv A outer s H vs Q E hr h => ?_)
  · obtain ⟨v, b, wd, e, xs, ws, rfl, _⟩ := h
    rfl
  obtain ⟨v, b, wd, e, xs, ws, rfl, hv, ⟨hf, hd, hc⟩, hb, hw, q⟩ := h
  refine ⟨_, pss_one (ps_ret (pe_and (pe_call GE hr rfl mE kE bE .nil pass0 (pa_cons (pv 0) (pa_cons (pv 1) (pa_cons (pv 2) (pa_cons (pe_glob (v := .int 5) rfl m5 ⟨_, rfl⟩) pa_nil)))))
    (pe_one (pe_cmpR op_le (pe_call GC (hr.mono (by decide)) rfl mC kC bC .nil pass0 (pa_cons (pv 0) pa_nil)) (pe_glob (v := .int 16) rfl m16 ⟨_, rfl⟩) (nomark _))))), ?_⟩
  refine ⟨_, rfl, _, rfl, _, rfl, v, b, wd, e, xs, ws, 5, rfl, hv, hf, hd, by decide, hb, hw, fun H1 s1 => ⟨_, rfl, ?_⟩⟩
  refine ⟨_, rfl, v, _, rfl, .ex (hv.keep (Same.tups s1)) (by omega), fun H2 s2 => ⟨_, _, rfl, rfl, ?_⟩⟩
  show Q (.bl (decide ((e.cnt : Int) ≤ 16))) H2
  rw [decide_eq_true (by omega)]
  exact q H2 (s1.trans s2)
theorem ok_isT {tf ct : Addr} {td cd : FuncData} (F : Fun K "is_test" "is_test" sIsTest f fd) (GE : FnOk P w K mg base CX0 15 tf td psF (spTF 6)) (bE : Binds K td psF []) (kE : PySem.W.keepIn K (.ref tf) = true) (mE : mg "test_fits" = some (.ref tf))
    (GC : FnOk P w K mg base CX0 7 ct cd ["term"] (spCount 6)) (bC : Binds K cd ["term"] []) (kC : PySem.W.keepIn K (.ref ct) = true) (mC : mg "count_terms" = some (.ref ct)) {t5 t16 : Tok} (m5 : mg "MOST_DEEP_TERM" = some (.int 5 t5)) (m16 : mg "MOST_TERMS" = some (.int 16 t16)) :
    FnOk P w K mg base CX0 16 f fd ps3 spIsT := by
  refine F.ok scIsTest (fun vs H Q E h => ?_) (fun cdv A outer s H vs Q E hr h => ?_)
  · obtain ⟨v, b, wd, e, xs, ws, rfl, _⟩ := h
    rfl
  obtain ⟨v, b, wd, e, xs, ws, rfl, hv, ⟨hf, hd, hc⟩, hb, hw, q⟩ := h
  refine ⟨_, pss_one (ps_ret (pe_and (pe_call GE hr rfl mE kE bE .nil pass0 (pa_cons (pv 0) (pa_cons (pv 1) (pa_cons (pv 2) (pa_cons (pe_glob (v := .int 5) rfl m5 ⟨_, rfl⟩) pa_nil)))))
    (pe_one (pe_cmpR op_le (pe_call GC (hr.mono (by decide)) rfl mC kC bC .nil pass0 (pa_cons (pv 0) pa_nil)) (pe_glob (v := .int 16) rfl m16 ⟨_, rfl⟩) (nomark _))))), ?_⟩
  refine ⟨_, rfl, _, rfl, _, rfl, v, b, wd, e, xs, ws, 5, rfl, hv, hf, hd, by decide, by decide, hb, hw, fun H1 s1 => ⟨_, rfl, ?_⟩⟩
  refine ⟨_, rfl, v, _, rfl, .ts (hv.keep (Same.tups s1)) (by omega), fun H2 s2 => ⟨_, _, rfl, rfl, ?_⟩⟩
  show Q (.bl (decide ((e.cnt : Int) ≤ 16))) H2
  rw [decide_eq_true (by omega)]
  exact q H2 (s1.trans s2)
end
end Any
namespace Any
open L2 PySem PySem.Spec PyProof.Rows LamX NdefX
/-! ### steps and bodies -/
mutual
inductive Sg
  | set (x : Str) (e : Ex) | say (x : Str) (e : Ex) | hear (x : Str) | call (x r : Str) (e : Ex)
  | ifs (t : Ts) (a b : Bd) | fors (e : Ex) (m : Int) (a : Bd)
inductive Bd
  | nil | cons (s : Sg) (b : Bd)
end
def Bd.len : Bd → Nat
  | .nil => 0
  | .cons _ b => b.len + 1
mutual
/-- how many stand within one another -/
def Sg.dp : Sg → Nat
  | .ifs _ a b => max a.dp b.dp + 1
  | .fors _ _ a => a.dp + 1
  | .set _ _ => 1
  | .say _ _ => 1
  | .hear _ => 1
  | .call _ _ _ => 1
def Bd.dp : Bd → Nat
  | .nil => 0
  | .cons s b => max s.dp b.dp
end
mutual
/-- how many in all -/
def Sg.tot : Sg → Nat
  | .ifs _ a b => 1 + (a.tot + b.tot)
  | .fors _ _ a => 1 + a.tot
  | .set _ _ => 1
  | .say _ _ => 1
  | .hear _ => 1
  | .call _ _ _ => 1
def Bd.tot : Bd → Nat
  | .nil => 0
  | .cons s b => s.tot + b.tot
end
mutual
/-- as point 6 has them, of these boxes, words and rooms beneath -/
def Sg.ok (xs ws rs : List Str) : Sg → Prop
  | .set x e => x ∈ xs ∧ e.right xs ws
  | .say x e => x ∈ xs ∧ e.right xs ws
  | .hear x => x ∈ xs
  | .call x r e => x ∈ xs ∧ r ∈ rs ∧ e.right xs ws
  | .ifs t a b => t.right xs ws ∧ (a.ok xs ws rs ∧ a.len ≤ 12) ∧ (b.ok xs ws rs ∧ b.len ≤ 12)
  | .fors e m a => e.right xs ws ∧ (1 ≤ m ∧ m ≤ 9) ∧ (a.ok xs ws rs ∧ a.len ≤ 12)
def Bd.ok (xs ws rs : List Str) : Bd → Prop
  | .nil => True
  | .cons s b => s.ok xs ws rs ∧ b.ok xs ws rs
end
mutual
/-- a step in the heap -/
def SgAt (H : Hp) (v : V) : Sg → Prop
  | .set x e => ∃ a u, v = .ref a ∧ H a = some (.tup [.str "set", .str x, u]) ∧ ExAt H u e
  | .say x e => ∃ a u, v = .ref a ∧ H a = some (.tup [.str "say", .str x, u]) ∧ ExAt H u e
  | .hear x => ∃ a, v = .ref a ∧ H a = some (.tup [.str "hear", .str x])
  | .call x r e => ∃ a u, v = .ref a ∧ H a = some (.tup [.str "call", .str x, .str r, u]) ∧ ExAt H u e
  | .ifs t p q => ∃ a u b c vs us, v = .ref a ∧ H a = some (.tup [.str "if", u, .ref b, .ref c]) ∧ TsAt H u t ∧ H b = some (.tup vs) ∧ BdL H vs p ∧ H c = some (.tup us) ∧ BdL H us q
  | .fors e m p => ∃ a u b vs, v = .ref a ∧ H a = some (.tup [.str "for", u, .int m, .ref b]) ∧ ExAt H u e ∧ H b = some (.tup vs) ∧ BdL H vs p
/-- steps in the heap -/
def BdL (H : Hp) (vs : List V) : Bd → Prop
  | .nil => vs = []
  | .cons s b => ∃ v us, vs = v :: us ∧ SgAt H v s ∧ BdL H us b
end
/-- a body: a tuple of steps -/
def BdAt (H : Hp) (a : Addr) (b : Bd) : Prop := ∃ vs, H a = some (.tup vs) ∧ BdL H vs b
mutual
theorem SgAt.keep {H H' : Hp} (k : Tups H H') : ∀ (s : Sg) {v : V}, SgAt H v s → SgAt H' v s
  | .set x e, v, h => by
    unfold SgAt at h ⊢
    obtain ⟨a, u, h1, h2, h3⟩ := h
    exact ⟨a, u, h1, k _ _ h2, h3.keep k⟩
  | .say x e, v, h => by
    unfold SgAt at h ⊢
    obtain ⟨a, u, h1, h2, h3⟩ := h
    exact ⟨a, u, h1, k _ _ h2, h3.keep k⟩
  | .hear x, v, h => by
    unfold SgAt at h ⊢
    obtain ⟨a, h1, h2⟩ := h
    exact ⟨a, h1, k _ _ h2⟩
  | .call x r e, v, h => by
    unfold SgAt at h ⊢
    obtain ⟨a, u, h1, h2, h3⟩ := h
    exact ⟨a, u, h1, k _ _ h2, h3.keep k⟩
  | .ifs t p q, v, h => by
    unfold SgAt at h ⊢
    obtain ⟨a, u, b, c, vs, us, h1, h2, h3, h4, h5, h6, h7⟩ := h
    exact ⟨a, u, b, c, vs, us, h1, k _ _ h2, h3.keep k, k _ _ h4, BdL.keep k p h5, k _ _ h6, BdL.keep k q h7⟩
  | .fors e m p, v, h => by
    unfold SgAt at h ⊢
    obtain ⟨a, u, b, vs, h1, h2, h3, h4, h5⟩ := h
    exact ⟨a, u, b, vs, h1, k _ _ h2, h3.keep k, k _ _ h4, BdL.keep k p h5⟩
theorem BdL.keep {H H' : Hp} (k : Tups H H') : ∀ (b : Bd) {vs : List V}, BdL H vs b → BdL H' vs b
  | .nil, vs, h => by
    unfold BdL at h ⊢
    exact h
  | .cons s b, vs, h => by
    unfold BdL at h ⊢
    obtain ⟨v, us, h1, h2, h3⟩ := h
    exact ⟨v, us, h1, SgAt.keep k s h2, BdL.keep k b h3⟩
end
theorem BdL.len {H : Hp} : ∀ {b : Bd} {vs : List V}, BdL H vs b → vs.length = b.len
  | .nil, vs, h => by
    unfold BdL at h
    subst h
    rfl
  | .cons s b, vs, h => by
    unfold BdL at h
    obtain ⟨v, us, rfl, _, h3⟩ := h
    rw [List.length_cons, BdL.len h3]
    rfl
theorem Sg.dp_pos : ∀ s : Sg, 0 < s.dp
  | .set _ _ => by unfold Sg.dp; omega
  | .say _ _ => by unfold Sg.dp; omega
  | .hear _ => by unfold Sg.dp; omega
  | .call _ _ _ => by unfold Sg.dp; omega
  | .ifs _ _ _ => by unfold Sg.dp; omega
  | .fors _ _ _ => by unfold Sg.dp; omega
/-- the steps of a body, one by one -/
theorem BdL.at {H : Hp} {xs ws rs : List Str} {k : Nat} : ∀ {b : Bd} {vs : List V}, BdL H vs b → b.ok xs ws rs → b.dp ≤ k → ∀ {i : Nat} {v : V}, vs[i]? = some v → ∃ s, SgAt H v s ∧ s.ok xs ws rs ∧ s.dp ≤ k
  | .nil, vs, h, _, _, i, v, e => by
    unfold BdL at h
    subst h
    simp at e
  | .cons s b, vs, h, ho, hd, i, v, e => by
    unfold BdL at h
    unfold Bd.ok at ho
    unfold Bd.dp at hd
    obtain ⟨u, us, rfl, h2, h3⟩ := h
    cases i with
    | zero =>
      cases e
      exact ⟨s, h2, ho.1, by omega⟩
    | succ i => exact BdL.at h3 ho.2 (by omega) (i := i) e
theorem fm_true : ∀ us : List V, (us.map fun _ => some (V.bl true)).filterMap id = (us.map fun _ => true).map V.bl
  | [] => rfl
  | x :: r => by
    rw [List.map_cons, List.map_cons, List.map_cons, ← fm_true r]
    rfl
abbrev sBody : Stmt := top 43
abbrev sBFits : Stmt := top 44
abbrev sSFits : Stmt := top 45
abbrev sAll : Stmt := top 46
abbrev sWithinB : Stmt := top 47
abbrev ps4 : List Str := ["thing", "boxes", "words", "beneath"]
abbrev psB : List Str := ["thing", "boxes", "words", "beneath", "deep"]
abbrev psS : List Str := ["step", "boxes", "words", "beneath", "deep"]
abbrev nmB : List Str := ["thing", "boxes", "words", "beneath", "deep", "step"]
abbrev nmS : List Str := ["step", "boxes", "words", "beneath", "deep", "kind", "body"]
theorem scBody : FnScope ps4 ps4 (defScope sBody) := ⟨rfl, rfl, rfl, by decide +kernel, rfl, by decide +kernel, by decide +kernel⟩
theorem scBFits : FnScope nmB psB (defScope sBFits) := ⟨rfl, rfl, rfl, by decide +kernel, rfl, by decide +kernel, by decide +kernel⟩
theorem scSFits : FnScope nmS psS (defScope sSFits) := ⟨rfl, rfl, rfl, by decide +kernel, rfl, by decide +kernel, by decide +kernel⟩
def spBF (n : Nat) : Sp := fun vs H Q _ => ∃ (a b wd bn : Addr) (bd : Bd) (xs ws rs : List Str) (k : Nat), vs = [.ref a, .ref b, .ref wd, .ref bn, .int k] ∧ BdAt H a bd ∧ bd.ok xs ws rs ∧ bd.len ≤ 12 ∧ bd.dp ≤ k ∧ k ≤ n ∧
  Nms H b xs ∧ H wd = some (.tup (ws.map V.str)) ∧ Nms H bn rs ∧ ∀ H', Same H H' → Q (.bl true) H'
def spSF (n : Nat) : Sp := fun vs H Q _ => ∃ (v : V) (b wd bn : Addr) (sg : Sg) (xs ws rs : List Str) (k : Nat), vs = [v, .ref b, .ref wd, .ref bn, .int k] ∧ SgAt H v sg ∧ sg.ok xs ws rs ∧ sg.dp ≤ k ∧ k ≤ n ∧
  Nms H b xs ∧ H wd = some (.tup (ws.map V.str)) ∧ Nms H bn rs ∧ ∀ H', Same H H' → Q (.bl true) H'
section
variable {P : Program} {w : World} {K : PySem.W.Frag} {mg : Str → Option Value} {base : Heap} {f sf : Addr} {fd sd : FuncData}
theorem no_sf {k : Nat} : FnOk P w K mg base CX0 k f fd psS (spSF 0) := by
  have no : ∀ vs H Q E, ¬ spSF 0 vs H Q E := fun vs H Q E h => by
    obtain ⟨v, b, wd, bn, sg, xs, ws, rs, k, _, _, _, h1, h2, _⟩ := h
    exact absurd (Nat.le_trans h1 h2) (Nat.not_le.mpr (Sg.dp_pos _))
  exact ⟨fun vs H Q E h => absurd h (no vs H Q E), fun A outer s H args us vs Q E _ _ _ _ h => absurd h (no vs H Q E)⟩
theorem ok_bf {n j : Nat} (O : Own mg) (F : Fun K "body_fits" "body_fits" sBFits f fd) (G : FnOk P w K mg base CX0 j sf sd psS (spSF n)) (bG : Binds K sd psS []) (kG : PySem.W.keepIn K (.ref sf) = true) (mG : mg "step_fits" = some (.ref sf))
    {t12 : Tok} (m12 : mg "MOST_IN_BODY" = some (.int 12 t12)) : FnOk P w K mg base CX0 (j + 1) f fd psB (spBF n) := by
  refine F.ok scBFits (fun vs H Q E h => ?_) (fun cdv A outer s H vs Q E hr h => ?_)
  · obtain ⟨a, b, wd, bn, bd, xs, ws, rs, k, rfl, _⟩ := h
    rfl
  obtain ⟨a, b, wd, bn, bd, xs, ws, rs, k, rfl, ⟨us, ha, hB⟩, hok, hlen, hdp, hk, hb, hw, hbn, q⟩ := h
  have hl := hB.len
  refine ⟨_, pss_cons (ps_if (PW.pt (pw_or (pt_not (pt_val (pe_callB call_isi rfl O.isi (by decide +kernel) (pa_cons (pv 0) (pa_cons (pe_bltn (v := .ty "tuple") rfl O.tuple (by decide +kernel) rfl) pa_nil)))))
      (pw_or1 (pt_cmpR op_gt (pe_callB call_len_seq rfl O.len PySem.boot_len (pa_cons (pv 0) pa_nil)) (pe_glob (v := .int 12) rfl m12 ⟨_, rfl⟩) (nomark _))))) (pss_one (ps_ret pe_bl)) pss_nil)
    (pss_cons (ps_if (pt_cmpR op_eq (pv 4) pe_int (nomark _)) (pss_one (ps_ret (pe_cmpR op_eq (pe_callB call_len_seq rfl O.len PySem.boot_len (pa_cons (pv 0) pa_nil)) pe_int (nomark _)))) pss_nil)
    (pss_one (ps_ret (pe_callB (cr_all rfl) rfl O.all (by decide +kernel) (pa_cons (pe_lc (own := [("step", 5)]) (g := gName 5) (tt := tYes) rfl scBFits.nd
            (pi_tup (pv 0)) (blkOk_by (N := nmB) (sc := defScope sBFits) (by decide +kernel))
            (fun _ _ _ _ _ => pg_name (i := 5) scBFits.nd rfl (Or.inl rfl)) (fun _ _ _ _ _ => pts_nil)
            (fun _ _ _ _ _ => pe_call G hr rfl mG kG bG .nil pass0 (pa_cons (pv 5) (pa_cons (pv 1) (pa_cons (pv 2) (pa_cons (pv 3) (pa_cons (pv 4) pa_nil))))))) pa_nil))))), ?_⟩
  refine ⟨_, rfl, _, _, _, _, true, rfl, .ty "tuple", .base (.tup ha), kb "tuple" "tuple" true, _, rfl, itF rfl ?_⟩
  refine ⟨_, rfl, _, _, rfl, .inr (SqT.of ha), _, _, rfl, rfl, _, rfl, itF ?_ ?_⟩
  · show decide ((12 : Int) < (us.length : Nat)) = false
    exact decide_eq_false (by omega)
  refine ⟨_, rfl, rfl, _, rfl, ite2 (fun c => ?_) (fun c => ?_)⟩
  · have k0 : (k : Int) = 0 := V.int.inj (of_decide_eq_true c)
    have : bd.len = 0 := by
      cases bd with
      | nil => rfl
      | cons s b =>
        unfold Bd.dp at hdp
        have := s.dp_pos
        omega
    refine ⟨_, rfl, _, _, rfl, .inr (SqT.of ha), rfl, ?_⟩
    show Q (.bl (decide (V.int (us.length : Nat) = V.int 0))) H
    rw [show us.length = 0 by omega]
    exact q _ same_refl
  · refine ⟨_, rfl, a, rfl, ⟨_, SqT.of ha⟩, fun C hC => ?_⟩
    refine turns_tup (K := K) (a := a) (xs := us) (us.map fun _ => some (.bl true)) hC (fun Hc sm => SqT.of (sm _ _ ha)) (by rw [List.length_map]) (by have e : sizeLine = 16777216 := sizeLine_eq; omega) ?_ ?_
    · intro i z o Hc Y N hx ho sm hY hN
      have eo : o = some (.bl true) := by
        rw [List.getElem?_map, hx] at ho
        exact (Option.some.inj ho).symm
      obtain ⟨sg, h1, h2, h3⟩ := hB.at hok hdp hx
      exact ⟨rfl, _, rfl, _, rfl, _, rfl, _, rfl, _, rfl, z, b, wd, bn, sg, xs, ws, rs, k, rfl, h1.keep (Same.tups sm), h2, h3, hk, hb.keep sm, sm _ _ hw, hbn.keep sm, fun H4 s4 => hY _ eo H4 s4⟩
    · intro Hc hc sm
      rw [fm_true us] at hc
      refine ⟨C, _, rfl, SqL.of hc, ?_⟩
      rw [show (us.map fun _ => true).all id = true by rw [List.all_map]; exact List.all_eq_true.mpr fun _ _ => rfl]
      exact q Hc sm
end
end Any
namespace Any
open L2 PySem PySem.Spec PyProof.Rows LamX NdefX
section
variable {P : Program} {w : World} {K : PySem.W.Frag} {mg : Str → Option Value} {base : Heap} {f bf rw' wi ie it : Addr} {fd bfd rd wid ied itd : FuncData}
theorem in_true {Q : VK} {H : Hp} {x : Str} {xs : List Str} (h : x ∈ xs) (q : Q (.bl true) H) : Q (.bl (if false = true then !inV (.str x) (xs.map V.str) else inV (.str x) (xs.map V.str))) H := by
  show Q (.bl (inV _ _)) H
  rw [in_strs, decide_eq_true h]
  exact q
theorem in_eq {x : Str} {xs : List Str} (h : x ∈ xs) : (if false = true then !inV (.str x) (xs.map V.str) else inV (.str x) (xs.map V.str)) = true := by
  show inV _ _ = true
  rw [in_strs, decide_eq_true h]
theorem ok_sf {n : Nat} (O : Own mg) (F : Fun K "step_fits" "step_fits" sSFits f fd) (G : FnOk P w K mg base CX0 (2 * n + 18) bf bfd psB (spBF n)) (bG : Binds K bfd psB []) (kG : PySem.W.keepIn K (.ref bf) = true) (mG : mg "body_fits" = some (.ref bf))
    (R : FnOk P w K mg base CX0 1 rw' rd ["thing"] spRow) (bR : Binds K rd ["thing"] []) (kR : PySem.W.keepIn K (.ref rw') = true) (mR : mg "is_row" = some (.ref rw'))
    (WI : FnOk P w K mg base CX0 2 wi wid ["thing", "least", "most"] spWithin) (bW : Binds K wid ["thing", "least", "most"] []) (kW : PySem.W.keepIn K (.ref wi) = true) (mW : mg "is_within" = some (.ref wi))
    (IE : FnOk P w K mg base CX0 10 ie ied ps3 spIsE) (bIE : Binds K ied ps3 []) (kIE : PySem.W.keepIn K (.ref ie) = true) (mIE : mg "is_expression" = some (.ref ie))
    (IT : FnOk P w K mg base CX0 16 it itd ps3 spIsT) (bIT : Binds K itd ps3 []) (kIT : PySem.W.keepIn K (.ref it) = true) (mIT : mg "is_test" = some (.ref it)) :
    FnOk P w K mg base CX0 (2 * n + 19) f fd psS (spSF (n + 1)) := by
  refine F.ok scSFits (fun vs H Q E h => ?_) (fun cdv A outer s H vs Q E hr h => ?_)
  · obtain ⟨v, b, wd, bn, sg, xs, ws, rs, k, rfl, _⟩ := h
    rfl
  obtain ⟨v, b, wd, bn, sg, xs, ws, rs, k, rfl, hv, hok, hdp, hk, hb, hw, hbn, q⟩ := h
  have hrR := hr.mono (show 1 ≤ 2 * n + 18 by omega)
  have hrW := hr.mono (show 2 ≤ 2 * n + 18 by omega)
  have hrE := hr.mono (show 10 ≤ 2 * n + 18 by omega)
  have hrT := hr.mono (show 16 ≤ 2 * n + 18 by omega)
  have two : 2 ≤ sizeLine := by decide
  have ek : (k : Int) - 1 = ((k - 1 : Nat) : Int) := by have := sg.dp_pos; omega
  refine ⟨_, pss_cons (ps_if (pt_not (pt_val (pe_call R hrR rfl mR kR bR .nil pass0 (pa_cons (pv 0) pa_nil)))) (pss_one (ps_ret pe_bl)) pss_nil)
    (pss_cons (ps_set (i := 5) scSFits.nd rfl (Or.inl rfl) (pe_ix ix_tup (pv 0) pe_int (fun _ _ => rfl)))
    (pss_cons (ps_if (pt_cmpR op_eq (pv 5) pe_str (nomark _)) (pss_one (ps_ret (pe_and (pe_cmpR op_eq (pe_callB call_len_seq rfl O.len PySem.boot_len (pa_cons (pv 0) pa_nil)) pe_int (nomark _)) (pe_and (pe_call IT hrT rfl mIT kIT bIT .nil pass0 (pa_cons (pe_ix ix_tup (pv 0) pe_int (fun _ _ => rfl)) (pa_cons (pv 1) (pa_cons (pv 2) pa_nil)))) (pe_one (pe_callB (cr_all rfl) rfl O.all (by decide +kernel) (pa_cons (pe_lc (own := [("body", 6)]) (g := gName 6) (tt := tYes) rfl scSFits.nd
          (pi_tup (pe_slice sl_tup (pv 0) (po_some pe_int) po_none)) (blkOk_by (N := nmS) (sc := defScope sSFits) (by decide +kernel))
          (fun _ _ _ _ _ => pg_name (i := 6) scSFits.nd rfl (Or.inl rfl)) (fun _ _ _ _ _ => pts_nil) (fun _ _ _ _ _ => (pe_call G hr rfl mG kG bG .nil pass0 (pa_cons (pv 6) (pa_cons (pv 1) (pa_cons (pv 2) (pa_cons (pv 3) (pa_cons (pe_op op_sub (pv 4) pe_int) pa_nil)))))))) pa_nil))))))) pss_nil)
    (pss_cons (ps_if (pt_cmpR op_eq (pv 5) pe_str (nomark _)) (pss_one (ps_ret (pe_and (pe_cmpR op_eq (pe_callB call_len_seq rfl O.len PySem.boot_len (pa_cons (pv 0) pa_nil)) pe_int (nomark _)) (pe_and (pe_call IE hrE rfl mIE kIE bIE .nil pass0 (pa_cons (pe_ix ix_tup (pv 0) pe_int (fun _ _ => rfl)) (pa_cons (pv 1) (pa_cons (pv 2) pa_nil)))) (pe_and (pe_call WI hrW rfl mW kW bW .nil pass0 (pa_cons (pe_ix ix_tup (pv 0) pe_int (fun _ _ => rfl)) (pa_cons pe_int (pa_cons pe_int pa_nil)))) (pe_one (pe_call G hr rfl mG kG bG .nil pass0 (pa_cons (pe_ix ix_tup (pv 0) pe_int (fun _ _ => rfl)) (pa_cons (pv 1) (pa_cons (pv 2) (pa_cons (pv 3) (pa_cons (pe_op op_sub (pv 4) pe_int) pa_nil)))))))))))) pss_nil)
    (pss_cons (ps_if (pt_cmpR op_eq (pv 5) pe_str (nomark _)) (pss_one (ps_ret (pe_and (pe_cmpR op_eq (pe_callB call_len_seq rfl O.len PySem.boot_len (pa_cons (pv 0) pa_nil)) pe_int (nomark _)) (pe_and (pe_cmpR op_in_seq (pe_ix ix_tup (pv 0) pe_int (fun _ _ => rfl)) (pv 1) (by rfl)) (pe_and (pe_cmpR op_in_seq (pe_ix ix_tup (pv 0) pe_int (fun _ _ => rfl)) (pv 3) (by rfl)) (pe_one (pe_call IE hrE rfl mIE kIE bIE .nil pass0 (pa_cons (pe_ix ix_tup (pv 0) pe_int (fun _ _ => rfl)) (pa_cons (pv 1) (pa_cons (pv 2) pa_nil)))))))))) pss_nil)
    (pss_cons (ps_if (pt_cmpR op_eq (pv 5) pe_str (nomark _)) (pss_one (ps_ret (pe_and (pe_cmpR op_eq (pe_callB call_len_seq rfl O.len PySem.boot_len (pa_cons (pv 0) pa_nil)) pe_int (nomark _)) (pe_one (pe_cmpR op_in_seq (pe_ix ix_tup (pv 0) pe_int (fun _ _ => rfl)) (pv 1) (by rfl)))))) pss_nil)
    (pss_cons (ps_if (pt_cmpR op_in_seq (pv 5) (pe_tup (pa_cons pe_str (pa_cons pe_str pa_nil))) (by rfl)) (pss_one (ps_ret (pe_and (pe_cmpR op_eq (pe_callB call_len_seq rfl O.len PySem.boot_len (pa_cons (pv 0) pa_nil)) pe_int (nomark _)) (pe_and (pe_cmpR op_in_seq (pe_ix ix_tup (pv 0) pe_int (fun _ _ => rfl)) (pv 1) (by rfl)) (pe_one (pe_call IE hrE rfl mIE kIE bIE .nil pass0 (pa_cons (pe_ix ix_tup (pv 0) pe_int (fun _ _ => rfl)) (pa_cons (pv 1) (pa_cons (pv 2) pa_nil))))))))) pss_nil)
    (pss_one (ps_ret pe_bl)))))))), ?_⟩
  cases sg with
  | set x e =>
    unfold SgAt at hv
    unfold Sg.ok at hok
    obtain ⟨a, u, rfl, h, h1⟩ := hv
    refine ⟨_, rfl, _, _, _, rfl, h, _, rfl, itF rfl ?_⟩
    refine ⟨_, rfl, _, _, _, _, rfl, rfl, SqT.of h, atI_nat (j := 0) rfl, ?_⟩
    refine ⟨_, rfl, rfl, _, rfl, itF (ne_str (by decide)) ?_⟩
    refine ⟨_, rfl, rfl, _, rfl, itF (ne_str (by decide)) ?_⟩
    refine ⟨_, rfl, rfl, _, rfl, itF (ne_str (by decide)) ?_⟩
    refine ⟨_, rfl, rfl, _, rfl, itF (ne_str (by decide)) ?_⟩
    refine ⟨_, rfl, two, fun p hp => ⟨p, _, rfl, .inr (SqT.of upd_same), rfl, rfl, _, rfl, itT rfl ?_⟩⟩
    have s1 := same_new hp (.tup [.str "set", .str "say"])
    refine ⟨_, rfl, _, _, rfl, .inr (SqT.of (s1 _ _ h)), rfl, _, rfl, itT rfl ?_⟩
    refine ⟨_, rfl, _, _, _, _, rfl, rfl, SqT.of (s1 _ _ h), atI_nat (j := 1) rfl, _, rfl, b, _, rfl, (hb.keep s1).seq, rfl, strs_flat _, true, congrArg V.bl (in_eq hok.1), itT rfl ?_⟩
    exact ⟨_, rfl, _, _, _, _, rfl, rfl, SqT.of (s1 _ _ h), atI_nat (j := 2) rfl, _, rfl, _, rfl, u, b, wd, e, xs, ws, rfl, h1.keep (Same.tups s1), hok.2, hb.keep s1, s1 _ _ hw, fun H2 s2 => q H2 (s1.trans s2)⟩
  | say x e =>
    unfold SgAt at hv
    unfold Sg.ok at hok
    obtain ⟨a, u, rfl, h, h1⟩ := hv
    refine ⟨_, rfl, _, _, _, rfl, h, _, rfl, itF rfl ?_⟩
    refine ⟨_, rfl, _, _, _, _, rfl, rfl, SqT.of h, atI_nat (j := 0) rfl, ?_⟩
    refine ⟨_, rfl, rfl, _, rfl, itF (ne_str (by decide)) ?_⟩
    refine ⟨_, rfl, rfl, _, rfl, itF (ne_str (by decide)) ?_⟩
    refine ⟨_, rfl, rfl, _, rfl, itF (ne_str (by decide)) ?_⟩
    refine ⟨_, rfl, rfl, _, rfl, itF (ne_str (by decide)) ?_⟩
    refine ⟨_, rfl, two, fun p hp => ⟨p, _, rfl, .inr (SqT.of upd_same), rfl, rfl, _, rfl, itT rfl ?_⟩⟩
    have s1 := same_new hp (.tup [.str "set", .str "say"])
    refine ⟨_, rfl, _, _, rfl, .inr (SqT.of (s1 _ _ h)), rfl, _, rfl, itT rfl ?_⟩
    refine ⟨_, rfl, _, _, _, _, rfl, rfl, SqT.of (s1 _ _ h), atI_nat (j := 1) rfl, _, rfl, b, _, rfl, (hb.keep s1).seq, rfl, strs_flat _, true, congrArg V.bl (in_eq hok.1), itT rfl ?_⟩
    exact ⟨_, rfl, _, _, _, _, rfl, rfl, SqT.of (s1 _ _ h), atI_nat (j := 2) rfl, _, rfl, _, rfl, u, b, wd, e, xs, ws, rfl, h1.keep (Same.tups s1), hok.2, hb.keep s1, s1 _ _ hw, fun H2 s2 => q H2 (s1.trans s2)⟩
  | hear x =>
    unfold SgAt at hv
    unfold Sg.ok at hok
    obtain ⟨a, rfl, h⟩ := hv
    refine ⟨_, rfl, _, _, _, rfl, h, _, rfl, itF rfl ?_⟩
    refine ⟨_, rfl, _, _, _, _, rfl, rfl, SqT.of h, atI_nat (j := 0) rfl, ?_⟩
    refine ⟨_, rfl, rfl, _, rfl, itF (ne_str (by decide)) ?_⟩
    refine ⟨_, rfl, rfl, _, rfl, itF (ne_str (by decide)) ?_⟩
    refine ⟨_, rfl, rfl, _, rfl, itF (ne_str (by decide)) ?_⟩
    refine ⟨_, rfl, rfl, _, rfl, itT eq_str ?_⟩
    refine ⟨_, rfl, _, _, rfl, .inr (SqT.of (h)), rfl, _, rfl, itT rfl ?_⟩
    exact ⟨_, rfl, _, _, _, _, rfl, rfl, SqT.of h, atI_nat (j := 1) rfl, _, rfl, b, _, rfl, hb.seq, rfl, strs_flat _, in_true hok (q _ same_refl)⟩
  | call x r e =>
    unfold SgAt at hv
    unfold Sg.ok at hok
    obtain ⟨a, u, rfl, h, h1⟩ := hv
    refine ⟨_, rfl, _, _, _, rfl, h, _, rfl, itF rfl ?_⟩
    refine ⟨_, rfl, _, _, _, _, rfl, rfl, SqT.of h, atI_nat (j := 0) rfl, ?_⟩
    refine ⟨_, rfl, rfl, _, rfl, itF (ne_str (by decide)) ?_⟩
    refine ⟨_, rfl, rfl, _, rfl, itF (ne_str (by decide)) ?_⟩
    refine ⟨_, rfl, rfl, _, rfl, itT eq_str ?_⟩
    refine ⟨_, rfl, _, _, rfl, .inr (SqT.of (h)), rfl, _, rfl, itT rfl ?_⟩
    refine ⟨_, rfl, _, _, _, _, rfl, rfl, SqT.of h, atI_nat (j := 1) rfl, _, rfl, b, _, rfl, hb.seq, rfl, strs_flat _, true, congrArg V.bl (in_eq hok.1), itT rfl ?_⟩
    refine ⟨_, rfl, _, _, _, _, rfl, rfl, SqT.of h, atI_nat (j := 2) rfl, _, rfl, bn, _, rfl, hbn.seq, rfl, strs_flat _, true, congrArg V.bl (in_eq hok.2.1), itT rfl ?_⟩
    exact ⟨_, rfl, _, _, _, _, rfl, rfl, SqT.of h, atI_nat (j := 3) rfl, _, rfl, _, rfl, u, b, wd, e, xs, ws, rfl, h1, hok.2.2, hb, hw, fun H2 s2 => q H2 s2⟩
  | fors e m p =>
    unfold SgAt at hv
    unfold Sg.ok at hok
    obtain ⟨a, u, c, vs, rfl, h, h1, hc, h2⟩ := hv
    unfold Sg.dp at hdp
    refine ⟨_, rfl, _, _, _, rfl, h, _, rfl, itF rfl ?_⟩
    refine ⟨_, rfl, _, _, _, _, rfl, rfl, SqT.of h, atI_nat (j := 0) rfl, ?_⟩
    refine ⟨_, rfl, rfl, _, rfl, itF (ne_str (by decide)) ?_⟩
    refine ⟨_, rfl, rfl, _, rfl, itT eq_str ?_⟩
    refine ⟨_, rfl, _, _, rfl, .inr (SqT.of (h)), rfl, _, rfl, itT rfl ?_⟩
    refine ⟨_, rfl, _, _, _, _, rfl, rfl, SqT.of h, atI_nat (j := 1) rfl, _, rfl, _, rfl, u, b, wd, e, xs, ws, rfl, h1, hok.1, hb, hw, fun H2 s2 => ⟨_, rfl, itT rfl ?_⟩⟩
    refine ⟨_, rfl, _, _, _, _, rfl, rfl, SqT.of (s2 _ _ h), atI_nat (j := 2) rfl, m, 1, 9, rfl, ?_⟩
    rw [decide_eq_true hok.2.1.1, decide_eq_true hok.2.1.2]
    refine ⟨_, rfl, itT rfl ?_⟩
    exact ⟨_, rfl, _, _, _, _, rfl, rfl, SqT.of (s2 _ _ h), atI_nat (j := 3) rfl, _, rfl, _, rfl, _, rfl, _, rfl, _, _, rfl, rfl, c, b, wd, bn, p, xs, ws, rs, k - 1, (by rw [← ek]; rfl), ⟨vs, s2 _ _ hc, h2.keep (Same.tups s2)⟩, hok.2.2.1, hok.2.2.2, by omega, by omega, hb.keep s2, s2 _ _ hw, hbn.keep s2, fun H3 s3 => q H3 (s2.trans s3)⟩
  | ifs t p1 p2 =>
    unfold SgAt at hv
    unfold Sg.ok at hok
    obtain ⟨a, u, c, d, vs, us, rfl, h, h1, hc, h2, hd, h3⟩ := hv
    unfold Sg.dp at hdp
    refine ⟨_, rfl, _, _, _, rfl, h, _, rfl, itF rfl ?_⟩
    refine ⟨_, rfl, _, _, _, _, rfl, rfl, SqT.of h, atI_nat (j := 0) rfl, ?_⟩
    refine ⟨_, rfl, rfl, _, rfl, itT eq_str ?_⟩
    refine ⟨_, rfl, _, _, rfl, .inr (SqT.of (h)), rfl, _, rfl, itT rfl ?_⟩
    refine ⟨_, rfl, _, _, _, _, rfl, rfl, SqT.of h, atI_nat (j := 1) rfl, _, rfl, _, rfl, u, b, wd, t, xs, ws, rfl, h1, hok.1, hb, hw, fun H2 s2 => ⟨_, rfl, itT rfl ?_⟩⟩
    refine ⟨_, rfl, 2, rfl, a, _, rfl, SqT.of (s2 _ _ h), (by show ¬ (2 = 0 ∧ _); omega), fun z2 hz2 => ⟨z2, rfl, ⟨_, SqT.of upd_same⟩, fun C hC => ?_⟩⟩
    have s3 := s2.trans (same_new hz2 (.tup [.ref c, .ref d]))
    refine turns_tup (K := K) (a := z2) (xs := [.ref c, .ref d]) [some (.bl true), some (.bl true)] hC (fun Hc sm => SqT.of (sm _ _ upd_same)) rfl two ?_ ?_
    · intro i z o Hc Y N hx ho sm hY hN
      have s4 := s3.trans sm
      match i, hx, ho with
      | 0, hx, ho =>
        cases hx
        cases ho
        exact ⟨rfl, _, rfl, _, rfl, _, rfl, _, rfl, _, rfl, _, _, rfl, rfl, c, b, wd, bn, p1, xs, ws, rs, k - 1, (by rw [← ek]; rfl), ⟨vs, s4 _ _ hc, h2.keep (Same.tups s4)⟩, hok.2.1.1, hok.2.1.2, by omega, by omega, hb.keep s4, s4 _ _ hw, hbn.keep s4, fun H4 s5 => hY _ rfl H4 s5⟩
      | 1, hx, ho =>
        cases hx
        cases ho
        exact ⟨rfl, _, rfl, _, rfl, _, rfl, _, rfl, _, rfl, _, _, rfl, rfl, d, b, wd, bn, p2, xs, ws, rs, k - 1, (by rw [← ek]; rfl), ⟨us, s4 _ _ hd, h3.keep (Same.tups s4)⟩, hok.2.2.1, hok.2.2.2, by omega, by omega, hb.keep s4, s4 _ _ hw, hbn.keep s4, fun H4 s5 => hY _ rfl H4 s5⟩
    · intro Hc hc2 sm
      exact ⟨C, [true, true], rfl, SqL.of hc2, q Hc (s3.trans sm)⟩
theorem all_bf (O : Own mg) (F : Fun K "step_fits" "step_fits" sSFits f fd) (FB : Fun K "body_fits" "body_fits" sBFits bf bfd) (bS : Binds K fd psS []) (kS : PySem.W.keepIn K (.ref f) = true) (mS : mg "step_fits" = some (.ref f)) {t12 : Tok} (m12 : mg "MOST_IN_BODY" = some (.int 12 t12)) (bG : Binds K bfd psB []) (kG : PySem.W.keepIn K (.ref bf) = true) (mG : mg "body_fits" = some (.ref bf))
    (R : FnOk P w K mg base CX0 1 rw' rd ["thing"] spRow) (bR : Binds K rd ["thing"] []) (kR : PySem.W.keepIn K (.ref rw') = true) (mR : mg "is_row" = some (.ref rw'))
    (WI : FnOk P w K mg base CX0 2 wi wid ["thing", "least", "most"] spWithin) (bW : Binds K wid ["thing", "least", "most"] []) (kW : PySem.W.keepIn K (.ref wi) = true) (mW : mg "is_within" = some (.ref wi))
    (IE : FnOk P w K mg base CX0 10 ie ied ps3 spIsE) (bIE : Binds K ied ps3 []) (kIE : PySem.W.keepIn K (.ref ie) = true) (mIE : mg "is_expression" = some (.ref ie))
    (IT : FnOk P w K mg base CX0 16 it itd ps3 spIsT) (bIT : Binds K itd ps3 []) (kIT : PySem.W.keepIn K (.ref it) = true) (mIT : mg "is_test" = some (.ref it)) : ∀ n : Nat, FnOk P w K mg base CX0 (2 * n + 18) bf bfd psB (spBF n)
  | 0 => ok_bf O FB (no_sf (k := 17)) bS kS mS m12
  | n + 1 => ok_bf O FB (ok_sf O F (all_bf O F FB bS kS mS m12 bG kG mG R bR kR mR WI bW kW mW IE bIE kIE mIE IT bIT kIT mIT n) bG kG mG R bR kR mR WI bW kW mW IE bIE kIE mIE IT bIT kIT mIT) bS kS mS m12
end
end Any
namespace Any
open L2 PySem PySem.Spec PyProof.Rows LamX NdefX
def Bd.toL : Bd → List Sg
  | .nil => []
  | .cons s b => s :: b.toL
def Sg.subs : Sg → List Bd
  | .ifs _ a b => [a, b]
  | .fors _ _ a => [a]
  | _ => []
theorem BdL.paired {H : Hp} : ∀ {b : Bd} {vs : List V}, BdL H vs b → Paired (SgAt H) vs b.toL
  | .nil, vs, h => by
    unfold BdL at h
    subst h
    exact .nil
  | .cons s b, vs, h => by
    unfold BdL at h
    obtain ⟨v, us, rfl, h2, h3⟩ := h
    exact .cons h2 h3.paired
theorem Bd.tot_eq : ∀ b : Bd, b.tot = (b.toL.map Sg.tot).sum
  | .nil => by unfold Bd.tot; rfl
  | .cons s b => by
    unfold Bd.tot
    rw [b.tot_eq]
    show _ = ((s :: b.toL).map Sg.tot).sum
    rw [List.map_cons, List.sum_cons]
theorem Sg.tot_eq : ∀ s : Sg, s.tot = 1 + (s.subs.map Bd.tot).sum
  | .set _ _ => by unfold Sg.tot; rfl
  | .say _ _ => by unfold Sg.tot; rfl
  | .hear _ => by unfold Sg.tot; rfl
  | .call _ _ _ => by unfold Sg.tot; rfl
  | .ifs _ a b => by
    unfold Sg.tot
    show _ = 1 + (a.tot + (b.tot + 0))
    omega
  | .fors _ _ a => by
    unfold Sg.tot
    show _ = 1 + (a.tot + 0)
    omega
theorem Bd.dp_mem : ∀ {b : Bd} {s : Sg}, s ∈ b.toL → s.dp ≤ b.dp
  | .nil, s, h => by cases h
  | .cons t b, s, h => by
    unfold Bd.dp
    rcases List.mem_cons.mp h with h | h
    · subst h; omega
    · have := Bd.dp_mem h; omega
theorem Sg.dp_mem : ∀ {s : Sg} {b : Bd}, b ∈ s.subs → b.dp + 1 ≤ s.dp
  | .set _ _, b, h => by cases h
  | .say _ _, b, h => by cases h
  | .hear _, b, h => by cases h
  | .call _ _ _, b, h => by cases h
  | .ifs _ p q, b, h => by
    unfold Sg.dp
    rcases List.mem_cons.mp h with h | h
    · subst h; omega
    · rcases List.mem_cons.mp h with h | h
      · subst h; omega
      · cases h
  | .fors _ _ p, b, h => by
    unfold Sg.dp
    rcases List.mem_cons.mp h with h | h
    · subst h; omega
    · cases h
theorem sum_take {α : Type} (f : α → Nat) {l : List α} {i : Nat} {x : α} (h : l[i]? = some x) : ((l.take (i + 1)).map f).sum = ((l.take i).map f).sum + f x := by
  rw [List.take_add_one, h, List.map_append, List.sum_append]
  show _ = _
  simp
theorem sum_take_le {α : Type} (f : α → Nat) : ∀ (l : List α) (i : Nat), ((l.take i).map f).sum ≤ (l.map f).sum
  | [], i => by simp
  | x :: l, 0 => by simp
  | x :: l, i + 1 => by
    have := sum_take_le f l i
    simp only [List.take_succ_cons, List.map_cons, List.sum_cons]
    omega
theorem paired_get {α β : Type} {R : α → β → Prop} : ∀ {xs : List α} {ys : List β}, Paired R xs ys → ∀ {i : Nat} {x : α}, xs[i]? = some x → ∃ y, ys[i]? = some y ∧ R x y
  | _, _, .nil, i, x, h => by simp at h
  | _, _, .cons r t, 0, x, h => by cases h; exact ⟨_, rfl, r⟩
  | _, _, .cons r t, i + 1, x, h => paired_get t (i := i) h
theorem scAll : FnScope ["body", "steps", "step", "inner"] ["body"] (defScope sAll) := ⟨rfl, rfl, rfl, by decide +kernel, rfl, by decide +kernel, by decide +kernel⟩
theorem scWB : FnScope ["step"] ["step"] (defScope sWithinB) := ⟨rfl, rfl, rfl, by decide +kernel, rfl, by decide +kernel, by decide +kernel⟩
def spWB : Sp := fun vs H Q _ => ∃ v sg, vs = [v] ∧ SgAt H v sg ∧ ∀ p as, H p = none → Paired (BdAt H) as sg.subs → Q (.ref p) (upd H p (.lst (as.map V.ref)))
def spAll (n : Nat) : Sp := fun vs H Q _ => ∃ a bd, vs = [.ref a] ∧ BdAt H a bd ∧ bd.dp < n ∧ bd.tot ≤ 100000 ∧ ∀ p us H', H p = none → Same H H' → H' p = some (.lst us) → us.length = bd.tot → Q (.ref p) H'
section
variable {P : Program} {w : World} {K : PySem.W.Frag} {mg : Str → Option Value} {base : Heap} {f wb : Addr} {fd wbd : FuncData}
theorem ok_wb (F : Fun K "bodies_within" "bodies_within" sWithinB f fd) : FnOk P w K mg base CX0 1 f fd ["step"] spWB := by
  refine F.ok scWB (fun vs H Q E h => ?_) (fun cdv A outer s H vs Q E hr h => ?_)
  · obtain ⟨v, sg, rfl, _⟩ := h
    rfl
  obtain ⟨v, sg, rfl, hv, q⟩ := h
  refine ⟨_, pss_cons (ps_if (pt_cmpR op_eq (pe_ix ix_tup (pv 0) pe_int (fun _ _ => rfl)) pe_str (nomark _)) (pss_one (ps_ret (pe_lst (pa_cons (pe_ix ix_tup (pv 0) pe_int (fun _ _ => rfl)) (pa_cons (pe_ix ix_tup (pv 0) pe_int (fun _ _ => rfl)) pa_nil))))) pss_nil)
    (pss_cons (ps_if (pt_cmpR op_eq (pe_ix ix_tup (pv 0) pe_int (fun _ _ => rfl)) pe_str (nomark _)) (pss_one (ps_ret (pe_lst (pa_cons (pe_ix ix_tup (pv 0) pe_int (fun _ _ => rfl)) pa_nil)))) pss_nil)
    (pss_one (ps_ret (pe_lst pa_nil)))), ?_⟩
  cases sg with
  | set x e =>
    unfold SgAt at hv
    obtain ⟨a, u, rfl, h, h1⟩ := hv
    refine ⟨_, rfl, _, _, _, _, rfl, rfl, SqT.of h, atI_nat (j := 0) rfl, rfl, _, rfl, itF (ne_str (by decide)) ?_⟩
    refine ⟨_, rfl, _, _, _, _, rfl, rfl, SqT.of h, atI_nat (j := 0) rfl, rfl, _, rfl, itF (ne_str (by decide)) ?_⟩
    exact ⟨by decide, fun p hp => q p [] hp .nil⟩
  | say x e =>
    unfold SgAt at hv
    obtain ⟨a, u, rfl, h, h1⟩ := hv
    refine ⟨_, rfl, _, _, _, _, rfl, rfl, SqT.of h, atI_nat (j := 0) rfl, rfl, _, rfl, itF (ne_str (by decide)) ?_⟩
    refine ⟨_, rfl, _, _, _, _, rfl, rfl, SqT.of h, atI_nat (j := 0) rfl, rfl, _, rfl, itF (ne_str (by decide)) ?_⟩
    exact ⟨by decide, fun p hp => q p [] hp .nil⟩
  | hear x =>
    unfold SgAt at hv
    obtain ⟨a, rfl, h⟩ := hv
    refine ⟨_, rfl, _, _, _, _, rfl, rfl, SqT.of h, atI_nat (j := 0) rfl, rfl, _, rfl, itF (ne_str (by decide)) ?_⟩
    refine ⟨_, rfl, _, _, _, _, rfl, rfl, SqT.of h, atI_nat (j := 0) rfl, rfl, _, rfl, itF (ne_str (by decide)) ?_⟩
    exact ⟨by decide, fun p hp => q p [] hp .nil⟩
  | call x r e =>
    unfold SgAt at hv
    obtain ⟨a, u, rfl, h, h1⟩ := hv
    refine ⟨_, rfl, _, _, _, _, rfl, rfl, SqT.of h, atI_nat (j := 0) rfl, rfl, _, rfl, itF (ne_str (by decide)) ?_⟩
    refine ⟨_, rfl, _, _, _, _, rfl, rfl, SqT.of h, atI_nat (j := 0) rfl, rfl, _, rfl, itF (ne_str (by decide)) ?_⟩
    exact ⟨by decide, fun p hp => q p [] hp .nil⟩
  | fors e m b =>
    unfold SgAt at hv
    obtain ⟨a, u, c, vs, rfl, h, h1, hc, h2⟩ := hv
    refine ⟨_, rfl, _, _, _, _, rfl, rfl, SqT.of h, atI_nat (j := 0) rfl, rfl, _, rfl, itF (ne_str (by decide)) ?_⟩
    refine ⟨_, rfl, _, _, _, _, rfl, rfl, SqT.of h, atI_nat (j := 0) rfl, rfl, _, rfl, itT eq_str ?_⟩
    exact ⟨_, rfl, _, _, _, _, rfl, rfl, SqT.of h, atI_nat (j := 3) rfl, (by show 1 ≤ sizeLine; decide), fun p hp => q p [c] hp (.cons ⟨vs, hc, h2⟩ .nil)⟩
  | ifs t b1 b2 =>
    unfold SgAt at hv
    obtain ⟨a, u, c, d, vs, us, rfl, h, h1, hc, h2, hd, h3⟩ := hv
    refine ⟨_, rfl, _, _, _, _, rfl, rfl, SqT.of h, atI_nat (j := 0) rfl, rfl, _, rfl, itT eq_str ?_⟩
    refine ⟨_, rfl, _, _, _, _, rfl, rfl, SqT.of h, atI_nat (j := 2) rfl, ?_⟩
    exact ⟨_, rfl, _, _, _, _, rfl, rfl, SqT.of h, atI_nat (j := 3) rfl, (by show 2 ≤ sizeLine; decide), fun p hp => q p [c, d] hp (.cons ⟨vs, hc, h2⟩ (.cons ⟨us, hd, h3⟩ .nil))⟩
theorem ok_all {n j : Nat} (F : Fun K "all_steps" "all_steps" sAll f fd) (G : FnOk P w K mg base CX0 (j + 1) f fd ["body"] (spAll n)) (bG : Binds K fd ["body"] []) (mG : mg "all_steps" = some (.ref f))
    (GW : FnOk P w K mg base CX0 1 wb wbd ["step"] spWB) (bW : Binds K wbd ["step"] []) (kW : PySem.W.keepIn K (.ref wb) = true) (mW : mg "bodies_within" = some (.ref wb)) :
    FnOk P w K mg base CX0 (j + 2) f fd ["body"] (spAll (n + 1)) := by
  refine F.ok scAll (fun vs H Q E h => ?_) (fun cdv A outer s H vs Q E hr h => ?_)
  · obtain ⟨a, bd, rfl, _⟩ := h
    rfl
  obtain ⟨a, bd, rfl, ⟨us, ha, hB⟩, hdp, htot, q⟩ := h
  refine ⟨_, pss_cons (ps_set (i := 1) scAll.nd rfl (Or.inl rfl) (pe_lst pa_nil))
    (pss_cons (ps_for PassesOwn.never rfl (pi_tup (pv 0)) (pg_name (i := 2) scAll.nd rfl (Or.inl rfl))
      (pss_cons (ps_expr (pe_bm PySem.F.plainAttrs_list PySem.F.slot_list_append PySem.F.type_list_append mt_append (pv 1) (pa_cons (pv 2) pa_nil)))
      (pss_one (ps_for PassesOwn.never rfl (pi_list (pe_call GW (hr.mono (by omega)) rfl mW kW bW .nil pass0 (pa_cons (pv 2) pa_nil))) (pg_name (i := 3) scAll.nd rfl (Or.inl rfl))
        (pss_one (ps_expr (pe_bm PySem.F.plainAttrs_list PySem.F.slot_list_extend PySem.F.type_list_extend mt_extend (pv 1) (pa_cons (pe_call G hr rfl mG F.kp bG .nil pass0 (pa_cons (pv 3) pa_nil)) pa_nil))))))))
    (pss_one (ps_ret (pv 1)))), ?_⟩
  refine ⟨by decide, fun L hL => ?_⟩
  have pr := hB.paired
  have hs : sizeLine = 16777216 := sizeLine_eq
  have tl := bd.tot_eq
  refine ⟨_, rfl, a, rfl, ⟨_, SqT.of (same_new hL _ _ _ ha)⟩, ?_⟩
  refine for_tup (K := K) (a := a) (xs := us) (fun i σ Hc => ∃ x y acc, σ = [some (.ref a), some (.ref L), x, y] ∧ Hc L = some (.lst acc) ∧ acc.length = ((bd.toL.take i).map Sg.tot).sum ∧ Same H Hc) ?_ ?_ ?_ ?_
  · exact ⟨_, _, [], rfl, upd_same, rfl, same_new hL _⟩
  · rintro i σ Hc _ ⟨x, y, acc, rfl, h1, h2, sm⟩
    exact SqT.of (sm _ _ ha)
  · rintro i v σ Hc hx ⟨x, y, acc, rfl, h1, h2, sm⟩
    obtain ⟨sg, hg, hv⟩ := paired_get pr hx
    have e1 := sum_take Sg.tot hg
    have e2 := sum_take_le Sg.tot bd.toL (i + 1)
    have e3 := sg.tot_eq
    have mem : sg ∈ bd.toL := List.mem_of_getElem? hg
    refine ⟨_, rfl, .inl ⟨rfl, _, SqL.of h1⟩, _, rfl, L, acc, v, rfl, rfl, h1, by omega, ?_⟩
    have sm1 : Same H (upd Hc L (.lst (acc ++ [v]))) := fun b o hb => by
      rw [upd_ne (ne_of_none hb hL)]
      exact sm _ _ hb
    have hv1 := hv.keep (Same.tups sm1)
    refine ⟨_, rfl, v, sg, rfl, hv1, fun p as hp pa => ⟨p, rfl, ⟨_, SqL.of upd_same⟩, ?_⟩⟩
    have pL : p ≠ L := fun z => by rw [z, upd_same] at hp; cases hp
    refine for_list (K := K) (a := p) (xs := as.map V.ref) (fun t σ Hd => ∃ y acc2, σ = [some (.ref a), some (.ref L), some v, y] ∧ Hd L = some (.lst acc2) ∧ acc2.length = acc.length + 1 + ((sg.subs.take t).map Bd.tot).sum ∧ Kept L Hc Hd ∧ Hd p = some (.lst (as.map V.ref))) ?_ ?_ ?_ ?_
    · refine ⟨_, acc ++ [v], rfl, ?_, ?_, ?_, upd_same⟩
      · rw [upd_ne (Ne.symm pL)]
        exact upd_same
      · rw [List.length_append]
        rfl
      · intro c o cL hc
        have hpn : Hc p = none := by rw [← hp, upd_ne pL]
        rw [upd_ne (ne_of_none hc hpn), upd_ne cL]
        exact hc
    · rintro t σ Hd _ ⟨y2, acc2, rfl, g1, g2, g3, g4⟩
      exact SqL.of g4
    · rintro t z σ Hd hz ⟨y2, acc2, rfl, g1, g2, g3, g4⟩
      rw [List.getElem?_map] at hz
      obtain ⟨b, hb, rfl⟩ : ∃ b, as[t]? = some b ∧ z = .ref b := by
        cases e : as[t]? with
        | none => rw [e] at hz; cases hz
        | some b => rw [e] at hz; exact ⟨b, rfl, (Option.some.inj hz).symm⟩
      obtain ⟨sb, hsb, hat⟩ := paired_get pa hb
      have f1 := sum_take Bd.tot hsb
      have f2 := sum_take_le Bd.tot sg.subs (t + 1)
      have d1 := Sg.dp_mem (List.mem_of_getElem? hsb)
      have d2 := Bd.dp_mem mem
      refine ⟨_, rfl, .inl ⟨rfl, _, SqL.of g1⟩, _, rfl, b, sb, rfl, ?_, by omega, by omega, fun p3 us3 H3 hp3 s3 h3 l3 => ?_⟩
      · obtain ⟨ws, w1, w2⟩ := hat
        have t1 : Tups (upd Hc L (.lst (acc ++ [v]))) Hd := fun c o hc => by
          by_cases cL : c = L
          · rw [cL, upd_same] at hc
            cases hc
          · rw [upd_ne cL] at hc
            exact g3 _ _ cL hc
        exact ⟨ws, t1 _ _ w1, w2.keep t1⟩
      refine ⟨L, p3, acc2, us3, rfl, rfl, s3 _ _ g1, h3, by omega, ?_⟩
      refine ⟨_, acc2 ++ us3, rfl, upd_same, by rw [List.length_append]; omega, fun c o cL hc => ?_, ?_⟩
      · rw [upd_ne cL]
        exact s3 _ _ (g3 _ _ cL hc)
      · rw [upd_ne pL]
        exact s3 _ _ g4
    · rintro σ Hd ⟨y2, acc2, rfl, g1, g2, g3, g4⟩
      have e4 := paired_len pa
      rw [List.length_map, e4, List.take_length] at g2
      exact ⟨_, _, acc2, rfl, g1, by omega, fun c o hc => g3 _ _ (ne_of_none hc hL) (sm _ _ hc)⟩
  · rintro σ Hc ⟨x, y, acc, rfl, h1, h2, sm⟩
    have e4 := paired_len pr
    rw [e4, List.take_length] at h2
    exact ⟨_, rfl, q L acc Hc hL sm h1 (by omega)⟩
theorem no_all {k : Nat} : FnOk P w K mg base CX0 k f fd ["body"] (spAll 0) := by
  have no : ∀ vs H Q E, ¬ spAll 0 vs H Q E := fun vs H Q E h => by
    obtain ⟨a, bd, _, _, h, _⟩ := h
    exact Nat.not_lt_zero _ h
  exact ⟨fun vs H Q E h => absurd h (no vs H Q E), fun A outer s H args us vs Q E _ _ _ _ h => absurd h (no vs H Q E)⟩
theorem all_all (F : Fun K "all_steps" "all_steps" sAll f fd) (bG : Binds K fd ["body"] []) (mG : mg "all_steps" = some (.ref f))
    (GW : FnOk P w K mg base CX0 1 wb wbd ["step"] spWB) (bW : Binds K wbd ["step"] []) (kW : PySem.W.keepIn K (.ref wb) = true) (mW : mg "bodies_within" = some (.ref wb)) : ∀ n : Nat, FnOk P w K mg base CX0 (n + 1) f fd ["body"] (spAll n)
  | 0 => no_all
  | n + 1 => ok_all F (all_all F bG mG GW bW kW mW n) bG mG GW bW kW mW
/-! ### is_body -/
/-- a body as point 6 has it -/
def Bd.right (xs ws rs : List Str) (b : Bd) : Prop := b.ok xs ws rs ∧ b.len ≤ 12 ∧ b.dp ≤ 4 ∧ b.tot ≤ 30
def spIsB : Sp := fun vs H Q _ => ∃ (a b wd bn : Addr) (bd : Bd) (xs ws rs : List Str), vs = [.ref a, .ref b, .ref wd, .ref bn] ∧ BdAt H a bd ∧ bd.right xs ws rs ∧ Nms H b xs ∧ H wd = some (.tup (ws.map V.str)) ∧ Nms H bn rs ∧ ∀ H', Same H H' → Q (.bl true) H'
theorem ok_isB {bf as : Addr} {bfd asd : FuncData} (O : Own mg) (F : Fun K "is_body" "is_body" sBody f fd) (GB : FnOk P w K mg base CX0 26 bf bfd psB (spBF 4)) (bB : Binds K bfd psB []) (kB : PySem.W.keepIn K (.ref bf) = true) (mB : mg "body_fits" = some (.ref bf))
    (GA : FnOk P w K mg base CX0 6 as asd ["body"] (spAll 5)) (bA : Binds K asd ["body"] []) (kA : PySem.W.keepIn K (.ref as) = true) (mA : mg "all_steps" = some (.ref as)) {t4 t30 : Tok} (m4 : mg "MOST_DEEP_STEP" = some (.int 4 t4)) (m30 : mg "MOST_STEPS" = some (.int 30 t30)) :
    FnOk P w K mg base CX0 27 f fd ps4 spIsB := by
  refine F.ok scBody (fun vs H Q E h => ?_) (fun cdv A outer s H vs Q E hr h => ?_)
  · obtain ⟨a, b, wd, bn, bd, xs, ws, rs, rfl, _⟩ := h
    rfl
  obtain ⟨a, b, wd, bn, bd, xs, ws, rs, rfl, hB, ⟨hok, hlen, hdp, htot⟩, hb, hw, hbn, q⟩ := h
  refine ⟨_, pss_one (ps_ret (pe_and (pe_call GB hr rfl mB kB bB .nil pass0 (pa_cons (pv 0) (pa_cons (pv 1) (pa_cons (pv 2) (pa_cons (pv 3) (pa_cons (pe_glob (v := .int 4) rfl m4 ⟨_, rfl⟩) pa_nil))))))
    (pe_one (pe_cmpR op_le (pe_callB call_len_seq rfl O.len PySem.boot_len (pa_cons (pe_call GA (hr.mono (by decide)) rfl mA kA bA .nil pass0 (pa_cons (pv 0) pa_nil)) pa_nil)) (pe_glob (v := .int 30) rfl m30 ⟨_, rfl⟩) (nomark _))))), ?_⟩
  refine ⟨_, rfl, _, rfl, _, rfl, _, rfl, a, b, wd, bn, bd, xs, ws, rs, 4, rfl, hB, hok, hlen, hdp, by decide, hb, hw, hbn, fun H1 s1 => ⟨_, rfl, ?_⟩⟩
  refine ⟨_, rfl, a, bd, rfl, ?_, by omega, by omega, fun p us H2 hp s2 h2 l2 => ?_⟩
  · obtain ⟨vs, h1, h2⟩ := hB
    exact ⟨vs, s1 _ _ h1, h2.keep (Same.tups s1)⟩
  refine ⟨p, us, rfl, .inl (SqL.of h2), _, _, rfl, rfl, ?_⟩
  show Q (.bl (decide ((us.length : Int) ≤ 30))) H2
  rw [decide_eq_true (by omega)]
  exact q H2 (s1.trans s2)
end
end Any
namespace Any
open L2 PySem PySem.Spec PyProof.Rows LamX NdefX
theorem scName : FnScope ["thing", "sign"] ["thing"] (defScope sName) := ⟨rfl, rfl, rfl, by decide +kernel, rfl, by decide +kernel, by decide +kernel⟩
abbrev keptWords : List Str := ["asked", "told", "not", "and", "or"]
abbrev letters : Str := "abcdefghijklmnopqrstuvwxyz"
/-- a name as point 2 has it -/
structure Nm (x : Str) : Prop where
  lo : 1 ≤ x.length
  hi : x.length ≤ 8
  kept : x ∉ keptWords
  low : ∀ c ∈ x.cps.toList, 97 ≤ c ∧ c ≤ 122
instance (x : Str) : Decidable (Nm x) := decidable_of_iff (1 ≤ x.length ∧ x.length ≤ 8 ∧ x ∉ keptWords ∧ ∀ c ∈ x.cps.toList, 97 ≤ c ∧ c ≤ 122) ⟨fun h => ⟨h.1, h.2.1, h.2.2.1, h.2.2.2⟩, fun h => ⟨h.lo, h.hi, h.kept, h.low⟩⟩
theorem letter_in {c : Nat} (h : 97 ≤ c ∧ c ≤ 122) : (!(Builtin.Str.occurrences letters ⟨#[c]⟩ 0 letters.length 1).isEmpty) = true := by
  obtain ⟨h1, h2⟩ := h
  obtain ⟨d, rfl⟩ : ∃ d, c = 97 + d := ⟨c - 97, by omega⟩
  have hd : d < 26 := by omega
  have all : ∀ d : Fin 26, (!(Builtin.Str.occurrences letters ⟨#[97 + d.val]⟩ 0 letters.length 1).isEmpty) = true := by decide +kernel
  exact all ⟨d, hd⟩
section
variable {g : TG} {tt : TT} {te : TE} {vs : List Nat} {σ : L2.St} {H1 : Hp} {D : Addr} {Qd : Hp → Prop}
theorem turns_str {x : Str} (gs : List (Option V)) (hD : H1 D = none) (hn : gs.length = x.cps.size) (hz : x.cps.size ≤ sizeLine) (hs : TurnF (x.cps.toList.map fun c => V.str ⟨#[c]⟩) gs g tt te vs σ H1)
    (hd : ∀ H, H D = some (.lst (gs.filterMap id)) → Same H1 H → Qd H) : Turns (Its x) g tt te vs σ H1 D Qd := by
  refine ⟨fun i m H => m = x.cps.size - i ∧ i ≤ x.cps.size ∧ H D = some (.lst ((gs.take i).filterMap id)) ∧ Same H1 H, ⟨_, rfl, Nat.zero_le _, upd_same, same_new hD _⟩, ?_⟩
  rintro i m H ⟨rfl, hi, hC, sm⟩
  by_cases lt : i < x.cps.size
  · obtain ⟨o, ho⟩ : ∃ o, gs[i]? = some o := ⟨gs[i]'(by omega), by simp [hn, lt]⟩
    refine .inr ⟨lt, fun H' => H' D = some (.lst ((gs.take (i + 1)).filterMap id)) ∧ Same H1 H', fun H' q => ⟨_, by omega, rfl, lt, q.1, q.2⟩, fun v H' y => ?_⟩
    obtain ⟨rfl, c, e, rfl⟩ := y
    have hx : (x.cps.toList.map fun c => V.str ⟨#[c]⟩)[i]? = some (V.str ⟨#[c]⟩) := by
      rw [List.getElem?_map, Array.getElem?_toList, e]
      rfl
    refine hs i _ o H' _ _ hx ho sm (fun y ey H4 s4 => ⟨_, s4 _ _ hC, ?_, ?_, fun b u hb => ?_⟩) (fun en H4 s4 => ⟨?_, sm.trans s4⟩)
    · have := fm_len (gs.take i)
      rw [List.length_take] at this
      omega
    · rw [upd_same, take_fm ho, ey]
      rfl
    · rw [upd_ne (ne_of_none hb hD)]
      exact s4 _ _ (sm _ _ hb)
    · rw [take_fm ho, en]
      show H4 D = some (.lst (_ ++ []))
      rw [List.append_nil]
      exact s4 _ _ hC
  · have e : i = x.cps.size := by omega
    subst e
    rw [← hn, List.take_length] at hC
    exact .inl ⟨Nat.le_refl _, hd H hC sm⟩
end
def spName : Sp := fun vs H Q _ => ∃ x, vs = [.str x] ∧ Nm x ∧ ∀ H', Same H H' → Q (.bl true) H'
section
variable {P : Program} {w : World} {K : PySem.W.Frag} {mg : Str → Option Value} {base : Heap} {f kw : Addr} {fd : FuncData}
theorem ok_name (O : Own mg) (F : Fun K "is_name" "is_name" sName f fd) (mk : mg "KEPT_WORDS" = some (.ref kw)) (hk : ∀ H, SqT K H kw (keptWords.map V.str)) {tl : Tok} (ml : mg "LETTERS" = some (.str letters tl)) :
    FnOk P w K mg base CX0 1 f fd ["thing"] spName := by
  refine F.ok scName (fun vs H Q E h => ?_) (fun cdv A outer s H vs Q E hr h => ?_)
  · obtain ⟨x, rfl, _⟩ := h
    rfl
  obtain ⟨x, rfl, hx, q⟩ := h
  have hs : sizeLine = 16777216 := sizeLine_eq
  have hlen : x.length ≤ sizeLine := by have := hx.hi; omega
  refine ⟨_, pss_cons (ps_if (PW.pt (pw_or (pt_not (pt_val (pe_callB call_isi rfl O.isi (by decide +kernel) (pa_cons (pv 0) (pa_cons (pe_bltn (v := .ty "str") rfl O.str (by decide +kernel) rfl) pa_nil)))))
      (pw_or1 (pt_not (pt_chain op_le op_le pe_int (pe_callB call_len_str rfl O.len PySem.boot_len (pa_cons (pv 0) pa_nil)) pe_int))))) (pss_one (ps_ret pe_bl)) pss_nil)
    (pss_one (ps_ret (pe_and (pe_cmpR op_notIn_seq (pv 0) (pe_glob (v := .ref kw) rfl mk rfl) (by rfl))
      (pe_one (pe_callB (cr_all rfl) rfl O.all (by decide +kernel) (pa_cons (pe_lc (own := [("sign", 1)]) (g := gName 1) (tt := tYes) rfl scName.nd
            (pi_str (pv 0)) (blkOk_by (N := ["thing", "sign"]) (sc := defScope sName) (by decide +kernel))
            (fun _ _ _ _ _ => pg_name (i := 1) scName.nd rfl (Or.inl rfl)) (fun _ _ _ _ _ => pts_nil)
            (fun _ _ _ _ _ => pe_cmpR op_in_str (pv 1) (pe_glob (v := .str letters) rfl ml ⟨_, rfl⟩) (by rfl))) pa_nil)))))), ?_⟩
  refine ⟨_, rfl, _, _, _, _, true, rfl, .ty "str", .base (.str x), kb "str" "str" true, _, rfl, itF rfl ?_⟩
  refine ⟨_, rfl, x, rfl, hlen, _, _, rfl, rfl, _, rfl, itT ?_ ⟨_, _, rfl, rfl, _, rfl, itF ?_ ?_⟩⟩
  · exact decide_eq_true (by have := hx.lo; omega)
  · show (!decide ((x.length : Int) ≤ 8)) = false
    rw [decide_eq_true (by have := hx.hi; omega)]
    rfl
  refine ⟨_, rfl, kw, _, rfl, .inr (hk H), rfl, strs_flat _, true, ?_, itT rfl ?_⟩
  · refine congrArg V.bl ?_
    show (!inV _ _) = true
    rw [in_strs, decide_eq_false hx.kept]
    rfl
  refine ⟨_, rfl, x, rfl, fun C hC => ?_⟩
  have el : (x.cps.toList.map fun c => V.str ⟨#[c]⟩).length = x.cps.size := by rw [List.length_map, Array.length_toList]
  refine turns_str ((x.cps.toList.map fun c => V.str ⟨#[c]⟩).map fun _ => some (.bl true)) hC (by rw [List.length_map, el]) hlen ?_ ?_
  · intro i z o Hc Y N hz ho sm hY hN
    have eo : o = some (.bl true) := by
      rw [List.getElem?_map, hz] at ho
      exact (Option.some.inj ho).symm
    rw [List.getElem?_map] at hz
    obtain ⟨c, hc, rfl⟩ : ∃ c, x.cps.toList[i]? = some c ∧ z = V.str ⟨#[c]⟩ := by
      cases e : x.cps.toList[i]? with
      | none => rw [e] at hz; cases hz
      | some c => rw [e] at hz; exact ⟨c, rfl, (Option.some.inj hz).symm⟩
    refine ⟨rfl, _, rfl, _, _, rfl, rfl, ?_⟩
    rw [letter_in (hx.low c (List.mem_of_getElem? hc))]
    exact hY _ eo Hc same_refl
  · intro Hc hc sm
    rw [fm_true] at hc
    refine ⟨C, _, rfl, SqL.of hc, ?_⟩
    rw [List.all_map, show ((x.cps.toList.map fun c => V.str ⟨#[c]⟩).all (id ∘ fun _ => true)) = true from List.all_eq_true.mpr fun _ _ => rfl]
    exact q Hc sm
end
end Any
namespace Any
open L2 PySem PySem.Spec PyProof.Rows LamX NdefX
/-! ### rooms -/
structure Rm where
  name : Str
  above : Str
  boxes : List (Str × Int × Int)
  sayings : List Ts
  ask : Option Int
  told : Option (Int × Ex)
  promise : Option Ts
  body : Bd
def roomF (n a b s k t p y : V) : List (Str × V) := [("name", n), ("above", a), ("boxes", b), ("sayings", s), ("ask", k), ("told", t), ("promise", p), ("body", y)]
theorem lk_hit {k : Str} {v : V} {r : List (Str × V)} : ((k, v) :: r).lookup k = some v := by
  rw [List.lookup_cons, beq_self_eq_true]
theorem lk_skip {k k' : Str} {v : V} {r : List (Str × V)} (h : (k == k') = false) : ((k', v) :: r).lookup k = r.lookup k := by
  rw [List.lookup_cons, h]
theorem put_new {f : Str} {v : V} : ∀ {fs : List (Str × V)}, (∀ p ∈ fs, ¬ p.1 = f) → putF f v fs = fs ++ [(f, v)]
  | [], _ => rfl
  | (k, u) :: r, h => by
    unfold putF
    rw [if_neg (h (k, u) (List.mem_cons_self ..)), put_new fun p hp => h p (List.mem_cons_of_mem _ hp)]
    rfl
section
variable {n a b s k t p y : V}
theorem rf_name : (roomF n a b s k t p y).lookup ("name" : Str) = some n := lk_hit
theorem rf_above : (roomF n a b s k t p y).lookup ("above" : Str) = some a := by
  unfold roomF
  rw [lk_skip (by decide +kernel)]
  exact lk_hit
theorem rf_boxes : (roomF n a b s k t p y).lookup ("boxes" : Str) = some b := by
  unfold roomF
  rw [lk_skip (by decide +kernel), lk_skip (by decide +kernel)]
  exact lk_hit
theorem rf_sayings : (roomF n a b s k t p y).lookup ("sayings" : Str) = some s := by
  unfold roomF
  rw [lk_skip (by decide +kernel), lk_skip (by decide +kernel), lk_skip (by decide +kernel)]
  exact lk_hit
theorem rf_ask : (roomF n a b s k t p y).lookup ("ask" : Str) = some k := by
  unfold roomF
  rw [lk_skip (by decide +kernel), lk_skip (by decide +kernel), lk_skip (by decide +kernel), lk_skip (by decide +kernel)]
  exact lk_hit
theorem rf_told : (roomF n a b s k t p y).lookup ("told" : Str) = some t := by
  unfold roomF
  rw [lk_skip (by decide +kernel), lk_skip (by decide +kernel), lk_skip (by decide +kernel), lk_skip (by decide +kernel), lk_skip (by decide +kernel)]
  exact lk_hit
theorem rf_promise : (roomF n a b s k t p y).lookup ("promise" : Str) = some p := by
  unfold roomF
  rw [lk_skip (by decide +kernel), lk_skip (by decide +kernel), lk_skip (by decide +kernel), lk_skip (by decide +kernel), lk_skip (by decide +kernel), lk_skip (by decide +kernel)]
  exact lk_hit
theorem rf_body : (roomF n a b s k t p y).lookup ("body" : Str) = some y := by
  unfold roomF
  rw [lk_skip (by decide +kernel), lk_skip (by decide +kernel), lk_skip (by decide +kernel), lk_skip (by decide +kernel), lk_skip (by decide +kernel), lk_skip (by decide +kernel), lk_skip (by decide +kernel)]
  exact lk_hit
end
theorem nx {k f : Str} {v : V} (h : ¬ k = f) : ¬ (k, v).1 = f := h
section
variable {n a b s k t p y : V}
theorem put1 : putF "above" a ([("name", n)] : List (Str × V)) = ([("name", n), ("above", a)] : List (Str × V)) := put_new (List.forall_mem_cons.mpr ⟨nx (by decide +kernel), List.forall_mem_nil _⟩)
theorem put2 : putF "boxes" b ([("name", n), ("above", a)] : List (Str × V)) = ([("name", n), ("above", a), ("boxes", b)] : List (Str × V)) := put_new (List.forall_mem_cons.mpr ⟨nx (by decide +kernel), List.forall_mem_cons.mpr ⟨nx (by decide +kernel), List.forall_mem_nil _⟩⟩)
theorem put3 : putF "sayings" s ([("name", n), ("above", a), ("boxes", b)] : List (Str × V)) = ([("name", n), ("above", a), ("boxes", b), ("sayings", s)] : List (Str × V)) := put_new (List.forall_mem_cons.mpr ⟨nx (by decide +kernel), List.forall_mem_cons.mpr ⟨nx (by decide +kernel), List.forall_mem_cons.mpr ⟨nx (by decide +kernel), List.forall_mem_nil _⟩⟩⟩)
theorem put4 : putF "ask" k ([("name", n), ("above", a), ("boxes", b), ("sayings", s)] : List (Str × V)) = ([("name", n), ("above", a), ("boxes", b), ("sayings", s), ("ask", k)] : List (Str × V)) := put_new (List.forall_mem_cons.mpr ⟨nx (by decide +kernel), List.forall_mem_cons.mpr ⟨nx (by decide +kernel), List.forall_mem_cons.mpr ⟨nx (by decide +kernel), List.forall_mem_cons.mpr ⟨nx (by decide +kernel), List.forall_mem_nil _⟩⟩⟩⟩)
theorem put5 : putF "told" t ([("name", n), ("above", a), ("boxes", b), ("sayings", s), ("ask", k)] : List (Str × V)) = ([("name", n), ("above", a), ("boxes", b), ("sayings", s), ("ask", k), ("told", t)] : List (Str × V)) := put_new (List.forall_mem_cons.mpr ⟨nx (by decide +kernel), List.forall_mem_cons.mpr ⟨nx (by decide +kernel), List.forall_mem_cons.mpr ⟨nx (by decide +kernel), List.forall_mem_cons.mpr ⟨nx (by decide +kernel), List.forall_mem_cons.mpr ⟨nx (by decide +kernel), List.forall_mem_nil _⟩⟩⟩⟩⟩)
theorem put6 : putF "promise" p ([("name", n), ("above", a), ("boxes", b), ("sayings", s), ("ask", k), ("told", t)] : List (Str × V)) = ([("name", n), ("above", a), ("boxes", b), ("sayings", s), ("ask", k), ("told", t), ("promise", p)] : List (Str × V)) := put_new (List.forall_mem_cons.mpr ⟨nx (by decide +kernel), List.forall_mem_cons.mpr ⟨nx (by decide +kernel), List.forall_mem_cons.mpr ⟨nx (by decide +kernel), List.forall_mem_cons.mpr ⟨nx (by decide +kernel), List.forall_mem_cons.mpr ⟨nx (by decide +kernel), List.forall_mem_cons.mpr ⟨nx (by decide +kernel), List.forall_mem_nil _⟩⟩⟩⟩⟩⟩)
theorem put7 : putF "body" y ([("name", n), ("above", a), ("boxes", b), ("sayings", s), ("ask", k), ("told", t), ("promise", p)] : List (Str × V)) = ([("name", n), ("above", a), ("boxes", b), ("sayings", s), ("ask", k), ("told", t), ("promise", p), ("body", y)] : List (Str × V)) := put_new (List.forall_mem_cons.mpr ⟨nx (by decide +kernel), List.forall_mem_cons.mpr ⟨nx (by decide +kernel), List.forall_mem_cons.mpr ⟨nx (by decide +kernel), List.forall_mem_cons.mpr ⟨nx (by decide +kernel), List.forall_mem_cons.mpr ⟨nx (by decide +kernel), List.forall_mem_cons.mpr ⟨nx (by decide +kernel), List.forall_mem_cons.mpr ⟨nx (by decide +kernel), List.forall_mem_nil _⟩⟩⟩⟩⟩⟩⟩)
end
/-- the boxes of a room -/
def CratesAt (H : Hp) (b : Addr) (xs : List (Str × Int × Int)) : Prop := ∃ as : List Addr, H b = some (.tup (as.map V.ref)) ∧ Paired (fun (a : Addr) (x : Str × Int × Int) => H a = some (.tup [.str x.1, .int x.2.1, .int x.2.2])) as xs
def SaysAt (H : Hp) (b : Addr) (ts : List Ts) : Prop := ∃ vs, H b = some (.tup vs) ∧ Paired (TsAt H) vs ts
def AskAt (v : V) : Option Int → Prop
  | none => v = .non
  | some i => v = .int i
def ToldAt (H : Hp) (v : V) : Option (Int × Ex) → Prop
  | none => v = .non
  | some (i, e) => ∃ a u, v = .ref a ∧ H a = some (.tup [.int i, u]) ∧ ExAt H u e
def VowAt (H : Hp) (v : V) : Option Ts → Prop
  | none => v = .non
  | some t => TsAt H v t
/-- the eight parts -/
structure PartsAt (H : Hp) (r : Rm) (n a b s k t p y : V) : Prop where
  name : n = .str r.name
  above : a = .str r.above
  boxes : ∃ c, b = .ref c ∧ CratesAt H c r.boxes
  sayings : ∃ c, s = .ref c ∧ SaysAt H c r.sayings
  ask : AskAt k r.ask
  told : ToldAt H t r.told
  promise : VowAt H p r.promise
  body : ∃ c, y = .ref c ∧ BdAt H c r.body
/-- a room in the heap -/
def RmAt (C : Addr) (H : Hp) (x : Addr) (r : Rm) : Prop := ∃ dx n a b s k t p y, H x = some (.ins C dx (roomF n a b s k t p y)) ∧ PartsAt H r n a b s k t p y
theorem paired_imp {α β : Type} {R S : α → β → Prop} (h : ∀ x y, R x y → S x y) : ∀ {xs : List α} {ys : List β}, Paired R xs ys → Paired S xs ys
  | _, _, .nil => .nil
  | _, _, .cons r t => .cons (h _ _ r) (paired_imp h t)
theorem CratesAt.keep {H H' : Hp} (k : Tups H H') {b : Addr} {xs : List (Str × Int × Int)} (h : CratesAt H b xs) : CratesAt H' b xs := by
  obtain ⟨as, h1, h2⟩ := h
  exact ⟨as, k _ _ h1, paired_imp (fun _ _ q => k _ _ q) h2⟩
theorem SaysAt.keep {H H' : Hp} (k : Tups H H') {b : Addr} {xs : List Ts} (h : SaysAt H b xs) : SaysAt H' b xs := by
  obtain ⟨as, h1, h2⟩ := h
  exact ⟨as, k _ _ h1, paired_imp (fun _ _ q => q.keep k) h2⟩
theorem ToldAt.keep {H H' : Hp} (k : Tups H H') {v : V} : ∀ {o : Option (Int × Ex)}, ToldAt H v o → ToldAt H' v o
  | none, h => h
  | some (i, e), h => by
    obtain ⟨a, u, h1, h2, h3⟩ := h
    exact ⟨a, u, h1, k _ _ h2, h3.keep k⟩
theorem VowAt.keep {H H' : Hp} (k : Tups H H') {v : V} : ∀ {o : Option Ts}, VowAt H v o → VowAt H' v o
  | none, h => h
  | some t, h => TsAt.keep k h
theorem BdAt.keep {H H' : Hp} (k : Tups H H') {a : Addr} {b : Bd} (h : BdAt H a b) : BdAt H' a b := by
  obtain ⟨vs, h1, h2⟩ := h
  exact ⟨vs, k _ _ h1, h2.keep k⟩
theorem PartsAt.keep {H H' : Hp} (k : Tups H H') {r : Rm} {n a b s q t p y : V} (h : PartsAt H r n a b s q t p y) : PartsAt H' r n a b s q t p y where
  name := h.name
  above := h.above
  boxes := by obtain ⟨c, h1, h2⟩ := h.boxes; exact ⟨c, h1, h2.keep k⟩
  sayings := by obtain ⟨c, h1, h2⟩ := h.sayings; exact ⟨c, h1, h2.keep k⟩
  ask := h.ask
  told := h.told.keep k
  promise := h.promise.keep k
  body := by obtain ⟨c, h1, h2⟩ := h.body; exact ⟨c, h1, h2.keep k⟩
theorem RmAt.keep {C : Addr} {H H' : Hp} (k : Same H H') {x : Addr} {r : Rm} (h : RmAt C H x r) : RmAt C H' x r := by
  obtain ⟨dx, n, a, b, s, q, t, p, y, h1, h2⟩ := h
  exact ⟨dx, n, a, b, s, q, t, p, y, k _ _ h1, h2.keep (Same.tups k)⟩
/-! ### Room.__init__ -/
abbrev cRoom : Stmt := top 62
abbrev sRInit : Stmt := inClass (top 62) 0
abbrev psRI : List Str := ["self", "name", "above", "boxes", "sayings", "ask", "told", "promise", "body"]
theorem scRInit : FnScope psRI psRI (defScope sRInit) := ⟨rfl, rfl, rfl, by decide +kernel, rfl, by decide +kernel, by decide +kernel⟩
/-- what the class of rooms is like -/
structure RoomC (K : PySem.W.Frag) (C : Addr) : Prop where
  cl : Cls K C
  n1 : NoAttr K C "name"
  n2 : NoAttr K C "above"
  n3 : NoAttr K C "boxes"
  n4 : NoAttr K C "sayings"
  n5 : NoAttr K C "ask"
  n6 : NoAttr K C "told"
  n7 : NoAttr K C "promise"
  n8 : NoAttr K C "body"
def spRInit (C : Addr) : Sp := fun vs H Q _ => ∃ (x dx : Addr) (n a b s k t p y : V), vs = [.ref x, n, a, b, s, k, t, p, y] ∧ H x = some (.ins C dx []) ∧ Q .non (upd H x (.ins C dx (roomF n a b s k t p y)))
section
variable {P : Program} {w : World} {K : PySem.W.Frag} {mg : Str → Option Value} {base : Heap} {f C : Addr} {fd : FuncData}
theorem upd2 {H : Hp} {x : Addr} {o o' : HO} : upd (upd H x o) x o' = upd H x o' := by
  funext a
  by_cases e : a = x
  · rw [e, upd_same, upd_same]
  · rw [upd_ne e, upd_ne e, upd_ne e]
theorem ok_rinit {kws : List (Str × V)} (T : RoomC K C) (F : FunD K "__init__" "Room.__init__" (defArgs sRInit) (defBody sRInit) (defScope sRInit) [] kws f fd) : FnOk P w K mg base CX0 1 f fd psRI (spRInit C) := by
  refine F.ok scRInit (fun vs H Q E h => ?_) (fun cdv A outer s H vs Q E hr h => ?_)
  · obtain ⟨x, dx, n, a, b, s, k, t, p, y, rfl, _⟩ := h
    rfl
  obtain ⟨x, dx, n, a, b, s', k, t, p, y, rfl, hx, q⟩ := h
  refine ⟨_, PSs.nox (pss_cons (ps_fld (pv 0) (pv 1) rfl) (pss_cons (ps_fld (pv 0) (pv 2) rfl) (pss_cons (ps_fld (pv 0) (pv 3) rfl) (pss_cons (ps_fld (pv 0) (pv 4) rfl) (pss_cons (ps_fld (pv 0) (pv 5) rfl) (pss_cons (ps_fld (pv 0) (pv 6) rfl)
    (pss_cons (ps_fld (pv 0) (pv 7) rfl) (pss_one (ps_fld (pv 0) (pv 8) rfl))))))))), ?_⟩
  refine ⟨_, rfl, _, rfl, x, C, dx, _, rfl, hx, T.cl, T.n1, (by show 0 < 1000; decide), ?_⟩
  refine ⟨_, rfl, _, rfl, x, C, dx, [("name", n)], rfl, upd_same, T.cl, T.n2, (by show 1 < 1000; decide), ?_⟩
  rw [put1, upd2]
  refine ⟨_, rfl, _, rfl, x, C, dx, [("name", n), ("above", a)], rfl, upd_same, T.cl, T.n3, (by show 2 < 1000; decide), ?_⟩
  rw [put2, upd2]
  refine ⟨_, rfl, _, rfl, x, C, dx, [("name", n), ("above", a), ("boxes", b)], rfl, upd_same, T.cl, T.n4, (by show 3 < 1000; decide), ?_⟩
  rw [put3, upd2]
  refine ⟨_, rfl, _, rfl, x, C, dx, [("name", n), ("above", a), ("boxes", b), ("sayings", s')], rfl, upd_same, T.cl, T.n5, (by show 4 < 1000; decide), ?_⟩
  rw [put4, upd2]
  refine ⟨_, rfl, _, rfl, x, C, dx, [("name", n), ("above", a), ("boxes", b), ("sayings", s'), ("ask", k)], rfl, upd_same, T.cl, T.n6, (by show 5 < 1000; decide), ?_⟩
  rw [put5, upd2]
  refine ⟨_, rfl, _, rfl, x, C, dx, [("name", n), ("above", a), ("boxes", b), ("sayings", s'), ("ask", k), ("told", t)], rfl, upd_same, T.cl, T.n7, (by show 6 < 1000; decide), ?_⟩
  rw [put6, upd2]
  refine ⟨_, rfl, _, rfl, x, C, dx, [("name", n), ("above", a), ("boxes", b), ("sayings", s'), ("ask", k), ("told", t), ("promise", p)], rfl, upd_same, T.cl, T.n8, (by show 7 < 1000; decide), ?_⟩
  rw [put7, upd2]
  exact q
end
end Any
namespace Any
open L2 PySem PySem.Spec PyProof.Rows LamX NdefX
abbrev sRooms : Stmt := top 64
abbrev sFault : Stmt := top 65
abbrev sNameF : Stmt := top 66
abbrev sAboveF : Stmt := top 67
abbrev sFloor : Stmt := top 68
abbrev sBoxesF : Stmt := top 69
abbrev sBoxF : Stmt := top 70
abbrev sSaysF : Stmt := top 71
abbrev sFirstF : Stmt := top 72
abbrev sOtherF : Stmt := top 73
abbrev sToldF : Stmt := top 74
abbrev sBodyF : Stmt := top 75
abbrev sNames : Stmt := top 76
theorem scNames : FnScope ["room", "name", "bound", "first"] ["room"] (defScope sNames) := ⟨rfl, rfl, rfl, by decide +kernel, rfl, by decide +kernel, by decide +kernel⟩
theorem scBoxF : FnScope ["box", "name", "bound", "first"] ["box"] (defScope sBoxF) := ⟨rfl, rfl, rfl, by decide +kernel, rfl, by decide +kernel, by decide +kernel⟩
theorem scToldF : FnScope ["room", "bound", "expression"] ["room"] (defScope sToldF) := ⟨rfl, rfl, rfl, by decide +kernel, rfl, by decide +kernel, by decide +kernel⟩
theorem scFirstF : FnScope ["room"] ["room"] (defScope sFirstF) := ⟨rfl, rfl, rfl, by decide +kernel, rfl, by decide +kernel, by decide +kernel⟩
theorem scOtherF : FnScope ["room"] ["room"] (defScope sOtherF) := ⟨rfl, rfl, rfl, by decide +kernel, rfl, by decide +kernel, by decide +kernel⟩
def Rm.bn (r : Rm) : List Str := r.boxes.map (·.1)
def spBn (C : Addr) : Sp := fun vs H Q _ => ∃ x r, vs = [.ref x] ∧ RmAt C H x r ∧ r.boxes.length ≤ 4 ∧ ∀ p H', H p = none → Same H H' → H' p = some (.lst (r.bn.map V.str)) → Q (.ref p) H'
/-- a box as point 6 has it -/
def crateOk (x : Str × Int × Int) : Prop := Nm x.1 ∧ (1 ≤ x.2.1 ∧ x.2.1 ≤ 40) ∧ (0 ≤ x.2.2 ∧ x.2.2 ≤ x.2.1 - 1)
def spBoxF : Sp := fun vs H Q _ => ∃ a x, vs = [.ref a] ∧ H a = some (.tup [.str x.1, .int x.2.1, .int x.2.2]) ∧ crateOk x ∧ ∀ H', Same H H' → Q (.bl true) H'
theorem fm_some {α : Type} (g : α → V) : ∀ xs : List α, (xs.map fun x => some (g x)).filterMap id = xs.map g
  | [] => rfl
  | x :: r => by
    rw [List.map_cons, List.map_cons, ← fm_some g r]
    rfl
section
variable {P : Program} {w : World} {K : PySem.W.Frag} {mg : Str → Option Value} {base : Heap} {f C nm wi : Addr} {fd nmd wid : FuncData}
theorem ok_bn (T : RoomC K C) (F : Fun K "box_names" "box_names" sNames f fd) : FnOk P w K mg base CX0 1 f fd ["room"] (spBn C) := by
  refine F.ok scNames (fun vs H Q E h => ?_) (fun cdv A outer s H vs Q E hr h => ?_)
  · obtain ⟨x, r, rfl, _⟩ := h
    rfl
  obtain ⟨x, r, rfl, hx, hz, q⟩ := h
  obtain ⟨dx, n, a, b, s', k, t, p, y, h1, h2⟩ := hx
  obtain ⟨c, rfl, as, hc, hp⟩ := h2.boxes
  refine ⟨_, pss_one (ps_ret (pe_lc (own := [("name", 1), ("bound", 2), ("first", 3)]) (g := gTup K 3 (gCons (gName 1) (gCons (gName 2) (gCons (gName 3) gNil)))) (tt := tYes) rfl scNames.nd (pi_tup (pe_fld (pv 0) rfl)) (blkOk_by (N := ["room", "name", "bound", "first"]) (sc := defScope sNames) (by decide +kernel))
    (fun _ _ _ _ _ => pg_tup rfl (pgs_cons (pg_name (i := 1) scNames.nd rfl (Or.inl rfl)) (pgs_cons (pg_name (i := 2) scNames.nd rfl (Or.inl rfl)) (pgs_cons (pg_name (i := 3) scNames.nd rfl (Or.inl rfl)) pgs_nil))))
    (fun _ _ _ _ _ => pts_nil) (fun _ _ _ _ _ => pv 1))), ?_⟩
  refine ⟨_, rfl, x, C, dx, _, _, rfl, h1, T.cl, T.n3, rf_boxes, c, rfl, ⟨_, SqT.of hc⟩, fun D hD => ?_⟩
  have hl := paired_len hp
  have hs : sizeLine = 16777216 := sizeLine_eq
  refine turns_tup (K := K) (a := c) (xs := as.map V.ref) (r.boxes.map fun z => some (V.str z.1)) hD (fun Hc sm => SqT.of (sm _ _ hc)) (by rw [List.length_map, List.length_map]; exact hl.symm) (by rw [List.length_map]; omega) ?_ ?_
  · intro i v o Hc Y N hv ho sm hY hN
    rw [List.getElem?_map] at hv ho
    obtain ⟨e, he, rfl⟩ : ∃ e, as[i]? = some e ∧ v = .ref e := by
      cases z : as[i]? with
      | none => rw [z] at hv; cases hv
      | some e => rw [z] at hv; exact ⟨e, rfl, (Option.some.inj hv).symm⟩
    obtain ⟨z, hz2, hat⟩ := paired_get hp he
    rw [hz2] at ho
    exact ⟨e, _, rfl, SqT.of (sm _ _ hat), rfl, _, _, rfl, _, _, rfl, _, _, rfl, rfl, rfl, _, rfl, hY _ (Option.some.inj ho).symm Hc same_refl⟩
  · intro Hc hc2 sm
    rw [fm_some (fun z : Str × Int × Int => V.str z.1)] at hc2
    refine q D Hc hD sm ?_
    rw [hc2]
    unfold Rm.bn
    rw [List.map_map]
    rfl
theorem ok_boxf (O : Own mg) (F : Fun K "box_fits" "box_fits" sBoxF f fd) (GN : FnOk P w K mg base CX0 1 nm nmd ["thing"] spName) (bN : Binds K nmd ["thing"] []) (kN : PySem.W.keepIn K (.ref nm) = true) (mN : mg "is_name" = some (.ref nm))
    (WI : FnOk P w K mg base CX0 2 wi wid ["thing", "least", "most"] spWithin) (bW : Binds K wid ["thing", "least", "most"] []) (kW : PySem.W.keepIn K (.ref wi) = true) (mW : mg "is_within" = some (.ref wi)) {t40 : Tok} (m40 : mg "MOST_BOUND" = some (.int 40 t40)) :
    FnOk P w K mg base CX0 3 f fd ["box"] spBoxF := by
  refine F.ok scBoxF (fun vs H Q E h => ?_) (fun cdv A outer s H vs Q E hr h => ?_)
  · obtain ⟨a, x, rfl, _⟩ := h
    rfl
  obtain ⟨a, x, rfl, ha, ⟨k1, k2, k3⟩, q⟩ := h
  refine ⟨_, pss_cons (ps_if (PW.pt (pw_or (pt_not (pt_val (pe_callB call_isi rfl O.isi (by decide +kernel) (pa_cons (pv 0) (pa_cons (pe_bltn (v := .ty "tuple") rfl O.tuple (by decide +kernel) rfl) pa_nil)))))
      (pw_or1 (pt_cmpR op_ne (pe_callB call_len_seq rfl O.len PySem.boot_len (pa_cons (pv 0) pa_nil)) pe_int (nomark _))))) (pss_one (ps_ret pe_bl)) pss_nil)
    (pss_cons (ps_asg (pv 0) (pg_tup rfl (pgs_cons (pg_name (i := 1) scBoxF.nd rfl (Or.inl rfl)) (pgs_cons (pg_name (i := 2) scBoxF.nd rfl (Or.inl rfl)) (pgs_cons (pg_name (i := 3) scBoxF.nd rfl (Or.inl rfl)) pgs_nil)))))
    (pss_one (ps_ret (pe_and (pe_call GN (hr.mono (by decide)) rfl mN kN bN .nil pass0 (pa_cons (pv 1) pa_nil)) (pe_and (pe_call WI hr rfl mW kW bW .nil pass0 (pa_cons (pv 2) (pa_cons pe_int (pa_cons (pe_glob (v := .int 40) rfl m40 ⟨_, rfl⟩) pa_nil))))
      (pe_one (pe_call WI hr rfl mW kW bW .nil pass0 (pa_cons (pv 3) (pa_cons pe_int (pa_cons (pe_op op_sub (pv 2) pe_int) pa_nil)))))))))), ?_⟩
  refine ⟨_, rfl, _, _, _, _, true, rfl, .ty "tuple", .base (.tup ha), kb "tuple" "tuple" true, _, rfl, itF rfl ?_⟩
  refine ⟨_, rfl, _, _, rfl, .inr (SqT.of ha), rfl, _, rfl, itF rfl ?_⟩
  refine ⟨_, rfl, a, _, rfl, SqT.of ha, rfl, _, _, rfl, _, _, rfl, _, _, rfl, rfl, ?_⟩
  refine ⟨_, rfl, x.1, rfl, k1, fun H1 s1 => ⟨_, rfl, itT rfl ?_⟩⟩
  refine ⟨_, rfl, _, _, _, rfl, ?_⟩
  rw [decide_eq_true k2.1, decide_eq_true k2.2]
  refine ⟨_, rfl, itT rfl ?_⟩
  refine ⟨_, rfl, _, rfl, _, _, rfl, rfl, _, _, _, rfl, ?_⟩
  rw [decide_eq_true k3.1, decide_eq_true k3.2]
  exact q H1 s1
end
end Any
namespace Any
open L2 PySem PySem.Spec PyProof.Rows LamX NdefX
def spToldF (C : Addr) : Sp := fun vs H Q _ => ∃ x r i e, vs = [.ref x] ∧ RmAt C H x r ∧ r.boxes.length ≤ 4 ∧ r.told = some (i, e) ∧ (1 ≤ i ∧ i ≤ 40) ∧ e.right r.bn ["asked"] ∧ ∀ H', Same H H' → Q (.bl true) H'
/-- of the first room nothing of these -/
def Rm.firstOk (r : Rm) : Prop := r.ask = none ∧ r.told = none ∧ r.promise = none
/-- of others, as point 6 has them -/
def Rm.otherOk (r : Rm) : Prop := (∃ i, r.ask = some i ∧ 1 ≤ i ∧ i ≤ 40) ∧ (∃ i e, r.told = some (i, e) ∧ (1 ≤ i ∧ i ≤ 40) ∧ e.right r.bn ["asked"]) ∧ (∀ t, r.promise = some t → t.right [] ["asked", "told"])
def spFirstF (C : Addr) : Sp := fun vs H Q _ => ∃ x r, vs = [.ref x] ∧ RmAt C H x r ∧ r.firstOk ∧ ∀ H', Same H H' → Q (.str "") H'
def spOtherF (C : Addr) : Sp := fun vs H Q _ => ∃ x r, vs = [.ref x] ∧ RmAt C H x r ∧ r.boxes.length ≤ 4 ∧ r.otherOk ∧ ∀ H', Same H H' → Q (.str "") H'
section
variable {P : Program} {w : World} {K : PySem.W.Frag} {mg : Str → Option Value} {base : Heap} {f C wi ie it bn tf : Addr} {fd wid ied itd bnd tfd : FuncData}
theorem ok_toldf (O : Own mg) (T : RoomC K C) (F : Fun K "told_fits" "told_fits" sToldF f fd)
    (WI : FnOk P w K mg base CX0 2 wi wid ["thing", "least", "most"] spWithin) (bW : Binds K wid ["thing", "least", "most"] []) (kW : PySem.W.keepIn K (.ref wi) = true) (mW : mg "is_within" = some (.ref wi)) {t40 : Tok} (m40 : mg "MOST_BOUND" = some (.int 40 t40))
    (IE : FnOk P w K mg base CX0 10 ie ied ps3 spIsE) (bIE : Binds K ied ps3 []) (kIE : PySem.W.keepIn K (.ref ie) = true) (mIE : mg "is_expression" = some (.ref ie))
    (BN : FnOk P w K mg base CX0 1 bn bnd ["room"] (spBn C)) (bB : Binds K bnd ["room"] []) (kB : PySem.W.keepIn K (.ref bn) = true) (mB : mg "box_names" = some (.ref bn)) :
    FnOk P w K mg base CX0 11 f fd ["room"] (spToldF C) := by
  refine F.ok scToldF (fun vs H Q E h => ?_) (fun cdv A outer s H vs Q E hr h => ?_)
  · obtain ⟨x, r, i, e, rfl, _⟩ := h
    rfl
  obtain ⟨x, r, i, e, rfl, hx, hz, ht, hi, he, q⟩ := h
  obtain ⟨dx, n, a, b, s', k, t, p, y, h1, h2⟩ := id hx
  have h3 := h2.told
  rw [ht] at h3
  obtain ⟨c, u, rfl, hc, hu⟩ := h3
  refine ⟨_, pss_cons (ps_if (PW.pt (pw_or (pt_not (pt_val (pe_callB call_isi rfl O.isi (by decide +kernel) (pa_cons (pe_fld (pv 0) rfl) (pa_cons (pe_bltn (v := .ty "tuple") rfl O.tuple (by decide +kernel) rfl) pa_nil)))))
      (pw_or1 (pt_cmpR op_ne (pe_callB call_len_seq rfl O.len PySem.boot_len (pa_cons (pe_fld (pv 0) rfl) pa_nil)) pe_int (nomark _))))) (pss_one (ps_ret pe_bl)) pss_nil)
    (pss_cons (ps_asg (pe_fld (pv 0) rfl) (pg_tup rfl (pgs_cons (pg_name (i := 1) scToldF.nd rfl (Or.inl rfl)) (pgs_cons (pg_name (i := 2) scToldF.nd rfl (Or.inl rfl)) pgs_nil))))
    (pss_one (ps_ret (pe_and (pe_call WI (hr.mono (by decide)) rfl mW kW bW .nil pass0 (pa_cons (pv 1) (pa_cons pe_int (pa_cons (pe_glob (v := .int 40) rfl m40 ⟨_, rfl⟩) pa_nil))))
      (pe_one (pe_call IE hr rfl mIE kIE bIE .nil pass0 (pa_cons (pv 2) (pa_cons (pe_call BN (hr.mono (by decide)) rfl mB kB bB .nil pass0 (pa_cons (pv 0) pa_nil)) (pa_cons (pe_tup (pa_cons pe_str pa_nil)) pa_nil))))))))), ?_⟩
  refine ⟨_, rfl, x, C, dx, _, _, rfl, h1, T.cl, T.n6, rf_told, _, _, _, _, true, rfl, .ty "tuple", .base (.tup hc), kb "tuple" "tuple" true, _, rfl, itF rfl ?_⟩
  refine ⟨_, rfl, x, C, dx, _, _, rfl, h1, T.cl, T.n6, rf_told, _, _, rfl, .inr (SqT.of hc), rfl, _, rfl, itF rfl ?_⟩
  refine ⟨_, rfl, x, C, dx, _, _, rfl, h1, T.cl, T.n6, rf_told, c, _, rfl, SqT.of hc, rfl, _, _, rfl, _, _, rfl, rfl, ?_⟩
  refine ⟨_, rfl, _, _, _, rfl, ?_⟩
  rw [decide_eq_true hi.1, decide_eq_true hi.2]
  refine ⟨_, rfl, itT rfl ?_⟩
  refine ⟨_, rfl, _, rfl, x, r, rfl, hx, hz, fun l H1 hl s1 hL => ?_⟩
  refine ⟨by show 1 ≤ sizeLine; decide, fun wd hwd => ?_⟩
  have s2 := s1.trans (same_new hwd (.tup [.str "asked"]))
  refine ⟨u, l, wd, e, r.bn, ["asked"], rfl, hu.keep (Same.tups s2), he, .inl ((same_new hwd _) _ _ hL), upd_same, fun H2 s3 => q H2 (s2.trans s3)⟩
theorem ok_firstf (T : RoomC K C) (F : Fun K "first_fault" "first_fault" sFirstF f fd) : FnOk P w K mg base CX0 1 f fd ["room"] (spFirstF C) := by
  refine F.ok scFirstF (fun vs H Q E h => ?_) (fun cdv A outer s H vs Q E hr h => ?_)
  · obtain ⟨x, r, rfl, _⟩ := h
    rfl
  obtain ⟨x, r, rfl, hx, ⟨e1, e2, e3⟩, q⟩ := h
  obtain ⟨dx, n, a, b, s', k, t, p, y, h1, h2⟩ := id hx
  have g1 := h2.ask
  have g2 := h2.told
  have g3 := h2.promise
  rw [e1] at g1
  rw [e2] at g2
  rw [e3] at g3
  cases g1
  cases g2
  cases g3
  refine ⟨_, pss_cons (ps_if (pt_cmpR op_notN (pe_fld (pv 0) rfl) pe_non (nomark _)) (pss_one (ps_ret pe_str)) pss_nil)
    (pss_cons (ps_if (pt_cmpR op_notN (pe_fld (pv 0) rfl) pe_non (nomark _)) (pss_one (ps_ret pe_str)) pss_nil)
    (pss_cons (ps_if (pt_cmpR op_notN (pe_fld (pv 0) rfl) pe_non (nomark _)) (pss_one (ps_ret pe_str)) pss_nil)
    (pss_one (ps_ret pe_str)))), ?_⟩
  refine ⟨_, rfl, x, C, dx, _, _, rfl, h1, T.cl, T.n5, rf_ask, rfl, _, rfl, itF rfl ?_⟩
  refine ⟨_, rfl, x, C, dx, _, _, rfl, h1, T.cl, T.n6, rf_told, rfl, _, rfl, itF rfl ?_⟩
  refine ⟨_, rfl, x, C, dx, _, _, rfl, h1, T.cl, T.n7, rf_promise, rfl, _, rfl, itF rfl ?_⟩
  exact q _ same_refl
theorem vow_ref {H : Hp} {v : V} {t : Ts} (h : TsAt H v t) : decide (v = .non) = false := by
  cases h <;> exact decide_eq_false (fun z => by cases z)
theorem ok_otherf (T : RoomC K C) (F : Fun K "other_fault" "other_fault" sOtherF f fd)
    (WI : FnOk P w K mg base CX0 2 wi wid ["thing", "least", "most"] spWithin) (bW : Binds K wid ["thing", "least", "most"] []) (kW : PySem.W.keepIn K (.ref wi) = true) (mW : mg "is_within" = some (.ref wi)) {t40 : Tok} (m40 : mg "MOST_BOUND" = some (.int 40 t40))
    (IT : FnOk P w K mg base CX0 16 it itd ps3 spIsT) (bIT : Binds K itd ps3 []) (kIT : PySem.W.keepIn K (.ref it) = true) (mIT : mg "is_test" = some (.ref it))
    (TF : FnOk P w K mg base CX0 11 tf tfd ["room"] (spToldF C)) (bT : Binds K tfd ["room"] []) (kT : PySem.W.keepIn K (.ref tf) = true) (mT : mg "told_fits" = some (.ref tf)) :
    FnOk P w K mg base CX0 17 f fd ["room"] (spOtherF C) := by
  refine F.ok scOtherF (fun vs H Q E h => ?_) (fun cdv A outer s H vs Q E hr h => ?_)
  · obtain ⟨x, r, rfl, _⟩ := h
    rfl
  obtain ⟨x, r, rfl, hx, hz, ⟨⟨i, e1, i1, i2⟩, ⟨j, e, e2, hj, he⟩, e3⟩, q⟩ := h
  obtain ⟨dx, n, a, b, s', k, t, p, y, h1, h2⟩ := id hx
  have g1 := h2.ask
  have g3 := h2.promise
  rw [e1] at g1
  cases g1
  refine ⟨_, pss_cons (ps_if (pt_not (pt_val (pe_call WI (hr.mono (by decide)) rfl mW kW bW .nil pass0 (pa_cons (pe_fld (pv 0) rfl) (pa_cons pe_int (pa_cons (pe_glob (v := .int 40) rfl m40 ⟨_, rfl⟩) pa_nil)))))) (pss_one (ps_ret pe_str)) pss_nil)
    (pss_cons (ps_if (pt_not (pt_val (pe_call TF (hr.mono (by decide)) rfl mT kT bT .nil pass0 (pa_cons (pv 0) pa_nil)))) (pss_one (ps_ret pe_str)) pss_nil)
    (pss_cons (ps_if (PW.pt (pw_and (pt_cmpR op_notN (pe_fld (pv 0) rfl) pe_non (nomark _)) (pw_and1 (pt_not (pt_val (pe_call IT hr rfl mIT kIT bIT .nil pass0 (pa_cons (pe_fld (pv 0) rfl) (pa_cons (pe_tup pa_nil) (pa_cons (pe_tup (pa_cons pe_str (pa_cons pe_str pa_nil))) pa_nil)))))))))
      (pss_one (ps_ret pe_str)) pss_nil)
    (pss_one (ps_ret pe_str)))), ?_⟩
  refine ⟨_, rfl, x, C, dx, _, _, rfl, h1, T.cl, T.n5, rf_ask, _, _, _, rfl, ?_⟩
  rw [decide_eq_true i1, decide_eq_true i2]
  refine ⟨_, rfl, itF rfl ?_⟩
  refine ⟨_, rfl, x, r, j, e, rfl, hx, hz, e2, hj, he, fun H1 s1 => ⟨_, rfl, itF rfl ?_⟩⟩
  refine ⟨_, rfl, x, C, dx, _, _, rfl, s1 _ _ h1, T.cl, T.n7, rf_promise, rfl, _, rfl, ?_⟩
  cases e4 : r.promise with
  | none =>
    rw [e4] at g3
    cases g3
    exact itF rfl (itF rfl (q H1 s1))
  | some vw =>
    rw [e4] at g3
    have g3 : TsAt H p vw := g3
    refine itT (by rw [vow_ref g3]; rfl) ?_
    refine ⟨_, rfl, x, C, dx, _, _, rfl, s1 _ _ h1, T.cl, T.n7, rf_promise, by show 0 ≤ sizeLine; decide, fun l hl => ?_⟩
    refine ⟨by show 2 ≤ sizeLine; decide, fun wd hwd => ?_⟩
    have s2 := s1.trans (same_new hl (.tup []))
    have s3 := s2.trans (same_new hwd (.tup [.str "asked", .str "told"]))
    refine ⟨p, l, wd, vw, [], ["asked", "told"], rfl, g3.keep (Same.tups s3), e3 _ e4, .inr ((same_new hwd _) _ _ upd_same), upd_same, fun H2 s4 => ⟨_, rfl, itF rfl (q H2 (s3.trans s4))⟩⟩
end
end Any
namespace Any
open L2 PySem PySem.Spec PyProof.Rows LamX NdefX
/-- a tuple of rooms -/
def RsAt (C : Addr) (H : Hp) (R : Addr) (rs : List Rm) : Prop := ∃ as : List Addr, H R = some (.tup (as.map V.ref)) ∧ Paired (RmAt C H) as rs
theorem RsAt.keep {C : Addr} {H H' : Hp} (k : Same H H') {R : Addr} {rs : List Rm} (h : RsAt C H R rs) : RsAt C H' R rs := by
  obtain ⟨as, h1, h2⟩ := h
  exact ⟨as, k _ _ h1, paired_imp (fun _ _ q => q.keep k) h2⟩
theorem refs_at {as : List Addr} {i : Nat} {v : V} (h : (as.map V.ref)[i]? = some v) : ∃ e, as[i]? = some e ∧ v = .ref e := by
  rw [List.getElem?_map] at h
  cases z : as[i]? with
  | none => rw [z] at h; cases h
  | some e => rw [z] at h; exact ⟨e, rfl, (Option.some.inj h).symm⟩
theorem paired_put {α β : Type} {R : α → β → Prop} : ∀ {xs : List α} {ys : List β}, Paired R xs ys → ∀ {i : Nat} {y : β}, ys[i]? = some y → ∃ x, xs[i]? = some x ∧ R x y
  | _, _, .nil, i, y, h => by simp at h
  | _, _, .cons r t, 0, y, h => by cases h; exact ⟨_, rfl, r⟩
  | _, _, .cons r t, i + 1, y, h => paired_put t (i := i) h
/-- what isinstance asks of the class -/
structure RoomI (K : PySem.W.Frag) (C : Addr) : Prop where
  ha : PySem.W.findIn K (.ref C) "__class__" = some (some (.builtin "object.__class__"))
  hn : PySem.W.specialIn K (.builtin "object.__class__") "__get__" = some (some (.builtin "getset_descriptor.__get__"))
  htk : PySem.W.takesIn K (.builtin "object.__class__") = some true
  hm : PySem.W.mroIn K C (.type "object") = some true
  one : PySem.W.kitOne K (.ref C) (.ref C) = some true
theorem scRooms : FnScope ["things", "thing"] ["things"] (defScope sRooms) := ⟨rfl, rfl, rfl, by decide +kernel, rfl, by decide +kernel, by decide +kernel⟩
theorem scNameF : FnScope ["rooms", "at", "name", "room"] ["rooms", "at"] (defScope sNameF) := ⟨rfl, rfl, rfl, by decide +kernel, rfl, by decide +kernel, by decide +kernel⟩
abbrev nmBo : List Str := ["rooms", "at", "words", "room", "beneath", "other"]
theorem scBodyF : FnScope nmBo ["rooms", "at", "words"] (defScope sBodyF) := ⟨rfl, rfl, rfl, by decide +kernel, rfl, by decide +kernel, by decide +kernel⟩
/-- the names of the rooms right beneath -/
def ben (rs : List Rm) (n : Str) : List Str := (rs.filter fun o => decide (o.above = n)).map (·.name)
theorem fm_ben (n : Str) : ∀ rs : List Rm, (rs.map fun o => if o.above = n then some (V.str o.name) else none).filterMap id = (ben rs n).map V.str
  | [] => rfl
  | o :: r => by
    have ih := fm_ben n r
    unfold ben at ih ⊢
    rw [List.map_cons]
    by_cases e : o.above = n
    · rw [if_pos e, List.filter_cons_of_pos (by simpa using e), List.map_cons, List.map_cons, ← ih]
      rfl
    · rw [if_neg e, List.filter_cons_of_neg (by simpa using e), ← ih]
      rfl
def spRooms (C : Addr) : Sp := fun vs H Q _ => ∃ R rs, vs = [.ref R] ∧ RsAt C H R rs ∧ 1 ≤ rs.length ∧ rs.length ≤ 8 ∧ ∀ H', Same H H' → Q (.bl true) H'
def spNameF (C : Addr) : Sp := fun vs H Q _ => ∃ (R : Addr) (i : Nat) (rs : List Rm) (r : Rm), vs = [.ref R, .int i] ∧ RsAt C H R rs ∧ rs.length ≤ 8 ∧ rs[i]? = some r ∧ Nm r.name ∧ r.name ∉ (rs.take i).map (·.name) ∧ ∀ H', Same H H' → Q (.bl true) H'
def spBodyF (C : Addr) : Sp := fun vs H Q _ => ∃ (R wd : Addr) (i : Nat) (rs : List Rm) (r : Rm) (ws : List Str), vs = [.ref R, .int i, .ref wd] ∧ RsAt C H R rs ∧ rs.length ≤ 8 ∧ rs[i]? = some r ∧ r.boxes.length ≤ 4 ∧
  r.body.right r.bn ws (ben rs r.name) ∧ H wd = some (.tup (ws.map V.str)) ∧ ∀ H', Same H H' → Q (.str "") H'
theorem cut_to (xs : List V) (i : Nat) (h : i ≤ xs.length) : cutV xs none (some (i : Int)) = xs.take i := by
  unfold cutV
  rw [HT.sIx_none, HT.sIx_nat, List.drop_zero, Nat.sub_zero, Nat.min_eq_left h]
theorem paired_take {α β : Type} {R : α → β → Prop} : ∀ {xs : List α} {ys : List β}, Paired R xs ys → ∀ i : Nat, Paired R (xs.take i) (ys.take i)
  | _, _, .nil, i => by rw [List.take_nil, List.take_nil]; exact .nil
  | _, _, .cons r t, 0 => .nil
  | _, _, .cons r t, i + 1 => by rw [List.take_succ_cons, List.take_succ_cons]; exact .cons r (paired_take t i)
section
variable {P : Program} {w : World} {K : PySem.W.Frag} {mg : Str → Option Value} {base : Heap} {f C nm ib bn : Addr} {fd nmd ibd bnd : FuncData}
theorem ok_rooms (O : Own mg) (T : RoomC K C) (TI : RoomI K C) (mR : mg "Room" = some (.ref C)) (F : Fun K "are_rooms" "are_rooms" sRooms f fd) {t8 : Tok} (m8 : mg "MOST_ROOMS" = some (.int 8 t8)) : FnOk P w K mg base CX0 1 f fd ["things"] (spRooms C) := by
  refine F.ok scRooms (fun vs H Q E h => ?_) (fun cdv A outer s H vs Q E hr h => ?_)
  · obtain ⟨R, rs, rfl, _⟩ := h
    rfl
  obtain ⟨R, rs, rfl, ⟨as, hR, hp⟩, z1, z8, q⟩ := h
  have hl := paired_len hp
  have hs : sizeLine = 16777216 := sizeLine_eq
  refine ⟨_, pss_cons (ps_if (PW.pt (pw_or (pt_not (pt_val (pe_callB call_isi rfl O.isi (by decide +kernel) (pa_cons (pv 0) (pa_cons (pe_bltn (v := .ty "tuple") rfl O.tuple (by decide +kernel) rfl) pa_nil)))))
      (pw_or1 (pt_not (pt_chain op_le op_le pe_int (pe_callB call_len_seq rfl O.len PySem.boot_len (pa_cons (pv 0) pa_nil)) (pe_glob (v := .int 8) rfl m8 ⟨_, rfl⟩)))))) (pss_one (ps_ret pe_bl)) pss_nil)
    (pss_one (ps_ret (pe_callB (cr_all rfl) rfl O.all (by decide +kernel) (pa_cons (pe_lc (own := [("thing", 1)]) (g := gName 1) (tt := tYes) rfl scRooms.nd
            (pi_tup (pv 0)) (blkOk_by (N := ["things", "thing"]) (sc := defScope sRooms) (by decide +kernel))
            (fun _ _ _ _ _ => pg_name (i := 1) scRooms.nd rfl (Or.inl rfl)) (fun _ _ _ _ _ => pts_nil)
            (fun _ _ _ _ _ => pe_callB (show CallR _ (.builtin "isinstance") (rIsi K) from call_isi) rfl O.isi (by decide +kernel) (pa_cons (pv 1) (pa_cons (pe_glob (v := .ref C) rfl mR rfl) pa_nil)))) pa_nil)))), ?_⟩
  refine ⟨_, rfl, _, _, _, _, true, rfl, .ty "tuple", .base (.tup hR), kb "tuple" "tuple" true, _, rfl, itF rfl ?_⟩
  refine ⟨_, rfl, R, _, rfl, .inr (SqT.of hR), _, _, rfl, rfl, _, rfl, itT ?_ ⟨_, _, rfl, rfl, _, rfl, itF ?_ ?_⟩⟩
  · exact decide_eq_true (by rw [List.length_map]; omega)
  · show (!decide (((as.map V.ref).length : Int) ≤ 8)) = false
    rw [decide_eq_true (by rw [List.length_map]; omega)]
    rfl
  refine ⟨_, rfl, R, rfl, ⟨_, SqT.of hR⟩, fun D hD => ?_⟩
  refine turns_tup (K := K) (a := R) (xs := as.map V.ref) ((as.map V.ref).map fun _ => some (.bl true)) hD (fun Hc sm => SqT.of (sm _ _ hR)) (by rw [List.length_map]) (by rw [List.length_map]; omega) ?_ ?_
  · intro i z o Hc Y N hz ho sm hY hN
    have eo : o = some (.bl true) := by
      rw [List.getElem?_map, hz] at ho
      exact (Option.some.inj ho).symm
    obtain ⟨e, he, rfl⟩ := refs_at hz
    obtain ⟨r, _, dx, n, a, b, s', k, t, p, y, h1, h2⟩ := paired_get hp he
    exact ⟨rfl, _, rfl, _, _, _, _, true, rfl, .own C, .base (.ins (sm _ _ h1) T.cl TI.ha TI.hn TI.htk TI.hm), TI.one, hY _ eo Hc same_refl⟩
  · intro Hc hc sm
    rw [fm_true] at hc
    refine ⟨D, _, rfl, SqL.of hc, ?_⟩
    rw [List.all_map, show ((as.map V.ref).all (id ∘ fun _ => true)) = true from List.all_eq_true.mpr fun _ _ => rfl]
    exact q Hc sm
theorem ok_namef (T : RoomC K C) (F : Fun K "name_fits" "name_fits" sNameF f fd) (GN : FnOk P w K mg base CX0 1 nm nmd ["thing"] spName) (bN : Binds K nmd ["thing"] []) (kN : PySem.W.keepIn K (.ref nm) = true) (mN : mg "is_name" = some (.ref nm)) :
    FnOk P w K mg base CX0 2 f fd ["rooms", "at"] (spNameF C) := by
  refine F.ok scNameF (fun vs H Q E h => ?_) (fun cdv A outer s H vs Q E hr h => ?_)
  · obtain ⟨R, i, rs, r, rfl, _⟩ := h
    rfl
  obtain ⟨R, i, rs, r, rfl, ⟨as, hR, hp⟩, z8, hi, k1, k2, q⟩ := h
  have hl := paired_len hp
  have hs : sizeLine = 16777216 := sizeLine_eq
  have hlt : i < rs.length := (List.getElem?_eq_some_iff.mp hi).1
  obtain ⟨e, he, hx⟩ := paired_put hp hi
  obtain ⟨dx, n, a, b, s', k, t, p, y, h1, h2⟩ := id hx
  have hn := h2.name
  subst hn
  have hlr : (as.map V.ref).length = rs.length := by rw [List.length_map]; exact hl
  refine ⟨_, pss_cons (ps_set (i := 2) scNameF.nd rfl (Or.inl rfl) (pe_fld (pe_ix ix_tup (pv 0) (pv 1) (fun _ _ => rfl)) rfl))
    (pss_one (ps_ret (pe_and (pe_call GN hr rfl mN kN bN .nil pass0 (pa_cons (pv 2) pa_nil)) (pe_one (pe_cmpR op_notIn_seq (pv 2) (pe_lc (own := [("room", 3)]) (g := gName 3) (tt := tYes) (te := tFld K (tVar 3) "name") rfl scNameF.nd
            (pi_tup (pe_slice sl_tup (pv 0) po_none (po_some (pv 1)))) (blkOk_by (N := ["rooms", "at", "name", "room"]) (sc := defScope sNameF) (by decide +kernel))
            (fun _ _ _ _ _ => pg_name (i := 3) scNameF.nd rfl (Or.inl rfl)) (fun _ _ _ _ _ => pts_nil) (fun _ _ _ _ _ => pe_fld (pv 3) rfl)) (by rfl)))))), ?_⟩
  refine ⟨_, rfl, _, rfl, R, _, i, _, rfl, rfl, SqT.of hR, atI_nat (j := i) (by rw [List.getElem?_map, he]; rfl), e, C, dx, _, _, rfl, h1, T.cl, T.n1, rf_name, ?_⟩
  refine ⟨_, rfl, r.name, rfl, k1, fun H1 s1 => ⟨_, rfl, itT rfl ?_⟩⟩
  refine ⟨_, rfl, _, rfl, _, rfl, i, rfl, R, _, rfl, SqT.of (s1 _ _ hR), ?_, fun p2 hp2 => ⟨p2, rfl, ⟨_, SqT.of upd_same⟩, fun D hD => ?_⟩⟩
  · rw [HT.sIx_nat, hlr]
    intro z
    have := z.2
    omega
  rw [cut_to _ _ (by rw [hlr]; omega), ← List.map_take] at hD ⊢
  have s2 := s1.trans (same_new hp2 (.tup ((as.take i).map V.ref)))
  have hp' := paired_take hp i
  refine turns_tup (K := K) (a := p2) (xs := (as.take i).map V.ref) ((rs.take i).map fun o => some (V.str o.name)) hD (fun Hc sm => SqT.of (sm _ _ upd_same)) (by rw [List.length_map, List.length_map]; exact (paired_len hp').symm) (by rw [List.length_map, List.length_take]; omega) ?_ ?_
  · intro j z o Hc Y N hz ho sm hY hN
    obtain ⟨e', he', rfl⟩ := refs_at hz
    obtain ⟨r', hr', dx', n', a', b', s'', k', t', p', y', h1', h2'⟩ := paired_get hp' he'
    rw [List.getElem?_map, hr'] at ho
    have hn' := h2'.name
    subst hn'
    exact ⟨rfl, _, rfl, e', C, dx', _, _, rfl, sm _ _ (s2 _ _ h1'), T.cl, T.n1, rf_name, hY _ (Option.some.inj ho).symm Hc same_refl⟩
  · intro Hc hc sm
    rw [fm_some (fun o : Rm => V.str o.name)] at hc
    have e3 : (rs.take i).map (fun o : Rm => V.str o.name) = ((rs.take i).map (·.name)).map V.str := by rw [List.map_map]; rfl
    rw [e3] at hc
    refine ⟨D, _, rfl, .inl (SqL.of hc), rfl, strs_flat _, ?_⟩
    show Q (.bl (!inV _ _)) Hc
    rw [in_strs, decide_eq_false k2]
    exact q Hc (s2.trans sm)
end
end Any
namespace Any
open L2 PySem PySem.Spec PyProof.Rows LamX NdefX
section
variable {P : Program} {w : World} {K : PySem.W.Frag} {mg : Str → Option Value} {base : Heap} {f C nm ib bn : Addr} {fd nmd ibd bnd : FuncData}
theorem ok_bodyf (T : RoomC K C) (F : Fun K "body_fault" "body_fault" sBodyF f fd) (IB : FnOk P w K mg base CX0 27 ib ibd ps4 spIsB) (bI : Binds K ibd ps4 []) (kI : PySem.W.keepIn K (.ref ib) = true) (mI : mg "is_body" = some (.ref ib))
    (BN : FnOk P w K mg base CX0 1 bn bnd ["room"] (spBn C)) (bB : Binds K bnd ["room"] []) (kB : PySem.W.keepIn K (.ref bn) = true) (mB : mg "box_names" = some (.ref bn)) :
    FnOk P w K mg base CX0 28 f fd ["rooms", "at", "words"] (spBodyF C) := by
  refine F.ok scBodyF (fun vs H Q E h => ?_) (fun cdv A outer s H vs Q E hr h => ?_)
  · obtain ⟨R, wd, i, rs, r, ws, rfl, _⟩ := h
    rfl
  obtain ⟨R, wd, i, rs, r, ws, rfl, ⟨as, hR, hp⟩, z8, hi, hz, hb, hw, q⟩ := h
  have hl := paired_len hp
  have hs : sizeLine = 16777216 := sizeLine_eq
  obtain ⟨e, he, hx⟩ := paired_put hp hi
  obtain ⟨dx, n, a, b, s', k, t, p, y, h1, h2⟩ := id hx
  have hn := h2.name
  subst hn
  obtain ⟨c, rfl, hc⟩ := h2.body
  refine ⟨_, pss_cons (ps_set (i := 3) scBodyF.nd rfl (Or.inr rfl) (pe_ix ix_tup (pv 0) (pv 1) (fun _ _ => rfl)))
    (pss_cons (ps_setLc (i := 4) (own := [("other", 5)]) (g := gName 5) (tt := tTest (tOp rEq (tFld K (tVar 5) "above") (tFld K (tVar 3) "name"))) (te := tFld K (tVar 5) "name") (by rfl) scBodyF.nd rfl rfl (sw_true rfl rfl rfl (by decide +kernel)) (pi_tup (pv 0)) (blkOk_by (N := nmBo) (sc := defScope sBodyF) (by decide +kernel))
          (fun _ _ _ _ _ => pg_name (i := 5) scBodyF.nd rfl (Or.inl rfl)) (fun _ _ _ _ _ => pts_one (pt_cmpR op_eq (pe_fld (pv 5) rfl) (pe_fld (pv 3) rfl) (nomark _))) (fun _ _ _ _ _ => pe_fld (pv 5) rfl))
    (pss_cons (ps_if (pt_val (pe_call IB hr rfl mI kI bI .nil pass0 (pa_cons (pe_fld (pv 3) rfl) (pa_cons (pe_call BN (hr.mono (by decide)) rfl mB kB bB .nil pass0 (pa_cons (pv 3) pa_nil)) (pa_cons (pv 2) (pa_cons (pv 4) pa_nil)))))) (pss_one (ps_ret pe_str)) pss_nil)
    (pss_one (ps_ret pe_str)))), ?_⟩
  refine ⟨_, rfl, _, rfl, R, _, i, _, rfl, rfl, SqT.of hR, atI_nat (j := i) (by rw [List.getElem?_map, he]; rfl), ?_⟩
  refine ⟨_, rfl, R, rfl, ⟨_, SqT.of hR⟩, fun D hD => ?_⟩
  refine turns_tup (K := K) (a := R) (xs := as.map V.ref) (rs.map fun o => if o.above = r.name then some (V.str o.name) else none) hD (fun Hc sm => SqT.of (sm _ _ hR)) (by rw [List.length_map, List.length_map]; exact hl.symm) (by rw [List.length_map]; omega) ?_ ?_
  · intro j z o Hc Y N hz2 ho sm hY hN
    obtain ⟨e', he', rfl⟩ := refs_at hz2
    obtain ⟨r', hr', dx', n', a', b', s'', k', t', p', y', h1', h2'⟩ := paired_get hp he'
    rw [List.getElem?_map, hr'] at ho
    have ho : o = if r'.above = r.name then some (V.str r'.name) else none := (Option.some.inj ho).symm
    have hn' := h2'.name
    have ha' := h2'.above
    subst hn' ha'
    refine ⟨rfl, _, rfl, e', C, dx', _, _, rfl, sm _ _ h1', T.cl, T.n2, rf_above, _, rfl, e, C, dx, _, _, rfl, sm _ _ h1, T.cl, T.n1, rf_name, rfl, _, rfl, ite2 (fun c1 => ?_) (fun c1 => ?_)⟩
    · have e9 : r'.above = r.name := V.str.inj (of_decide_eq_true c1)
      rw [if_pos e9] at ho
      exact ⟨_, rfl, e', C, dx', _, _, rfl, sm _ _ h1', T.cl, T.n1, rf_name, hY _ ho Hc same_refl⟩
    · have e9 : ¬ r'.above = r.name := fun z => c1 (decide_eq_true (by rw [z]))
      rw [if_neg e9] at ho
      exact hN ho Hc same_refl
  · intro Hc hc2 sm
    rw [fm_ben] at hc2
    refine ⟨_, rfl, e, C, dx, _, _, rfl, sm _ _ h1, T.cl, T.n8, rf_body, ?_⟩
    refine ⟨_, rfl, e, r, rfl, hx.keep sm, hz, fun l H2 hl2 s2 hL => ⟨_, rfl, _, rfl, ?_⟩⟩
    have s3 := sm.trans s2
    refine ⟨c, l, wd, D, r.body, r.bn, ws, ben rs r.name, rfl, hc.keep (Same.tups s3), hb, .inl hL, s3 _ _ hw, .inl (s2 _ _ hc2), fun H3 s4 => ⟨_, rfl, itT rfl (q H3 (s3.trans s4))⟩⟩
end
end Any
namespace Any
open L2 PySem PySem.Spec PyProof.Rows LamX NdefX
/-! ### floors -/
def climb (st : Nat × Str) (r : Rm) : Nat × Str := if r.name = st.2 then (st.1 + 1, r.above) else st
def floorOf (rs : List Rm) (i : Nat) (a : Str) : Nat := ((rs.take i).reverse.foldl climb (1, a)).1
theorem climb_yes {st : Nat × Str} {r : Rm} (h : r.name = st.2) : climb st r = (st.1 + 1, r.above) := if_pos h
theorem climb_no {st : Nat × Str} {r : Rm} (h : ¬ r.name = st.2) : climb st r = st := if_neg h
/-- what a loop over a row from its end asks -/
def Loop (J : It) (g : TG) (tb : TS) (D : Ends) (σ : L2.St) (H : Hp) : Prop :=
  ∃ W : Nat → Nat → L2.St → Hp → Prop, (∃ m, W 0 m σ H) ∧
    ∀ i m σ H, W i m σ H →
      (J.stop i H ∧ D.nx σ H) ∨
      (J.go i H ∧ ∃ N : L2.St → Hp → Prop, (∀ σ' H', N σ' H' → ∃ m', m' < m ∧ W (i + 1) m' σ' H') ∧
        ∀ x H', J.yld i H x H' → g x σ H' fun σ2 H2 => tb { D with nx := N, ct := N, bk := D.nx } σ2 H2)
theorem loop_rt {K : PySem.W.Frag} {a : Addr} {xs : List V} {g : TG} {tb : TS} {D : Ends} {σ : L2.St} {H : Hp} (Pv : Nat → L2.St → Hp → Prop) (h0 : Pv 0 σ H) (hl : ∀ i σ H, Pv i σ H → SqT K H a xs)
    (hs : ∀ i x σ H, xs.reverse[i]? = some x → Pv i σ H → g x σ H fun σ2 H2 => tb { D with nx := Pv (i + 1), ct := Pv (i + 1), bk := D.nx } σ2 H2) (hd : ∀ σ H, Pv xs.length σ H → D.nx σ H) : Loop (RT.ItvT K a xs.length) g tb D σ H := by
  refine ⟨fun i m σ H => m = xs.length - i ∧ i ≤ xs.length ∧ Pv i σ H, ⟨_, rfl, Nat.zero_le _, h0⟩, ?_⟩
  rintro i m σ H ⟨rfl, hi, p⟩
  have sq := hl i σ H p
  by_cases lt : i < xs.length
  · have e : xs.reverse[i]? = xs[xs.length - 1 - i]? := List.getElem?_reverse lt
    have e2 : xs[xs.length - 1 - i]? = some (xs[xs.length - 1 - i]'(by omega)) := by rw [List.getElem?_eq_getElem]
    refine .inr ⟨⟨lt, xs, _, sq, e2⟩, Pv (i + 1), fun σ' H' q => ⟨_, by omega, rfl, lt, q⟩, fun x H' y => ?_⟩
    obtain ⟨rfl, y⟩ := y
    exact hs i x σ H' (e.trans (y xs sq)) p
  · have e : i = xs.length := by omega
    subst e
    exact .inl ⟨Nat.le_refl _, hd σ H p⟩
abbrev nmFl : List Str := ["rooms", "at", "floor", "above", "room"]
theorem scFloor : FnScope nmFl ["rooms", "at"] (defScope sFloor) := ⟨rfl, rfl, rfl, by decide +kernel, rfl, by decide +kernel, by decide +kernel⟩
def spFloor (C : Addr) : Sp := fun vs H Q _ => ∃ (R : Addr) (i : Nat) (rs : List Rm) (r : Rm), vs = [.ref R, .int i] ∧ RsAt C H R rs ∧ rs[i]? = some r ∧ ∀ H', Same H H' → Q (.int (floorOf rs i r.above)) H'
theorem fold_take {α β : Type} (f : β → α → β) (b : β) {l : List α} {i : Nat} {x : α} (h : l[i]? = some x) : (l.take (i + 1)).foldl f b = f ((l.take i).foldl f b) x := by
  rw [List.take_add_one, h, List.foldl_append]
  rfl
theorem paired_rev {α β : Type} {R : α → β → Prop} : ∀ {xs : List α} {ys : List β}, Paired R xs ys → ∀ {us : List α} {vs : List β}, Paired R us vs → Paired R (xs.reverse ++ us) (ys.reverse ++ vs)
  | _, _, .nil, us, vs, h => h
  | _, _, .cons r t, us, vs, h => by
    rw [List.reverse_cons, List.reverse_cons, List.append_assoc, List.append_assoc]
    exact paired_rev t (.cons r h)
section
variable {P : Program} {w : World} {K : PySem.W.Frag} {mg : Str → Option Value} {base : Heap} {f C fl : Addr} {fd fld : FuncData}
theorem ok_floor (T : RoomC K C) (mrev : mg "reversed" = none) (F : Fun K "floor_of" "floor_of" sFloor f fd) : FnOk P w K mg base CX0 1 f fd ["rooms", "at"] (spFloor C) := by
  refine F.ok scFloor (fun vs H Q E h => ?_) (fun cdv A outer s H vs Q E hr h => ?_)
  · obtain ⟨R, i, rs, r, rfl, _⟩ := h
    rfl
  obtain ⟨R, i, rs, r, rfl, ⟨as, hR, hp⟩, hi, q⟩ := h
  have hl := paired_len hp
  have hlt : i < rs.length := (List.getElem?_eq_some_iff.mp hi).1
  obtain ⟨e, he, hx⟩ := paired_put hp hi
  obtain ⟨dx, n, a, b, s', k, t, p, y, h1, h2⟩ := id hx
  have ha := h2.above
  subst ha
  have hlr : (as.map V.ref).length = rs.length := by rw [List.length_map]; exact hl
  refine ⟨_, pss_cons (ps_set (i := 2) scFloor.nd rfl (Or.inl rfl) pe_int)
    (pss_cons (ps_set (i := 3) scFloor.nd rfl (Or.inl rfl) (pe_fld (pe_ix ix_tup (pv 0) (pv 1) (fun _ _ => rfl)) rfl))
    (pss_cons (ps_for PassesOwn.never rfl (RT.pi_revA rfl mrev (pe_slice sl_tup (pv 0) po_none (po_some (pv 1)))) (pg_name (i := 4) scFloor.nd rfl (Or.inl rfl))
      (pss_one (ps_if (pt_cmpR op_eq (pe_fld (pv 4) rfl) (pv 3) (nomark _)) (pss_cons (ps_set (i := 3) scFloor.nd rfl (Or.inl rfl) (pe_fld (pv 4) rfl)) (pss_one (ps_aug (i := 2) scFloor.nd rfl (Or.inl rfl) pe_int ip_add))) pss_nil)))
    (pss_one (ps_ret (pv 2))))), ?_⟩
  refine ⟨_, rfl, _, rfl, R, _, i, _, rfl, rfl, SqT.of hR, atI_nat (j := i) (by rw [List.getElem?_map, he]; rfl), e, C, dx, _, _, rfl, h1, T.cl, T.n2, rf_above, ?_⟩
  refine ⟨_, rfl, _, rfl, i, rfl, R, _, rfl, SqT.of hR, ?_, fun p2 hp2 => ?_⟩
  · rw [HT.sIx_nat, hlr]
    intro z
    have := z.2
    omega
  rw [cut_to _ _ (by rw [hlr]; omega), ← List.map_take]
  have hp' := paired_take hp i
  have hpr : Paired (RmAt C H) (as.take i).reverse (rs.take i).reverse := by
    have := paired_rev hp' .nil
    rw [List.append_nil, List.append_nil] at this
    exact this
  have s1 := same_new hp2 (.tup ((as.take i).map V.ref))
  refine ⟨p2, (as.take i).map V.ref, rfl, .inr ⟨SqT.of upd_same, ?_⟩⟩
  refine loop_rt (K := K) (a := p2) (xs := (as.take i).map V.ref) (fun j σ Hc => ∃ x, Hc = upd H p2 (.tup ((as.take i).map V.ref)) ∧ σ = [some (.ref R), some (.int i), some (.int (((rs.take i).reverse.take j).foldl climb (1, r.above)).1), some (.str (((rs.take i).reverse.take j).foldl climb (1, r.above)).2), x]) ?_ ?_ ?_ ?_
  · exact ⟨_, rfl, rfl⟩
  · rintro j σ Hc ⟨x, rfl, rfl⟩
    exact SqT.of upd_same
  · rintro j v σ Hc hv ⟨x, rfl, rfl⟩
    rw [← List.map_reverse] at hv
    obtain ⟨e', he', rfl⟩ := refs_at hv
    obtain ⟨r', hr', dx', n', a', b', s'', k', t', p', y', h1', h2'⟩ := paired_get hpr he'
    have hn' := h2'.name
    have ha' := h2'.above
    subst hn' ha'
    have ft := fold_take climb (1, r.above) hr'
    refine ⟨_, rfl, e', C, dx', _, _, rfl, s1 _ _ h1', T.cl, T.n1, rf_name, _, rfl, rfl, _, rfl, ite2 (fun c1 => ?_) (fun c1 => ?_)⟩
    · have e9 := V.str.inj (of_decide_eq_true c1)
      refine ⟨_, rfl, e', C, dx', _, _, rfl, s1 _ _ h1', T.cl, T.n2, rf_above, ?_⟩
      refine ⟨_, rfl, _, _, rfl, rfl, some (.ref e'), rfl, ?_⟩
      rw [ft, climb_yes e9]
      rfl
    · have e9 : ¬ r'.name = _ := fun z => c1 (decide_eq_true (by rw [z]))
      refine ⟨some (.ref e'), rfl, ?_⟩
      rw [ft, climb_no e9]
      rfl
  · rintro σ Hc ⟨x, rfl, rfl⟩
    refine ⟨_, rfl, ?_⟩
    have e5 : ((rs.take i).reverse.take ((as.take i).map V.ref).length) = (rs.take i).reverse := by
      rw [List.length_map, paired_len hp', ← List.length_reverse, List.take_length]
    rw [e5]
    exact q _ s1
theorem scAboveF : FnScope ["rooms", "at", "above", "room"] ["rooms", "at"] (defScope sAboveF) := ⟨rfl, rfl, rfl, by decide +kernel, rfl, by decide +kernel, by decide +kernel⟩
/-- above as point 7 has it -/
def aboveOk (rs : List Rm) (i : Nat) (r : Rm) : Prop := (i = 0 → r.above = "") ∧ (i ≠ 0 → r.above ∈ (rs.take i).map (·.name) ∧ floorOf rs i r.above ≤ 4)
def spAboveF (C : Addr) : Sp := fun vs H Q _ => ∃ (R : Addr) (i : Nat) (rs : List Rm) (r : Rm), vs = [.ref R, .int i] ∧ RsAt C H R rs ∧ rs.length ≤ 8 ∧ rs[i]? = some r ∧ aboveOk rs i r ∧ ∀ H', Same H H' → Q (.bl true) H'
theorem ok_abovef (T : RoomC K C) (F : Fun K "above_fits" "above_fits" sAboveF f fd) (GF : FnOk P w K mg base CX0 1 fl fld ["rooms", "at"] (spFloor C)) (bF : Binds K fld ["rooms", "at"] []) (kF : PySem.W.keepIn K (.ref fl) = true) (mF : mg "floor_of" = some (.ref fl))
    {t4 : Tok} (m4 : mg "MOST_FLOORS" = some (.int 4 t4)) : FnOk P w K mg base CX0 2 f fd ["rooms", "at"] (spAboveF C) := by
  refine F.ok scAboveF (fun vs H Q E h => ?_) (fun cdv A outer s H vs Q E hr h => ?_)
  · obtain ⟨R, i, rs, r, rfl, _⟩ := h
    rfl
  obtain ⟨R, i, rs, r, rfl, hRs, z8, hi, ok, q⟩ := h
  obtain ⟨as, hR, hp⟩ := id hRs
  have hl := paired_len hp
  have hs : sizeLine = 16777216 := sizeLine_eq
  have hlt : i < rs.length := (List.getElem?_eq_some_iff.mp hi).1
  obtain ⟨e, he, hx⟩ := paired_put hp hi
  obtain ⟨dx, n, a, b, s', k, t, p, y, h1, h2⟩ := id hx
  have ha := h2.above
  subst ha
  have hlr : (as.map V.ref).length = rs.length := by rw [List.length_map]; exact hl
  refine ⟨_, pss_cons (ps_set (i := 2) scAboveF.nd rfl (Or.inl rfl) (pe_fld (pe_ix ix_tup (pv 0) (pv 1) (fun _ _ => rfl)) rfl))
    (pss_cons (ps_if (pt_cmpR op_eq (pv 1) pe_int (nomark _)) (pss_one (ps_ret (pe_cmpR op_eq (pv 2) pe_str (nomark _)))) pss_nil)
    (pss_one (ps_ret (pe_and (pe_cmpR op_in_seq (pv 2) (pe_lc (own := [("room", 3)]) (g := gName 3) (tt := tYes) (te := tFld K (tVar 3) "name") rfl scAboveF.nd
            (pi_tup (pe_slice sl_tup (pv 0) po_none (po_some (pv 1)))) (blkOk_by (N := ["rooms", "at", "above", "room"]) (sc := defScope sAboveF) (by decide +kernel))
            (fun _ _ _ _ _ => pg_name (i := 3) scAboveF.nd rfl (Or.inl rfl)) (fun _ _ _ _ _ => pts_nil) (fun _ _ _ _ _ => pe_fld (pv 3) rfl)) (by rfl))
      (pe_one (pe_cmpR op_le (pe_call GF hr rfl mF kF bF .nil pass0 (pa_cons (pv 0) (pa_cons (pv 1) pa_nil))) (pe_glob (v := .int 4) rfl m4 ⟨_, rfl⟩) (nomark _))))))), ?_⟩
  refine ⟨_, rfl, _, rfl, R, _, i, _, rfl, rfl, SqT.of hR, atI_nat (j := i) (by rw [List.getElem?_map, he]; rfl), e, C, dx, _, _, rfl, h1, T.cl, T.n2, rf_above, ?_⟩
  refine ⟨_, rfl, rfl, _, rfl, ite2 (fun c1 => ?_) (fun c1 => ?_)⟩
  · have i0 : (i : Int) = 0 := V.int.inj (of_decide_eq_true c1)
    refine ⟨_, rfl, rfl, ?_⟩
    rw [ok.1 (by omega)]
    exact q _ same_refl
  have i0 : i ≠ 0 := fun z => c1 (decide_eq_true (by rw [z]; rfl))
  obtain ⟨o1, o2⟩ := ok.2 i0
  refine ⟨_, rfl, _, rfl, _, rfl, i, rfl, R, _, rfl, SqT.of hR, ?_, fun p2 hp2 => ⟨p2, rfl, ⟨_, SqT.of upd_same⟩, fun D hD => ?_⟩⟩
  · rw [HT.sIx_nat, hlr]
    intro z
    have := z.2
    omega
  rw [cut_to _ _ (by rw [hlr]; omega), ← List.map_take] at hD ⊢
  have s2 := same_new hp2 (.tup ((as.take i).map V.ref))
  have hp' := paired_take hp i
  refine turns_tup (K := K) (a := p2) (xs := (as.take i).map V.ref) ((rs.take i).map fun o => some (V.str o.name)) hD (fun Hc sm => SqT.of (sm _ _ upd_same)) (by rw [List.length_map, List.length_map]; exact (paired_len hp').symm) (by rw [List.length_map, List.length_take]; omega) ?_ ?_
  · intro j z o Hc Y N hz ho sm hY hN
    obtain ⟨e', he', rfl⟩ := refs_at hz
    obtain ⟨r', hr', dx', n', a', b', s'', k', t', p', y', h1', h2'⟩ := paired_get hp' he'
    rw [List.getElem?_map, hr'] at ho
    have hn' := h2'.name
    subst hn'
    exact ⟨rfl, _, rfl, e', C, dx', _, _, rfl, sm _ _ (s2 _ _ h1'), T.cl, T.n1, rf_name, hY _ (Option.some.inj ho).symm Hc same_refl⟩
  · intro Hc hc sm
    rw [fm_some (fun o : Rm => V.str o.name)] at hc
    have e3 : (rs.take i).map (fun o : Rm => V.str o.name) = ((rs.take i).map (·.name)).map V.str := by rw [List.map_map]; rfl
    rw [e3] at hc
    have s3 := s2.trans sm
    refine ⟨D, _, rfl, .inl (SqL.of hc), rfl, strs_flat _, true, congrArg V.bl (in_eq o1), itT rfl ?_⟩
    refine ⟨_, rfl, _, rfl, R, i, rs, r, rfl, hRs.keep s3, hi, fun H4 s4 => ⟨_, _, rfl, rfl, ?_⟩⟩
    show Q (.bl (decide ((floorOf rs i r.above : Int) ≤ 4))) H4
    rw [decide_eq_true (by omega)]
    exact q H4 (s3.trans s4)
end
end Any
namespace Any
open L2 PySem PySem.Spec PyProof.Rows LamX NdefX
theorem Gr.seq {T : List NTab} {K : PySem.W.Frag} {H H' : Hp} (g : Gr T H H') {a : Addr} {xs : List V} (h : SqL K H a xs) : SqL K H' a xs := by
  rcases h with (h | ⟨o, h⟩) | h
  · exact .inl (.inl (g.lst h))
  · exact .inl (.inr ⟨o, g.ext _ _ h fun _ z => by cases z⟩)
  · exact .inr h
theorem Bag.gr {T : List NTab} {H H' : Hp} {b : Addr} {n : Nat} (h : Bag H b n) (g : Gr T H H') : Bag H' b n := by
  obtain ⟨x, y, z, h1, h2⟩ := h
  exact ⟨x, y, z, g.lst h1, h2⟩
theorem tabs_kept {T : List NTab} {b : Addr} {H H' : Hp} {xs : List V} (t : TabsN T H) (hb : H b = some (.lst xs)) (k : Kept b H H') : TabsN T H' := fun p hp => by
  obtain ⟨ps, h1, h2, h3⟩ := t p hp
  refine ⟨ps, k _ _ (ne_of h1 hb (by intro z; cases z)) h1, h2, fun pos cv hc => ?_⟩
  obtain ⟨c, e1, e2⟩ := h3 pos cv hc
  exact ⟨c, e1, k _ _ (ne_of e2 hb (by unfold CodeO; intro z; cases z)) e2⟩
theorem gr_kept {T : List NTab} {b : Addr} {H0 H1 H2 : Hp} {m : Nat} (g : Gr T H0 H1) (n : H0 b = none) (B : Bag H1 b m) (k : Kept b H1 H2) : Gr T H0 H2 := by
  obtain ⟨xs, hb⟩ := B.lst
  refine ⟨fun a o h nt => k a o (ne_of_none h n) (g.ext a o h nt), fun c z => ?_, tabs_kept g.tabs hb k⟩
  by_cases e : c = b
  · rw [e]
    exact n
  · refine g.no c ?_
    cases q : H1 c with
    | none => rfl
    | some o => rw [k c o e q] at z; cases z
theorem gr_put {T : List NTab} {p : Addr} {H0 H1 : Hp} {xs ys : List V} (g : Gr T H0 H1) (n : H0 p = none) (h : H1 p = some (.lst xs)) : Gr T H0 (upd H1 p (.lst ys)) := by
  refine ⟨fun a o ha nt => ?_, fun c z => ?_, tabs_kept g.tabs h (Kept.put _)⟩
  · rw [upd_ne (ne_of_none ha n)]
    exact g.ext a o ha nt
  · by_cases e : c = p
    · rw [e]
      exact n
    · rw [upd_ne e] at z
      exact g.no c z
/-- as heaps grow, one object aside -/
structure Kg (T : List NTab) (b : Addr) (H H' : Hp) : Prop where
  ext : ∀ a o, a ≠ b → H a = some o → (∀ ps, o ≠ .tbl ps) → H' a = some o
  no : ∀ a, a ≠ b → H' a = none → H a = none
  tabs : TabsN T H'
section
variable {T : List NTab} {b : Addr} {H H1 H2 : Hp}
theorem tabs_keptO {o : HO} (t : TabsN T H) (hb : H b = some o) (n1 : ∀ ps, o ≠ .tbl ps) (n2 : ∀ c x, o ≠ CodeO c x) (k : Kept b H H1) : TabsN T H1 := fun p hp => by
  obtain ⟨ps, h1, h2, h3⟩ := t p hp
  refine ⟨ps, k _ _ (ne_of h1 hb (fun z => n1 _ z.symm)) h1, h2, fun pos cv hc => ?_⟩
  obtain ⟨c, e1, e2⟩ := h3 pos cv hc
  exact ⟨c, e1, k _ _ (ne_of e2 hb (fun z => n2 _ _ z.symm)) e2⟩
theorem kept_no (k : Kept b H H1) : ∀ a, a ≠ b → H1 a = none → H a = none := fun a n z => by
  cases q : H a with
  | none => rfl
  | some o => rw [k a o n q] at z; cases z
theorem Kg.of (g : Gr T H H1) : Kg T b H H1 := ⟨fun a o _ h n => g.ext a o h n, fun a _ z => g.no a z, g.tabs⟩
theorem Kg.refl (t : TabsN T H) : Kg T b H H := .of (.refl t)
theorem Kg.trans (k : Kg T b H H1) (g : Kg T b H1 H2) : Kg T b H H2 := ⟨fun a o n h m => g.ext a o n (k.ext a o n h m) m, fun a n z => k.no a n (g.no a n z), g.tabs⟩
theorem Kg.gr (k : Kg T b H H1) (g : Gr T H1 H2) : Kg T b H H2 := k.trans (.of g)
theorem Kg.same (k : Kg T b H H1) (s : Same H1 H2) : Kg T b H H2 := k.gr (.of k.tabs s)
theorem Kg.kept {m : Nat} (k : Kg T b H H1) (B : Bag H1 b m) (g : Kept b H1 H2) : Kg T b H H2 := by
  obtain ⟨xs, hb⟩ := B.lst
  exact k.trans ⟨fun a o n h _ => g a o n h, kept_no g, tabs_kept k.tabs hb g⟩
theorem Kg.lst (k : Kg T b H H1) {a : Addr} {xs : List V} (n : a ≠ b) (h : H a = some (.lst xs)) : H1 a = some (.lst xs) := k.ext _ _ n h fun _ z => by cases z
theorem Kg.dK (k : Kg T b H H1) {a : Addr} {xs : List (Key × V)} (n : a ≠ b) (h : H a = some (.dK xs)) : H1 a = some (.dK xs) := k.ext _ _ n h fun _ z => by cases z
theorem Bag.kgt {m : Nat} (B : Bag H b m) (k : Kg T b H H1) : Tups H H1 := fun a ts h => by
  obtain ⟨xs, hb⟩ := B.lst
  exact k.ext _ _ (ne_of h hb (by intro z; cases z)) h fun _ z => by cases z
theorem gr_kg {H0 : Hp} (g : Gr T H0 H1) (n : H0 b = none) (k : Kg T b H1 H2) : Gr T H0 H2 := by
  refine ⟨fun a o h nt => k.ext a o (ne_of_none h n) (g.ext a o h nt) nt, fun c z => ?_, k.tabs⟩
  by_cases e : c = b
  · rw [e]
    exact n
  · exact g.no c (k.no c e z)
theorem gr_keptO {H0 : Hp} {o : HO} (g : Gr T H0 H1) (n : H0 b = none) (hb : H1 b = some o) (n1 : ∀ ps, o ≠ .tbl ps) (n2 : ∀ c x, o ≠ CodeO c x) (k : Kept b H1 H2) : Gr T H0 H2 :=
  gr_kg g n ⟨fun a o m h _ => k a o m h, kept_no k, tabs_keptO g.tabs hb n1 n2 k⟩
end
theorem Gr.ins {T : List NTab} {H H' : Hp} (g : Gr T H H') {a C d : Addr} {fs : List (Str × V)} (h : H a = some (.ins C d fs)) : H' a = some (.ins C d fs) := g.ext _ _ h fun _ z => by cases z
theorem RmAt.gr {T : List NTab} {C : Addr} {H H' : Hp} (g : Gr T H H') {x : Addr} {r : Rm} (h : RmAt C H x r) : RmAt C H' x r := by
  obtain ⟨dx, n, a, b, s, q, t, p, y, h1, h2⟩ := h
  exact ⟨dx, n, a, b, s, q, t, p, y, g.ins h1, h2.keep g.tups⟩
theorem RsAt.gr {T : List NTab} {C : Addr} {H H' : Hp} (g : Gr T H H') {R : Addr} {rs : List Rm} (h : RsAt C H R rs) : RsAt C H' R rs := by
  obtain ⟨as, h1, h2⟩ := h
  exact ⟨as, g.tup h1, paired_imp (fun _ _ q => q.gr g) h2⟩
end Any
namespace Any
open L2 PySem PySem.Spec PyProof.Rows LamX NdefX
abbrev kwsW : List (Str × V) := [("asked", .int 0), ("told", .int 0)]
/-! ### a right one has its worth -/
theorem Ex.fit_good {xs ws : List Str} : ∀ {e : Ex}, e.fit xs ws → e.good xs
  | .num n, h => by
    have h : 0 ≤ n ∧ n ≤ 999 := h
    show 0 ≤ n ∧ n < 1024
    omega
  | .box x, h => h
  | .asked, _ => trivial
  | .told, _ => trivial
  | .op _ l r, h => ⟨Ex.fit_good h.1, Ex.fit_good h.2⟩
theorem Ts.fit_good {xs ws : List Str} : ∀ {e : Ts}, e.fit xs ws → e.dp ≤ 6 → e.good xs
  | .is l r, h, d => by
    have d : max l.deep r.deep + 1 ≤ 6 := d
    exact ⟨⟨Ex.fit_good h.1, by omega⟩, ⟨Ex.fit_good h.2, by omega⟩⟩
  | .bel l r, h, d => by
    have d : max l.deep r.deep + 1 ≤ 6 := d
    exact ⟨⟨Ex.fit_good h.1, by omega⟩, ⟨Ex.fit_good h.2, by omega⟩⟩
  | .nt t, h, d => by
    have d : t.dp + 1 ≤ 6 := d
    exact Ts.fit_good (e := t) h (by omega)
  | .both t u, h, d => by
    have d : max t.dp u.dp + 1 ≤ 6 := d
    exact ⟨Ts.fit_good h.1 (by omega), Ts.fit_good h.2 (by omega)⟩
  | .either t u, h, d => by
    have d : max t.dp u.dp + 1 ≤ 6 := d
    exact ⟨Ts.fit_good h.1 (by omega), Ts.fit_good h.2 (by omega)⟩
theorem Ts.deep_dp : ∀ e : Ts, e.deep ≤ e.dp
  | .is l r => by show 1 ≤ max l.deep r.deep + 1; omega
  | .bel l r => by show 1 ≤ max l.deep r.deep + 1; omega
  | .nt t => by have := t.deep_dp; show t.deep + 1 ≤ t.dp + 1; omega
  | .both t u => by have := t.deep_dp; have := u.deep_dp; show max t.deep u.deep + 1 ≤ max t.dp u.dp + 1; omega
  | .either t u => by have := t.deep_dp; have := u.deep_dp; show max t.deep u.deep + 1 ≤ max t.dp u.dp + 1; omega
/-- the firsts of a room's boxes -/
def Rm.firsts (r : Rm) : List (Str × Int) := r.boxes.map fun x => (x.1, x.2.2)
theorem firsts_look : ∀ {bs : List (Str × Int × Int)}, (∀ b ∈ bs, crateOk b) → ∀ x ∈ bs.map (·.1), ∃ n, look (bs.map fun b => (b.1, b.2.2)) x = some n ∧ 0 ≤ n ∧ n < 1024
  | [], _, x, h => by cases h
  | b :: bs, hb, x, h => by
    obtain ⟨_, ⟨_, h2⟩, h3, h4⟩ := hb b (List.mem_cons_self ..)
    unfold look
    rw [List.map_cons, List.find?_cons]
    by_cases e : b.1 = x
    · rw [decide_eq_true e]
      exact ⟨b.2.2, rfl, h3, by omega⟩
    · rw [decide_eq_false e]
      rcases List.mem_cons.mp h with z | z
      · exact absurd z.symm e
      · exact firsts_look (fun c hc => hb c (List.mem_cons_of_mem _ hc)) x z
theorem bx_new {kvs : List (Str × Int)} {x : Str} {n : Int} (h : x ∉ kvs.map (·.1)) : putK (bx kvs) (Sum.inr x) (.int n) = bx (kvs ++ [(x, n)]) := by
  rw [putK_new]
  · unfold bx
    rw [List.map_append]
    rfl
  · rw [bx_val]
    have : look kvs x = none := by
      unfold look
      rw [List.find?_eq_none.mpr fun p hp z => h (List.mem_map.mpr ⟨p, hp, of_decide_eq_true z⟩)]
      rfl
    rw [this]
    rfl
theorem nd_take {α : Type} : ∀ {l : List α} {i : Nat} {x : α}, l.Nodup → l[i]? = some x → x ∉ l.take i
  | [], i, x, _, h => by simp at h
  | y :: r, 0, x, _, _ => by intro m; cases m
  | y :: r, i + 1, x, nd, h => by
    rw [List.take_succ_cons]
    intro m
    have h' : r[i]? = some x := h
    obtain ⟨n1, n2⟩ := List.nodup_cons.mp nd
    rcases List.mem_cons.mp m with z | z
    · exact n1 (z ▸ List.mem_of_getElem? h')
    · exact nd_take n2 h' z
abbrev nmSy : List Str := ["room", "firsts", "name", "bound", "first", "saying"]
theorem scSaysF : FnScope nmSy ["room"] (defScope sSaysF) := ⟨rfl, rfl, rfl, by decide +kernel, rfl, by decide +kernel, by decide +kernel⟩
/-- the sayings as point 6 has them -/
def Rm.saysOk (r : Rm) : Prop := r.sayings.length ≤ 4 ∧ ∀ t ∈ r.sayings, t.right r.bn [] ∧ t.val r.firsts 0 0 = true
def Rm.boxesOk (r : Rm) : Prop := r.boxes.length ≤ 4 ∧ (∀ b ∈ r.boxes, crateOk b) ∧ r.bn.Nodup
def spSaysF (T : List NTab) (C : Addr) : Sp := fun vs H Q _ => ∃ x r, vs = [.ref x] ∧ RmAt C H x r ∧ r.boxesOk ∧ r.saysOk ∧ TabsN T H ∧ ∀ H', Gr T H H' → Q (.bl true) H'
section
variable {P : Program} {w : World} {K : PySem.W.Frag} {mg : Str → Option Value} {base : Heap} {f C it ho : Addr} {fd itd hod : FuncData} {T_ : List NTab}
theorem kh_plain (F : FunD K "holds" "holds" (defArgs sHolds) (defBody sHolds) (defScope sHolds) [] kwsW f fd) : ∃ ds, Vals [.int 0, .int 0] ds ∧ Binds K fd psH ds := by
  refine F.binds0 2 (by decide) rfl fun D doc pm an cdv ct us ks l1 l2 => ?_
  match us, ks, l1, l2 with
  | [u1, u2], [w1, w2], _, _ => exact ⟨_, _, _, _, _, _, rfl, rfl, _, _, _, _, _, _, rfl, rfl, rfl⟩
theorem ok_saysf (O : Own mg) (T : RoomC K C) (F : Fun K "sayings_fit" "sayings_fit" sSaysF f fd) {t4 : Tok} (m4 : mg "MOST_SAYINGS" = some (.int 4 t4))
    (IT : FnOk P w K mg base CX0 16 it itd ps3 spIsT) (bIT : Binds K itd ps3 []) (kIT : PySem.W.keepIn K (.ref it) = true) (mIT : mg "is_test" = some (.ref it))
    (W : FunD K "holds" "holds" (defArgs sHolds) (defBody sHolds) (defScope sHolds) [] kwsW ho hod) (GH : FnOk P w K mg base CX0 13 ho hod psH (spHolds T_ 5)) (mH : mg "holds" = some (.ref ho)) :
    FnOk P w K mg base CX0 17 f fd ["room"] (spSaysF T_ C) := by
  refine F.ok scSaysF (fun vs H Q E h => ?_) (fun cdv A outer s H vs Q E hr h => ?_)
  · obtain ⟨x, r, rfl, _⟩ := h
    rfl
  obtain ⟨x, r, rfl, hx, ⟨hz, hcr, hnd⟩, ⟨hy, hsy⟩, hT, q⟩ := h
  obtain ⟨dx, n, a, b, s', k, t, p, y, h1, h2⟩ := id hx
  obtain ⟨c, rfl, as, hc, hp⟩ := h2.boxes
  obtain ⟨d, rfl, us, hd, hu⟩ := h2.sayings
  obtain ⟨ds, hds, bH⟩ := kh_plain W
  have hr12 := hr.mono (show 13 ≤ 16 by decide)
  have hs : sizeLine = 16777216 := sizeLine_eq
  have hl := paired_len hp
  have hlu := paired_len hu
  refine ⟨_, pss_cons (ps_if (PW.pt (pw_or (pt_not (pt_val (pe_callB call_isi rfl O.isi (by decide +kernel) (pa_cons (pe_fld (pv 0) rfl) (pa_cons (pe_bltn (v := .ty "tuple") rfl O.tuple (by decide +kernel) rfl) pa_nil)))))
      (pw_or1 (pt_cmpR op_gt (pe_callB call_len_seq rfl O.len PySem.boot_len (pa_cons (pe_fld (pv 0) rfl) pa_nil)) (pe_glob (v := .int 4) rfl m4 ⟨_, rfl⟩) (nomark _))))) (pss_one (ps_ret pe_bl)) pss_nil)
    (pss_cons (ps_set (i := 1) scSaysF.nd rfl (Or.inr rfl) (pe_dc (own := [("name", 2), ("bound", 3), ("first", 4)]) (g := gTup K 3 (gCons (gName 2) (gCons (gName 3) (gCons (gName 4) gNil)))) (tt := tYes) rfl scSaysF.nd (pi_tup (pe_fld (pv 0) rfl)) (blkOk_by (N := nmSy) (sc := defScope sSaysF) (by decide +kernel))
        (fun _ _ _ _ _ => pg_tup rfl (pgs_cons (pg_name (i := 2) scSaysF.nd rfl (Or.inl rfl)) (pgs_cons (pg_name (i := 3) scSaysF.nd rfl (Or.inl rfl)) (pgs_cons (pg_name (i := 4) scSaysF.nd rfl (Or.inl rfl)) pgs_nil))))
        (fun _ _ _ _ _ => pts_nil) (fun _ _ _ _ _ => pv 2) (fun _ _ _ _ _ => pv 4)))
    (pss_cons (ps_if (pt_not (pt_val (pe_callB (cr_all rfl) rfl O.all (by decide +kernel) (pa_cons (pe_lc (own := [("saying", 5)]) (g := gName 5) (tt := tYes) rfl scSaysF.nd (pi_tup (pe_fld (pv 0) rfl)) (blkOk_by (N := nmSy) (sc := defScope sSaysF) (by decide +kernel))
        (fun _ _ _ _ _ => pg_name (i := 5) scSaysF.nd rfl (Or.inl rfl)) (fun _ _ _ _ _ => pts_nil)
        (fun _ _ _ _ _ => pe_call IT hr rfl mIT kIT bIT .nil pass0 (pa_cons (pv 5) (pa_cons (pe_callTy (call_listD rfl) rfl O.list (by decide +kernel) (pa_cons (pv 1) pa_nil)) (pa_cons (pe_tup pa_nil) pa_nil))))) pa_nil)))) (pss_one (ps_ret pe_bl)) pss_nil)
    (pss_one (ps_ret (pe_callB (cr_all rfl) rfl O.all (by decide +kernel) (pa_cons (pe_lc (own := [("saying", 5)]) (g := gName 5) (tt := tYes) rfl scSaysF.nd (pi_tup (pe_fld (pv 0) rfl)) (blkOk_by (N := nmSy) (sc := defScope sSaysF) (by decide +kernel))
        (fun _ _ _ _ _ => pg_name (i := 5) scSaysF.nd rfl (Or.inl rfl)) (fun _ _ _ _ _ => pts_nil)
        (fun _ _ _ _ _ => pe_call GH hr12 rfl mH W.kp bH hds pass0 (pa_cons (pv 5) (pa_cons (pv 1) pa_nil)))) pa_nil)))))), ?_⟩
  refine ⟨_, rfl, x, C, dx, _, _, rfl, h1, T.cl, T.n4, rf_sayings, _, _, _, _, true, rfl, .ty "tuple", .base (.tup hd), kb "tuple" "tuple" true, _, rfl, itF rfl ?_⟩
  refine ⟨_, rfl, x, C, dx, _, _, rfl, h1, T.cl, T.n4, rf_sayings, _, _, rfl, .inr (SqT.of hd), _, _, rfl, rfl, _, rfl, itF ?_ ?_⟩
  · exact decide_eq_false (by omega)
  refine ⟨_, rfl, x, C, dx, _, _, rfl, h1, T.cl, T.n3, rf_boxes, c, rfl, ⟨_, SqT.of hc⟩, fun D hD => ?_⟩
  refine dc_tup (K := K) (a := c) (xs := as.map V.ref) (fun i Hc => Hc D = some (.dK (bx (r.firsts.take i))) ∧ Same H Hc) ⟨upd_same, same_new hD _⟩ (fun i Hc _ z => SqT.of (z.2 _ _ hc)) ?_ ?_
  · rintro i v Hc hv ⟨hC, sm⟩
    obtain ⟨e, he, rfl⟩ := refs_at hv
    obtain ⟨z, hz2, hat⟩ := paired_get hp he
    refine ⟨e, _, rfl, SqT.of (sm _ _ hat), rfl, _, _, rfl, _, _, rfl, _, _, rfl, rfl, rfl, _, rfl, _, rfl, _, Sum.inr z.1, rfl, hC, ?_, ?_, fun b o hb => ?_⟩
    · unfold bx Rm.firsts
      rw [List.length_map, List.length_take, List.length_map]
      omega
    · have hf : r.firsts[i]? = some (z.1, z.2.2) := by
        unfold Rm.firsts
        rw [List.getElem?_map, hz2]
        rfl
      rw [upd_same, bx_new]
      · rw [List.take_add_one, hf]
        rfl
      · have eb : (r.firsts.take i).map (·.1) = r.bn.take i := by
          unfold Rm.firsts Rm.bn
          rw [← List.map_take, ← List.map_take, List.map_map]
          rfl
        rw [eb]
        refine nd_take hnd ?_
        unfold Rm.bn
        rw [List.getElem?_map, hz2]
        rfl
    · rw [upd_ne (ne_of_none hb hD)]
      exact sm _ _ hb
  · rintro Hc ⟨hC, sm⟩
    have e0 : r.firsts.take (as.map V.ref).length = r.firsts := by
      have : (as.map V.ref).length = r.firsts.length := by
        unfold Rm.firsts
        rw [List.length_map, List.length_map]
        exact hl
      rw [this, List.take_length]
    rw [e0] at hC
    have hN : (bx r.firsts).map (fun kv => kV kv.1) = r.bn.map V.str := by
      unfold bx Rm.firsts Rm.bn
      rw [List.map_map, List.map_map, List.map_map]
      rfl
    have hB : Bx r.firsts r.bn := ⟨firsts_look hcr⟩
    refine ⟨_, rfl, x, C, dx, _, _, rfl, sm _ _ h1, T.cl, T.n4, rf_sayings, d, rfl, ⟨_, SqT.of (sm _ _ hd)⟩, fun D2 hD2 => ?_⟩
    refine turns_tup (K := K) (a := d) (xs := us) (us.map fun _ => some (.bl true)) hD2 (fun Hc' sm' => SqT.of (sm' _ _ (sm _ _ hd))) (by rw [List.length_map]) (by omega) ?_ ?_
    · intro i z o Hc' Y N hz3 ho sm' hY hN2
      have eo : o = some (.bl true) := by
        rw [List.getElem?_map, hz3] at ho
        exact (Option.some.inj ho).symm
      obtain ⟨t1, ht1, hat⟩ := paired_get hu hz3
      obtain ⟨k1, k2⟩ := hsy t1 (List.mem_of_getElem? ht1)
      have s3 := sm.trans sm'
      refine ⟨rfl, _, rfl, _, rfl, D, _, rfl, .inl (sm' _ _ hC), fun l hl2 => ⟨by show 0 ≤ sizeLine; decide, fun wd hwd => ?_⟩⟩
      have s4 := (same_new hl2 (.lst ((bx r.firsts).map fun kv => kV kv.1))).trans (same_new hwd (.tup []))
      refine ⟨z, l, wd, t1, r.bn, [], rfl, hat.keep (Same.tups (s3.trans s4)), k1, .inl ?_, upd_same, fun H4 s5 => hY _ eo H4 (s4.trans s5)⟩
      rw [← hN]
      exact (same_new hwd _) _ _ upd_same
    · intro H2 hc2 sm2
      rw [fm_true] at hc2
      have s3 := sm.trans sm2
      refine ⟨D2, _, rfl, SqL.of hc2, _, rfl, itF ?_ ?_⟩
      · rw [List.all_map, show (us.all (id ∘ fun _ => true)) = true from List.all_eq_true.mpr fun _ _ => rfl]
        rfl
      refine ⟨_, rfl, x, C, dx, _, _, rfl, s3 _ _ h1, T.cl, T.n4, rf_sayings, d, rfl, ⟨_, SqT.of (s3 _ _ hd)⟩, fun D3 hD3 => ?_⟩
      have t3 : TabsN T_ H2 := hT.ext s3
      refine lc_tup (K := K) (a := d) (xs := us) (fun i Hc' => Hc' D3 = some (.lst ((List.replicate i true).map V.bl)) ∧ Gr T_ H2 Hc') ⟨upd_same, Gr.of t3 (same_new hD3 _)⟩ (fun i Hc' _ z => SqT.of (z.2.tup (s3 _ _ hd))) ?_ ?_
      · rintro i z Hc' hz3 ⟨hC3, gr⟩
        obtain ⟨t1, ht1, hat⟩ := paired_get hu hz3
        obtain ⟨k1, k2⟩ := hsy t1 (List.mem_of_getElem? ht1)
        have dd := t1.deep_dp
        have d5 := k1.2.1
        have hi3 : i < us.length := (List.getElem?_eq_some_iff.mp hz3).1
        refine ⟨rfl, _, rfl, _, rfl, z, D, t1, r.firsts, r.bn, 0, 0, rfl, (hat.keep (Same.tups s3)).keep gr.tups, by omega, Ts.fit_good k1.1 (by omega), hB, gr.dK (sm2 _ _ hC), ⟨by decide, by decide⟩, ⟨by decide, by decide⟩, gr.tabs, fun H4 g4 => ?_⟩
        rw [k2]
        refine ⟨_, g4.lst hC3, by rw [List.length_map, List.length_replicate]; omega, ?_, gr_put (gr.trans g4) hD3 (g4.lst hC3)⟩
        rw [upd_same, List.replicate_succ', List.map_append]
        rfl
      · rintro H3 ⟨hc3, gr⟩
        refine ⟨D3, _, rfl, SqL.of hc3, ?_⟩
        rw [show ((List.replicate us.length true).all id) = true from List.all_eq_true.mpr fun b hb => (List.eq_of_mem_replicate hb)]
        exact q H3 ((Gr.of hT s3).trans gr)
end
end Any
namespace Any
open L2 PySem PySem.Spec PyProof.Rows LamX NdefX
/-- a statement that is never come to -/
theorem ps_never {X : Cx} {st : Stmt} : PS X st (fun _ _ _ => False) := ⟨fun _ _ _ _ _ _ h => h.elim⟩
def spBoxesF : Sp := fun vs H Q _ => ∃ c bs, vs = [.ref c] ∧ CratesAt H c bs ∧ bs.length ≤ 4 ∧ (∀ b ∈ bs, crateOk b) ∧ (bs.map (·.1)).Nodup ∧ sortedS (bs.map (·.1)) = true ∧ ∀ H', Same H H' → Q (.bl true) H'
/-- a room as points 6 and 7 have it, at its place -/
structure roomOk (rs : List Rm) (i : Nat) (r : Rm) : Prop where
  name : Nm r.name
  one : r.name ∉ (rs.take i).map (·.name)
  above : aboveOk rs i r
  boxes : r.boxesOk
  asc : sortedS r.bn = true
  says : r.saysOk
  first : i = 0 → r.firstOk ∧ r.body.right r.bn [] (ben rs r.name)
  other : i ≠ 0 → r.otherOk ∧ r.body.right r.bn ["asked"] (ben rs r.name)
theorem scFault : FnScope ["rooms", "at", "room"] ["rooms", "at"] (defScope sFault) := ⟨rfl, rfl, rfl, by decide +kernel, rfl, by decide +kernel, by decide +kernel⟩
def spFault (T : List NTab) (C : Addr) : Sp := fun vs H Q _ => ∃ (R : Addr) (i : Nat) (rs : List Rm) (r : Rm), vs = [.ref R, .int i] ∧ RsAt C H R rs ∧ rs.length ≤ 8 ∧ rs[i]? = some r ∧ roomOk rs i r ∧ TabsN T H ∧ ∀ H', Gr T H H' → Q (.str "") H'
abbrev psRA : List Str := ["rooms", "at"]
section
variable {P : Program} {w : World} {K : PySem.W.Frag} {mg : Str → Option Value} {base : Heap} {f C g1 g2 g3 g4 g5 g6 g7 : Addr} {fd d1 d2 d3 d4 d5 d6 d7 : FuncData} {T_ : List NTab}
theorem no_str {H : Hp} : TruV K (.str "") H false := ⟨by decide, by decide⟩
theorem ok_fault (T : RoomC K C) (F : Fun K "fault_of" "fault_of" sFault f fd)
    (G1 : FnOk P w K mg base CX0 2 g1 d1 psRA (spNameF C)) (b1 : Binds K d1 psRA []) (k1 : PySem.W.keepIn K (.ref g1) = true) (m1 : mg "name_fits" = some (.ref g1))
    (G2 : FnOk P w K mg base CX0 2 g2 d2 psRA (spAboveF C)) (b2 : Binds K d2 psRA []) (k2 : PySem.W.keepIn K (.ref g2) = true) (m2 : mg "above_fits" = some (.ref g2))
    (G3 : FnOk P w K mg base CX0 4 g3 d3 ["boxes"] spBoxesF) (b3 : Binds K d3 ["boxes"] []) (k3 : PySem.W.keepIn K (.ref g3) = true) (m3 : mg "boxes_fit" = some (.ref g3))
    (G4 : FnOk P w K mg base CX0 17 g4 d4 ["room"] (spSaysF T_ C)) (b4 : Binds K d4 ["room"] []) (k4 : PySem.W.keepIn K (.ref g4) = true) (m4 : mg "sayings_fit" = some (.ref g4))
    (G5 : FnOk P w K mg base CX0 1 g5 d5 ["room"] (spFirstF C)) (b5 : Binds K d5 ["room"] []) (k5 : PySem.W.keepIn K (.ref g5) = true) (m5 : mg "first_fault" = some (.ref g5))
    (G6 : FnOk P w K mg base CX0 17 g6 d6 ["room"] (spOtherF C)) (b6 : Binds K d6 ["room"] []) (k6 : PySem.W.keepIn K (.ref g6) = true) (m6 : mg "other_fault" = some (.ref g6))
    (G7 : FnOk P w K mg base CX0 28 g7 d7 ["rooms", "at", "words"] (spBodyF C)) (b7 : Binds K d7 ["rooms", "at", "words"] []) (k7 : PySem.W.keepIn K (.ref g7) = true) (m7 : mg "body_fault" = some (.ref g7)) :
    FnOk P w K mg base CX0 29 f fd psRA (spFault T_ C) := by
  refine F.ok scFault (fun vs H Q E h => ?_) (fun cdv A outer s H vs Q E hr h => ?_)
  · obtain ⟨R, i, rs, r, rfl, _⟩ := h
    rfl
  obtain ⟨R, i, rs, r, rfl, hRs, z8, hi, ok, hT, q⟩ := h
  obtain ⟨as, hR, hp⟩ := id hRs
  obtain ⟨e, he, hx⟩ := paired_put hp hi
  obtain ⟨dx, n, a, b, s', k, t, p, y, h1, h2⟩ := id hx
  obtain ⟨c, rfl, hc⟩ := h2.boxes
  have hr2 := hr.mono (show 2 ≤ 28 by decide)
  have hr17 := hr.mono (show 17 ≤ 28 by decide)
  refine ⟨_, pss_cons (ps_set (i := 2) scFault.nd rfl (Or.inl rfl) (pe_ix ix_tup (pv 0) (pv 1) (fun _ _ => rfl)))
    (pss_cons (ps_if (pt_not (pt_val (pe_call G1 hr2 rfl m1 k1 b1 .nil pass0 (pa_cons (pv 0) (pa_cons (pv 1) pa_nil))))) (pss_one (ps_ret pe_str)) pss_nil)
    (pss_cons (ps_if (pt_not (pt_val (pe_call G2 hr2 rfl m2 k2 b2 .nil pass0 (pa_cons (pv 0) (pa_cons (pv 1) pa_nil))))) (pss_one (ps_ret pe_str)) pss_nil)
    (pss_cons (ps_if (pt_not (pt_val (pe_call G3 (hr.mono (by decide)) rfl m3 k3 b3 .nil pass0 (pa_cons (pe_fld (pv 2) rfl) pa_nil)))) (pss_one (ps_ret pe_str)) pss_nil)
    (pss_cons (ps_if (pt_not (pt_val (pe_call G4 hr17 rfl m4 k4 b4 .nil pass0 (pa_cons (pv 2) pa_nil)))) (pss_one (ps_ret pe_str)) pss_nil)
    (pss_cons (ps_if (pt_cmpR op_eq (pv 1) pe_int (nomark _)) (pss_one (ps_ret (pe_orT (pe_call G5 (hr.mono (by decide)) rfl m5 k5 b5 .nil pass0 (pa_cons (pv 2) pa_nil)) (pe_one (pe_call G7 hr rfl m7 k7 b7 .nil pass0 (pa_cons (pv 0) (pa_cons (pv 1) (pa_cons (pe_tup pa_nil) pa_nil)))))))) pss_nil)
    (pss_one (ps_ret (pe_orT (pe_call G6 hr17 rfl m6 k6 b6 .nil pass0 (pa_cons (pv 2) pa_nil)) (pe_one (pe_call G7 hr rfl m7 k7 b7 .nil pass0 (pa_cons (pv 0) (pa_cons (pv 1) (pa_cons (pe_tup (pa_cons pe_str pa_nil)) pa_nil))))))))))))), ?_⟩
  refine ⟨_, rfl, _, rfl, R, _, i, _, rfl, rfl, SqT.of hR, atI_nat (j := i) (by rw [List.getElem?_map, he]; rfl), ?_⟩
  refine ⟨_, rfl, _, rfl, R, i, rs, r, rfl, hRs, z8, hi, ok.name, ok.one, fun H1 s1 => ⟨_, rfl, itF rfl ?_⟩⟩
  refine ⟨_, rfl, _, rfl, R, i, rs, r, rfl, hRs.keep s1, z8, hi, ok.above, fun H2 s2 => ⟨_, rfl, itF rfl ?_⟩⟩
  have s2 := s1.trans s2
  refine ⟨_, rfl, e, C, dx, _, _, rfl, s2 _ _ h1, T.cl, T.n3, rf_boxes, c, r.boxes, rfl, hc.keep (Same.tups s2), ok.boxes.1, ok.boxes.2.1, ok.boxes.2.2, ok.asc, fun H3 s3 => ⟨_, rfl, itF rfl ?_⟩⟩
  have s3 := s2.trans s3
  refine ⟨_, rfl, e, r, rfl, hx.keep s3, ok.boxes, ok.says, hT.ext s3, fun H4 s4 => ⟨_, rfl, itF rfl ?_⟩⟩
  have s4 := (Gr.of hT s3).trans s4
  refine ⟨_, rfl, rfl, _, rfl, ite2 (fun c1 => ?_) (fun c1 => ?_)⟩
  · have i0 : (i : Int) = 0 := V.int.inj (of_decide_eq_true c1)
    obtain ⟨o1, o2⟩ := ok.first (by omega)
    refine ⟨_, rfl, e, r, rfl, hx.gr s4, o1, fun H5 s5 => ⟨false, no_str, itF rfl ?_⟩⟩
    have s5 := s4.same s5
    refine ⟨_, rfl, _, rfl, by show 0 ≤ sizeLine; decide, fun wd hwd => ?_⟩
    have s6 := s5.same (same_new hwd (.tup []))
    exact ⟨R, wd, i, rs, r, [], rfl, hRs.gr s6, z8, hi, ok.boxes.1, o2, upd_same, fun H7 s7 => q H7 (s6.same s7)⟩
  · have i0 : i ≠ 0 := fun z => c1 (decide_eq_true (by rw [z]; rfl))
    obtain ⟨o1, o2⟩ := ok.other i0
    refine ⟨_, rfl, e, r, rfl, hx.gr s4, ok.boxes.1, o1, fun H5 s5 => ⟨false, no_str, itF rfl ?_⟩⟩
    have s5 := s4.same s5
    refine ⟨_, rfl, _, rfl, by show 1 ≤ sizeLine; decide, fun wd hwd => ?_⟩
    have s6 := s5.same (same_new hwd (.tup [.str "asked"]))
    exact ⟨R, wd, i, rs, r, ["asked"], rfl, hRs.gr s6, z8, hi, ok.boxes.1, o2, upd_same, fun H7 s7 => q H7 (s6.same s7)⟩
end
/-! ### Program.__init__ -/
abbrev cProg : Stmt := top 63
abbrev sPInit : Stmt := inClass (top 63) 0
abbrev nmPI : List Str := ["self", "rooms", "at", "why"]
theorem scPInit : FnScope nmPI ["self", "rooms"] (defScope sPInit) := ⟨rfl, rfl, rfl, by decide +kernel, rfl, by decide +kernel, by decide +kernel⟩
structure ProgC (K : PySem.W.Frag) (D : Addr) : Prop where
  cl : Cls K D
  held : NoAttr K D "held"
  drawn : NoAttr K D "drawn"
/-- a right program -/
structure Right (rs : List Rm) : Prop where
  lo : 1 ≤ rs.length
  hi : rs.length ≤ 8
  all : ∀ i r, rs[i]? = some r → roomOk rs i r
def spPInit (T : List NTab) (C D : Addr) : Sp := fun vs H Q _ => ∃ (x dx R : Addr) (rs : List Rm), vs = [.ref x, .ref R] ∧ H x = some (.ins D dx []) ∧ RsAt C H R rs ∧ Right rs ∧ TabsN T H ∧
  ∀ p H', Kg T x H H' → H' x = some (.ins D dx [("held", .ref R), ("drawn", .ref p)]) → H' p = some (.tup []) → Q .non H'
theorem kg_ins {T : List NTab} {x D d : Addr} {H H1 : Hp} {fs gs : List (Str × V)} (g : Kg T x H H1) (hx : H1 x = some (.ins D d fs)) : Kg T x H (upd H1 x (.ins D d gs)) :=
  g.trans ⟨fun a o n h _ => by rw [upd_ne n]; exact h, fun a n z => by rw [upd_ne n] at z; exact z, tabs_keptO g.tabs hx (fun _ z => by cases z) (fun _ _ z => by unfold CodeO at z; cases z) (Kept.put _)⟩
section
variable {P : Program} {w : World} {K : PySem.W.Frag} {mg : Str → Option Value} {base : Heap} {f C D g1 g2 : Addr} {fd d1 d2 : FuncData} {T_ : List NTab}
theorem ok_pinit (O : Own mg) (mr : mg "range" = none) (TP : ProgC K D) (F : Fun K "__init__" "Program.__init__" sPInit f fd)
    (G1 : FnOk P w K mg base CX0 1 g1 d1 ["things"] (spRooms C)) (b1 : Binds K d1 ["things"] []) (k1 : PySem.W.keepIn K (.ref g1) = true) (m1 : mg "are_rooms" = some (.ref g1))
    (G2 : FnOk P w K mg base CX0 29 g2 d2 psRA (spFault T_ C)) (b2 : Binds K d2 psRA []) (k2 : PySem.W.keepIn K (.ref g2) = true) (m2 : mg "fault_of" = some (.ref g2)) :
    FnOk P w K mg base CX0 30 f fd ["self", "rooms"] (spPInit T_ C D) := by
  refine F.ok scPInit (fun vs H Q E h => ?_) (fun cdv A outer s H vs Q E hr h => ?_)
  · obtain ⟨x, dx, R, rs, rfl, _⟩ := h
    rfl
  obtain ⟨x, dx, R, rs, rfl, hx, hRs, ok, hT, q⟩ := h
  have hlo := ok.lo
  have hhi := ok.hi
  refine ⟨_, pss_cons (ps_if (pt_not (pt_val (pe_call G1 (hr.mono (by decide)) rfl m1 k1 b1 .nil pass0 (pa_cons (pv 1) pa_nil)))) (pss_one ps_never) pss_nil)
    (pss_cons (ps_for PassesOwn.never rfl (pi_range1 rfl mr (pa_cons (pe_callB call_len_seq rfl O.len PySem.boot_len (pa_cons (pv 1) pa_nil)) pa_nil)) (pg_name (i := 2) scPInit.nd rfl (Or.inl rfl))
      (pss_cons (ps_set (i := 3) scPInit.nd rfl (Or.inl rfl) (pe_call G2 hr rfl m2 k2 b2 .nil pass0 (pa_cons (pv 1) (pa_cons (pv 2) pa_nil))))
      (pss_one (ps_if (pt_cmpR op_ne (pv 3) pe_str (nomark _)) (pss_one ps_never) pss_nil))))
    (pss_cons (ps_fld (pv 0) (pv 1) rfl) (pss_one (ps_fld (pv 0) (pe_tup pa_nil) rfl)))), ?_⟩
  refine ⟨_, rfl, R, rs, rfl, hRs, hlo, hhi, fun H1 s1 => ⟨_, rfl, itF rfl ?_⟩⟩
  obtain ⟨as, hR, hp⟩ := hRs.keep s1
  have hl := paired_len hp
  have hlr : (as.map V.ref).length = rs.length := by rw [List.length_map]; exact hl
  refine ⟨_, rfl, R, _, rfl, .inr (SqT.of hR), _, rfl, by omega, by omega, ?_⟩
  refine for_range (lo := 0) (fun i σ Hc => ∃ y z, σ = [some (.ref x), some (.ref R), y, z] ∧ Gr T_ H Hc) ⟨_, _, rfl, Gr.of hT s1⟩ ?_ ?_
  · rintro i σ Hc hi ⟨y, z, rfl, sm⟩
    have hi' : i < rs.length := by omega
    obtain ⟨r, hir⟩ : ∃ r, rs[i]? = some r := ⟨rs[i], List.getElem?_eq_getElem hi'⟩
    refine ⟨_, rfl, _, rfl, R, i, rs, r, (by rw [Int.zero_add]; rfl), hRs.gr sm, hhi, hir, ok.all i r hir, sm.tabs, fun H2 s2 => ⟨_, rfl, rfl, _, rfl, itF ?_ ⟨_, _, rfl, sm.trans s2⟩⟩⟩
    rw [decide_eq_true rfl]
    rfl
  · rintro σ Hc ⟨y, z, rfl, sm⟩
    refine ⟨_, rfl, _, rfl, x, D, dx, [], rfl, sm.ins hx, TP.cl, TP.held, (by show 0 < 1000; decide), ?_⟩
    have e1 : upd Hc x (.ins D dx (putF "held" (.ref R) [])) x = some (.ins D dx [("held", .ref R)]) := upd_same
    have g1 : Kg T_ x H (upd Hc x (.ins D dx (putF "held" (.ref R) []))) := kg_ins (.of sm) (sm.ins hx)
    generalize upd Hc x (.ins D dx (putF "held" (.ref R) [])) = H5 at *
    refine ⟨by show 0 ≤ sizeLine; decide, fun p hp => ?_⟩
    have s6 := same_new hp (.tup [])
    refine ⟨_, rfl, x, D, dx, [("held", .ref R)], rfl, s6 _ _ e1, TP.cl, TP.drawn, (by show 1 < 1000; decide), ?_⟩
    have ef : putF "drawn" (.ref p) ([("held", .ref R)] : List (Str × V)) = ([("held", .ref R), ("drawn", .ref p)] : List (Str × V)) := by simp (decide := true) [putF]
    rw [ef]
    refine q p _ (kg_ins (g1.same s6) (s6 _ _ e1)) upd_same ?_
    rw [upd_ne (ne_of (o := .tup []) upd_same (s6 _ _ e1) (by intro z; cases z))]
    exact upd_same
end
end Any
namespace Any
open L2 PySem PySem.Spec PyProof.Rows LamX NdefX
/-! ### sets of texts -/
def keyT (e : Int × Value) : Str := match e.2 with
  | .str k _ => k
  | _ => ""
def GoodT (P : Program) (w : World) (e : Int × Value) : Prop := ∃ k u, e.2 = Value.str k u ∧ e.1 = (PySem.strKind P w).hash k
/-- the set of these texts at a: it can be walked -/
def SetX (P : Program) (w : World) (h : Heap) (a : Addr) (l : List Str) : Prop :=
  ∃ (o : Obj) (es : Array (Int × Value)) (ep : Nat) (t : SetTable), (h.get? a = some o ∧ o.ExactSet ∧ o.data = .set es ep t) ∧ ((∀ e ∈ es.toList, GoodT P w e) ∧ (es.toList.map keyT).Perm l) ∧
    (es.size < scanBound ∧ t.fits es.size = true) ∧ (Ris t.place.toList ∧ (w.params.followText "set-order" = true ∨ t.led = true))
section
variable {P : Program} {w : World} {A : Around} {E : Value → Shared → Prop} {s : Shared} {a : Addr} {l : List Str} {h h' : Heap}
theorem SetX.at (R : SetX P w h a l) (k : ∀ o, h.get? a = some o → h'.get? a = some o) : SetX P w h' a l := by
  obtain ⟨o, es, ep, t, ⟨h1, h2⟩, r⟩ := R
  exact ⟨o, es, ep, t, ⟨k o h1, h2⟩, r⟩
theorem goodT_elems {es : List (Int × Value)} (g : ∀ e ∈ es, GoodT P w e) : ElemsOf (PySem.strKind P w) es := by
  intro e he
  obtain ⟨k, u, q1, q2⟩ := g e he
  exact ⟨⟨k, by rw [q1]; exact strKind_is P w k u, q2⟩, by rw [q1] <;> rfl⟩
theorem goodT_is {e : Int × Value} (g : GoodT P w e) {k : Str} (q : (PySem.strKind P w).is k e.2 = true) : keyT e = k := by
  obtain ⟨k0, u, q1, _⟩ := g
  rw [q1] at q
  obtain ⟨u', z⟩ := Value.isStrOf_shape (show Value.isStrOf k (Value.str k0 u) = true from q)
  unfold keyT
  rw [q1]
  injection z
/-- the end of adding a new one -/
theorem addX_tail {g : Bool → Sem Unit} (hg : ∀ (b : Bool) (s1 : Shared) (Q1 : Unit → Shared → Prop), Q1 () s1 → wpAny (model P w) A (g b) Q1 E s1) {o : Obj} {es es1 : Array (Int × Value)} {ep : Nat} {t t2 : SetTable}
    (ho : s.heap.get? a = some o) (hex : o.ExactSet) (hd : o.data = .set es ep t) (gd : ∀ e ∈ es1.toList, GoodT P w e) (pm0 : (es1.toList.map keyT).Perm l) (hb : es1.size < scanBound) (hf : t2.fits es1.size = true)
    (hr : Ris t2.place.toList) (hl : w.params.followText "set-order" = true ∨ t2.led = true) {wasDummy : Bool} {R : Option Bool → Shared → Prop} (hR : ∀ h', Heap.SameBut a s.heap h' → SetX P w h' a l → R (some true) { s with heap := h' }) :
    wpAny (model P w) A (storeSet a es1 t2 >>= fun _ => if (!wasDummy && t2.tooFull) = true then (g (relayAll t2 es1 (SetTable.grown es1.size)).2.2 >>= fun _ =>
        storeSet a (relayAll t2 es1 (SetTable.grown es1.size)).1 (relayAll t2 es1 (SetTable.grown es1.size)).2.1 >>= fun _ => pure (some true)) else pure (some true)) R E s := by
  refine wpAny_bind (wpAny_storeSet_of ho hd ?_ (fits_of_scanBound hb))
  have st1 := store_at (es' := es1) (t' := t2) ho hd
  have sb := Heap.SameBut.update s.heap a (Obj.putSet es1 t2)
  split
  · have p1 := relayAll_perm t2 es1 (SetTable.grown es1.size)
    have p2 := relayAll_fits t2 es1 (SetTable.grown es1.size)
    have p3 := relayAll_ris t2 es1 (SetTable.grown es1.size)
    have p4 := relayAll_led t2 es1 (SetTable.grown es1.size)
    generalize relayAll t2 es1 (SetTable.grown es1.size) = Z at p1 p2 p3 p4 ⊢
    obtain ⟨es2, t3, gv⟩ := Z
    dsimp only at p1 p2 p3 p4 ⊢
    have sz : es2.size = es1.size := by
      have := p1.length_eq
      rw [Array.length_toList, Array.length_toList] at this
      exact this
    have hb2 : es2.size < scanBound := by omega
    refine wpAny_bind (hg _ _ _ (wpAny_bind (wpAny_storeSet_of st1 rfl ?_ (fits_of_scanBound hb2))))
    refine wpAny_pure (hR _ (sb.trans (Heap.SameBut.update _ a _)) ?_)
    exact ⟨_, es2, _, t3, ⟨store_at (es' := es2) (t' := t3) st1 rfl, hex, rfl⟩, ⟨fun e he => gd e (p1.mem_iff.mp he), (p1.map keyT).trans pm0⟩, ⟨hb2, p2⟩, p3, hl.imp id fun z => by rw [p4]; exact z⟩
  · exact wpAny_pure (hR _ sb ⟨_, es1, _, t2, ⟨st1, hex, rfl⟩, ⟨gd, pm0⟩, ⟨hb, hf⟩, hr, hl⟩)
theorem addX {k : Str} {u : Tok} {Q : Bool → Shared → Prop} (R : SetX P w s.heap a l) (hk : k ∉ l) (room : l.length + 1 < scanBound) (hQ : ∀ h', Heap.SameBut a s.heap h' → SetX P w h' a (k :: l) → Q true { s with heap := h' }) :
    wpAny (model P w) A (setAddHashed a (.str k u) ((PySem.strKind P w).hash k)) Q E s := by
  obtain ⟨o, es, ep, t, ⟨ho, hex, hd⟩, ⟨gd, pm0⟩, ⟨hb, hf⟩, hr, hl⟩ := R
  have isk : (PySem.strKind P w).is k (.str k u) = true := strKind_is P w k u
  have scn : (Value.str k u).scannable = true := rfl
  have elm := goodT_elems gd
  unfold setAddHashed setAddHashedIn
  refine wpAny_holding (wpAny_bind (wpAny_setState_of ho hd hf ?_))
  dsimp only
  rw [byScan_of scn hb elm]
  simp only [↓reduceIte]
  unfold setAddByScan
  refine wpAny_bind (wpAny_bind (wpAny_rule (wpAny_bind (wpAny_setScan_of isk ho hd hf elm ?_))))
  cases hfi : List.findIdx? (fun e => (PySem.strKind P w).is k e.2) es.toList with
  | some j =>
    obtain ⟨hj, pj, _⟩ := List.findIdx?_eq_some_iff_getElem.mp hfi
    have mm : es.toList[j] ∈ es.toList := List.getElem_mem hj
    exact absurd (pm0.mem_iff.mp (List.mem_map.mpr ⟨_, mm, goodT_is (gd _ mm) pj⟩)) hk
  | none =>
    dsimp only
    have p1 := layNew_perm t es ((PySem.strKind P w).hash k) (.str k u)
    have p2 := layNew_fits t es ((PySem.strKind P w).hash k) (.str k u)
    have p3 := layNew_ris t es ((PySem.strKind P w).hash k) (.str k u) hr
    have p4 := layNew_led t es ((PySem.strKind P w).hash k) (.str k u)
    generalize layNew t es ((PySem.strKind P w).hash k) (.str k u) = Z at p1 p2 p3 p4 ⊢
    obtain ⟨es1, t1, wd, gv⟩ := Z
    dsimp only at p1 p2 p3 p4 ⊢
    rw [Array.toList_push] at p1
    have pc := p1.trans (List.perm_append_singleton _ _)
    have pk : (es1.toList.map keyT).Perm (k :: l) := (pc.map keyT).trans (pm0.cons k)
    have gd1 : ∀ e ∈ es1.toList, GoodT P w e := fun e he => (List.mem_cons.mp (pc.mem_iff.mp he)).elim (fun z => z ▸ ⟨k, u, rfl, rfl⟩) (gd e)
    have sz : es1.size = l.length + 1 := by
      have := pk.length_eq
      rw [List.length_map, Array.length_toList, List.length_cons] at this
      exact this
    have hb1 : es1.size < scanBound := by omega
    have led1 : w.params.followText "set-order" = true ∨ t1.led = true := hl.imp id fun z => by rw [p4]; exact z
    have gw : ∀ (b : Bool) {s1 : Shared} {Q1 : Unit → Shared → Prop}, Q1 () s1 → wpAny (model P w) A (match b with | true => rule "set.scan.the-table-gave-way" | false => pure ()) Q1 E s1 := by
      intro b s1 Q1 q
      cases b <;> first | exact wpAny_pure q | exact wpAny_rule q
    refine wpAny_bind (gw _ ?_)
    split
    · refine wpAny_bind ?_
      rw [hashByValue_scannable 8 scn]
      refine wpAny_pure ?_
      refine addX_tail ?_ ho hex hd gd1 pk hb1 ?_ ?_ ?_ ?_
      · intro b s1 Q1 q
        cases b <;> first | exact wpAny_pure q | exact wpAny_rule q
      · first | (split <;> first | exact p2 | exact SetTable.fits_plain_off p2) | exact p2
      · first | (split <;> exact p3) | exact p3
      · first | (split <;> exact led1) | exact led1
      · intro h' sb r
        dsimp only
        exact wpAny_pure (hQ h' sb r)
    · refine wpAny_bind (wpAny_pure ?_)
      simp only [↓reduceIte]
      refine addX_tail ?_ ho hex hd gd1 pk hb1 p2 p3 led1 ?_
      · intro b s1 Q1 q
        cases b <;> first | exact wpAny_pure q | exact wpAny_rule q
      · intro h' sb r
        dsimp only
        exact wpAny_pure (hQ h' sb r)
end
end Any
namespace Any
open L2 PySem PySem.Spec PyProof.Rows LamX NdefX
section
variable {P : Program} {w : World} {A : Around} {E : Value → Shared → Prop} {s : Shared}
theorem take_rev {xs : List Str} {i : Nat} {k : Str} (h : xs[i]? = some k) : k :: (xs.take i).reverse = (xs.take (i + 1)).reverse := by
  rw [List.take_add_one, h, List.reverse_append]
  rfl
/-- set.update's loop over unlike texts -/
theorem loopX {I : Addr} {fp wr : List Addr} {G : Array GenState → Array GenState → Prop} {n : Nat} {Pv : Nat → Value → Prop} {St : Nat → Shared → Prop} {R : Result → Shared → Prop} (W : WalksS P w A.in1 I fp wr G n Pv St)
    (S : Addr) (off : S ∉ fp) (xs : List Str) (hn : n = xs.length) (nd : xs.Nodup) (few : xs.length + 1 < scanBound) (hv : ∀ i v, Pv i v → ∃ k u, xs[i]? = some k ∧ v = .str k u) :
    ∀ (m i : Nat) (s : Shared), n - i = m → i ≤ n → St i s → SetX P w s.heap S (xs.take i).reverse → (∀ s', Moved (S :: wr) G s s' → SetX P w s'.heap S xs.reverse → R (.ok (.ret .none)) s') →
      codeAny (model P w) A (.builtin "set.update.loop" ⟨[.ref S, .ref I], []⟩) R s := by
  have offw : S ∉ wr := fun z => off (W.sub _ z)
  have more : ∀ b ∈ wr, b ∈ S :: wr := fun b z => List.mem_cons_of_mem _ z
  intro m
  induction m with
  | zero =>
    intro i s em hi st hS hR
    obtain rfl : i = n := by omega
    refine codeAny_builtin F.entry_set_update_loop ?_
    rw [Around.under_plainId F.plain_set_update_loop _]
    show wpAny _ A.in1 (pyNext (.ref I) >>= _) _ _ s
    refine wpAny_bind (W.done s _ _ st fun s1 mv => ?_)
    rw [hn, List.take_length] at hS
    exact wpAny_pure (hR s1 (mv.mono more) (hS.at fun o e => mv.heap S o offw e))
  | succ m ih =>
    intro i s em hi st hS hR
    have lt : i < n := by omega
    refine codeAny_builtin F.entry_set_update_loop ?_
    rw [Around.under_plainId F.plain_set_update_loop _]
    show wpAny _ A.in1 (pyNext (.ref I) >>= _) _ _ s
    refine wpAny_bind (W.item i s _ _ lt st fun v s1 hP st1 mv => ?_)
    obtain ⟨k, u, hk, rfl⟩ := hv i v hP
    have hS1 : SetX P w s1.heap S (xs.take i).reverse := hS.at fun o e => mv.heap S o offw e
    show wpAny _ A.in1 (holding [Value.str k u] (setAdd S (.str k u)) >>= _) _ _ s1
    refine wpAny_bind (wpAny_holding ?_)
    unfold setAdd
    refine wpAny_holding (wpAny_bind ((PySem.strKind P w).pyHash (k := k) (strKind_is P w k u) ?_))
    have nk : k ∉ (xs.take i).reverse := fun z => nd_take nd hk (List.mem_reverse.mp z)
    refine addX (s := { s1 with toks := s1.toks + 1 }) hS1 nk (by rw [List.length_reverse, List.length_take]; omega) fun h2 sb hS2 => ?_
    rw [take_rev hk] at hS2
    refine wpAny_pure ⟨plainId_quiet F.plain_set_update_loop _, ih (i + 1) _ (by omega) lt (W.frame _ s1 _ _ st1 (Nat.le_succ _) fun b hb o e => ?_) hS2 fun s3 mv3 hS3 => ?_⟩
    · exact (sb.2 b (fun z : b = S => off (z ▸ hb))).trans e
    · refine hR s3 (Moved.trans W.gtrans ((mv.mono more).then_heap (Nat.le_succ _) fun b o hb e => ?_) mv3) hS3
      exact (sb.2 b (fun z : b = S => hb (by rw [z]; exact List.mem_cons_self))).trans e
theorem strs_get : ∀ {xs : List Str} {us : List Value}, Vals (xs.map V.str) us → ∀ {i : Nat} {v : Value}, us[i]? = some v → ∃ k u, xs[i]? = some k ∧ v = .str k u
  | [], _, .nil, i, v, h => by simp at h
  | x :: xs, _, .cons r t, 0, v, h => by
    cases h
    obtain ⟨u, q⟩ := r
    exact ⟨x, u, rfl, q⟩
  | x :: xs, _, .cons r t, i + 1, v, h => strs_get t (i := i) h
abbrev newS (w : World) : Obj := { cls := .type "set", dict := none, data := .set #[] 0 (.fresh 0 0 (!w.params.followText "set-order")) }
theorem setX_new {h : Heap} {a : Addr} (hg : h.get? a = some (newS w)) : SetX P w h a [] := by
  refine ⟨_, #[], 0, _, ⟨hg, ⟨rfl, rfl, rfl⟩, rfl⟩, ⟨fun e he => by simp at he, .nil⟩, ⟨by decide, rfl⟩, List.Pairwise.nil, ?_⟩
  show _ ∨ (!w.params.followText "set-order") = true
  cases w.params.followText "set-order"
  · exact .inr rfl
  · exact .inl rfl
set_option maxHeartbeats 3200000 in
/-- set(xs), xs a list of unlike texts -/
theorem call_setX {l : Addr} {its : Array Value} (xs : List Str) {Q : Value → Shared → Prop} (hh : A.handled = none) (hl : s.heap.IsList l its) (hv : Vals (xs.map V.str) its.toList) (nd : xs.Nodup) (few : xs.length + 1 < scanBound)
    (k : ∀ (h' : Heap) (tk : Nat), SetX P w h' s.heap.objs.size xs.reverse → (∀ b o, s.heap.get? b = some o → h'.get? b = some o) → Q (.ref s.heap.objs.size) { s with heap := h', toks := tk }) :
    wpAny (model P w) A (call (.type "set") [.ref l]) Q E s := by
  have sz : its.size = xs.length := by
    have := hv.length
    rw [List.length_map, Array.length_toList] at this
    exact this.symm
  obtain ⟨c, tl, mro⟩ := F.called_set.mro
  have mad := F.called_set.made
  have sub := F.called_set.sub
  refine wpAny_call (codeAny_of_tree ?_)
  show wpAny _ _ (callAny (.type "set") _) _ _ _
  refine wpAny_pure ⟨Code.quiet_builtin _ (by decide +kernel), codeAny_builtin F.entry_type_call ?_⟩
  rw [Around.under_plain (weight_type_call_type "set" [.ref l] []) rfl]
  have nt := F.called_set.notType
  have cc := F.called_set.canCreate
  have ct := F.typeCall_set_1 (.ref l)
  repeat (any_goals (first | assumption | wp_step))
  refine codeAny_mono (code_set_led1 (.ref l) (E := E) (Q₁ := fun ob s1 => ob = .ref s.heap.objs.size ∧ s1 = { s with heap := s.heap.push (newS w) }) ⟨rfl, rfl⟩) fun r s1 hr => ?_
  cases r with
  | error e => exact hr
  | ok fl =>
    cases fl with
    | ret ob =>
      obtain ⟨rfl, rfl⟩ := hr
      have gS : (s.heap.push (newS w)).get? s.heap.objs.size = some (newS w) := Heap.get?_push_size _ rfl
      have tS : Shared.TypeIs { s with heap := s.heap.push (newS w) } (.ref s.heap.objs.size) "set" := ⟨_, gS, rfl⟩
      have il := F.called_set.init.lookup
      have ib := F.called_set.init.bind (.ref s.heap.objs.size)
      repeat (any_goals (first | assumption | wp_step))
      refine codeAny_mono (codeAny_call_builtin (R := wants (fun r s2 => r = .none ∧ ∃ h' tk, s2 = { s with heap := h', toks := tk } ∧ SetX P w h' s.heap.objs.size xs.reverse ∧
          (∀ b o, s.heap.get? b = some o → h'.get? b = some o)) E) F.called_set.init.plain F.entry_set_init (check_set_init_1 tS ?_)) fun r2 s2 hr2 => ?_
      · obtain ⟨ol, hol, hcl, nl, hdl⟩ := hl
        obtain ⟨oc, od, oda, os⟩ := ol
        simp only at hcl hdl
        subst hcl hdl
        have hol1 : (s.heap.push (newS w)).get? l = some { cls := .type "list", dict := od, data := .seq its nl, slots := os } := Heap.get?_push_of_some _ hol
        have n1 := F.sub_list_set
        have n2 := F.sub_list_frozenset
        have n3 : (Value.type "list" == Value.type "dict") = false := by decide
        have l1 : (s.heap.push (newS w)).IsList l its := ⟨_, hol1, rfl, nl, rfl⟩
        unfold Builtin.«set.__init__» noKeywords Builtin.Frozenset.updateFrom
        generalize hPI : pyIter = PI
        wp_walk
        subst hPI
        refine wpAny_pyIter_list l1 (wpAny_bind (wpAny_runValue ?_))
        have lS : l < s.heap.objs.size := Heap.lt_size hol
        have h3 : A.in1.in1.in1.handled = none := by simp [hh]
        have lI : l ≠ (s.heap.push (newS w)).objs.size := by
          rw [Heap.size_push]
          exact Nat.ne_of_lt (Nat.lt_succ_of_lt lS)
        have off : s.heap.objs.size ∉ [(s.heap.push (newS w)).objs.size, l] := by
          rw [Heap.size_push]
          simp only [List.mem_cons, List.mem_singleton, List.not_mem_nil, or_false, not_or]
          exact ⟨Nat.ne_of_lt (Nat.lt_succ_self _), Nat.ne_of_gt lS⟩
        have val : ∀ (i : Nat) (v : Value), its[i]? = some v → ∃ k u, xs[i]? = some k ∧ v = .str k u := fun i v e => strs_get hv (by rw [Array.getElem?_toList]; exact e)
        refine loopX ((Walks.list h3 _ l lI its).toS) s.heap.objs.size off xs sz nd few val (its.size - 0) 0 _ (by omega) (Nat.zero_le _) ⟨⟨_, Heap.get?_push_size _ rfl, rfl, rfl⟩, (l1.push _)⟩ ?hS ?hR
        case hS => exact setX_new (Heap.get?_push_of_some _ gS)
        case hR =>
          intro s3 mv hS3
          obtain ⟨h3', g3, d3, tk3, os3⟩ := s3
          have e1 : g3 = s.gens := mv.gens
          have e2 : d3 = s.drawn := mv.drawn
          have e3 : os3 = s.os := mv.os
          subst e1 e2 e3
          show wpAny _ _ _ _ _ _
          refine wpAny_pure ?_
          show wpAny _ _ (ret Value.none) _ _ _
          refine wpAny_pure ⟨rfl, h3', tk3, rfl, hS3, fun b o e => ?_⟩
          have lb : b < s.heap.objs.size := Heap.lt_size e
          refine mv.heap b o ?_ (Heap.get?_push_of_some _ (Heap.get?_push_of_some _ e))
          simp only [List.mem_cons, List.mem_singleton, List.not_mem_nil, or_false, not_or]
          refine ⟨Nat.ne_of_lt lb, ?_⟩
          rw [Heap.size_push]
          exact Nat.ne_of_lt (Nat.lt_succ_of_lt lb)
      · cases r2 with
        | error e => exact hr2
        | ok fl2 =>
          cases fl2 with
          | ret r =>
            obtain ⟨rfl, h', tk, rfl, hS3, kp⟩ := hr2
            repeat (any_goals (first | assumption | wp_step))
            exact k _ _ hS3 kp
          | _ => exact hr2.elim
    | _ => exact hr.elim
end
end Any
set_option maxHeartbeats 2000000
namespace Any
open L2 PySem PySem.Spec PyProof.Rows LamX NdefX
section
variable {P : Program} {w : World} {A : Around} {E : Value → Shared → Prop} {s : Shared} {a : Addr} {l : List Str}
/-- values that are texts, and which -/
theorem strsAre_of : ∀ (vs : List Value), (∀ v ∈ vs, ∃ k u, v = Value.str k u) → ∃ ks : List Str, StrsAre vs ks ∧ vs.map (fun v => keyT (0, v)) = ks
  | [], _ => ⟨[], .nil, rfl⟩
  | v :: vs, h => by
    obtain ⟨k, u, rfl⟩ := h v List.mem_cons_self
    obtain ⟨ks, h1, h2⟩ := strsAre_of vs fun x hx => h x (List.mem_cons_of_mem _ hx)
    exact ⟨k :: ks, .cons k u h1, by rw [List.map_cons, h2]; rfl⟩
/-- sorted(set of texts) -/
theorem sortedX {Q : Value → Shared → Prop} (R : SetX P w s.heap a l) (hh : A.handled = none) (h64 : l.length < 64)
    (hQ : ∀ s1 p (out : Array Value) (c : Nat) (ys : List Str), (∀ b o, s.heap.get? b = some o → s1.heap.get? b = some o) → s1.gens = s.gens → s1.os = s.os → s.heap.objs.size ≤ p →
      s1.heap.get? p = some (seqObj "list" out c) → StrsAre out.toList ys → ys.Perm l → sortedS ys = true → Q (.ref p) s1) : wpAny (model P w) A (call (.builtin "sorted") [.ref a]) Q E s := by
  obtain ⟨o, es, ep, t, ⟨ho, hex, hd⟩, ⟨gd, pm0⟩, ⟨hb, hf⟩, hr, hl⟩ := R
  refine Calls.call_function_entry kind_sorted plain_sorted entry_sorted (args_sorted1 _) ?_
  unfold Builtin.«sorted»
  refine wpAny_bind (m := checkCount "sorted" 1 1 _) (wpAny_pure ?_)
  refine wpAny_bind (collect_set (A := A.in1) hh ⟨o, ho, hex.1, hd⟩ hf hb hr hl fun s1 vs kp sz gs os pm => ?_)
  obtain ⟨ks, hS, ek⟩ := strsAre_of vs fun v hv => by
    obtain ⟨e, he, q⟩ := List.mem_map.mp (pm.mem_iff.mp hv)
    obtain ⟨k, u, q1, _⟩ := gd e he
    exact ⟨k, u, by rw [← q]; exact q1⟩
  have pk : ks.Perm l := by
    rw [← ek]
    refine ((pm.map fun v => keyT (0, v)).trans ?_).trans pm0
    rw [List.map_map]
    exact List.Perm.of_eq rfl
  have vl : vs.length = l.length := by
    rw [← pk.length_eq, ← ek, List.length_map]
  refine wpAny_bind (wpAny_newList ?_ (by rw [vl, sizeLine_eq]; omega))
  have gL : (s1.heap.push (seqObj "list" vs.toArray 0)).get? s1.heap.objs.size = some (seqObj "list" vs.toArray 0) := Heap.get?_push_size _ rfl
  refine wpAny_bind (wpAny_holding (wpAny_call_entry slot_list_sort ⟨_, gL, rfl⟩ entry_list_sort
    (list_sort_treeK strKind_oneLt gL hS.keysOf (fun v1 v2 rest e => keyKind_strs (by rw [← e]; exact hS)) (by rw [vl]; exact h64) fun st hp hs => ⟨_, rfl, ?_⟩) (args_list_sort _)))
  obtain ⟨ys, g1, g2, g3⟩ := sorted_out_str hS hp hs
  obtain ⟨c, hc⟩ := sortedHeap_at (vs := vs) (out := (arrOf st).map (·.2)) gL
  refine wpAny_pure ⟨_, rfl, hQ _ s1.heap.objs.size _ c ys (fun b u e => ?_) gs os sz hc g1 (g2.trans pk) g3⟩
  have q := kp b u e
  have lt := Heap.lt_size q
  refine (sortedHeap_old (Nat.ne_of_lt lt) (by rw [size_push']; exact Nat.lt_succ_of_lt lt)).trans ?_
  exact Heap.get?_push_of_some _ q
end
/-- a set of texts, as the abstract heap has it -/
def SetXO (P : Program) (w : World) (a : Addr) (l : List Str) : HO := .ext fun h => SetX P w h a l
section
variable {X : Cx}
theorem setXO_ok {P : Program} {w : World} {H : Hp} {h : Heap} {a : Addr} {l : List Str} (R : SetX P w h a l) : ObjOk P w H h a (SetXO P w a l) := by
  have R2 := R
  obtain ⟨o, es, ep, t, ⟨h1, _⟩, _⟩ := R2
  exact ⟨R, ⟨o, h1⟩, fun h2 h3 p k => SetX.at p k⟩
theorem cr_setX (hc : X.calm = true) : CallR X (.type "set") (fun vs H Q => ∃ (a : Addr) (xs : List Str), vs = [.ref a] ∧ SqL X.K H a (xs.map V.str) ∧ xs.Nodup ∧ xs.length < 64 ∧ ∀ p, H p = none → Q (.ref p) (upd H p (SetXO X.prog X.w p xs.reverse))) := by
  intro pins s σ H vs us Q I r h
  obtain ⟨a, xs, rfl, hs, nd, few, q⟩ := h
  rw [Vals.ref1 r]
  obtain ⟨its, rv, pl, _⟩ := I.list hs
  refine call_setX (P := X.prog) (w := X.w) xs (I.ok.hd hc) pl.isList (by simpa using rv) nd (by unfold scanBound; omega) fun h' tk R kp => ?_
  exact ⟨.ref s.heap.objs.size, _, I.laid (t' := tk) kp (Nat.le_refl _) (setXO_ok R), rfl, q _ (I.hok.fresh (Nat.le_refl _))⟩
theorem cr_sortedX (hc : X.calm = true) : CallR X (.builtin "sorted") (fun vs H Q => ∃ (a : Addr) (l : List Str), vs = [.ref a] ∧ H a = some (SetXO X.prog X.w a l) ∧ l.length < 64 ∧ ∀ (ys : List Str) (p : Addr), ys.Perm l → sortedS ys = true → H p = none → Q (.ref p) (upd H p (.lst (ys.map V.str)))) := by
  intro pins s σ H vs us Q I r h
  obtain ⟨a, l, rfl, ha, few, q⟩ := h
  have R : SetX X.prog X.w s.heap a l := (I.hok a _ ha).1
  rw [Vals.ref1 r]
  refine sortedX R (I.ok.hd hc) few fun s1 p out c ys kp gs os hp hg hout pm srt => ?_
  have hlen : (ys.map V.str).length ≤ sizeLine := by rw [List.length_map, pm.length_eq, sizeLine_eq]; omega
  have hn : H p = none := I.hok.fresh hp
  have J : Inv X pins σ (upd H p (.lst (ys.map V.str))) { s with heap := s1.heap, gens := s1.gens, drawn := s1.drawn, toks := s1.toks } :=
    I.call (ch := []) (Un.laid kp hp hn) (I.hok.laid kp hp ⟨hlen, out.toList, c, vals_of_strs hout, hg⟩) (by rw [gs]; exact I.bare) (fun _ z => nomatch z)
  have e : s1 = { s with heap := s1.heap, gens := s1.gens, drawn := s1.drawn, toks := s1.toks } := by
    obtain ⟨_, _, _, _, _⟩ := s1
    obtain ⟨_, _, _, _, _⟩ := s
    cases os
    rfl
  rw [e]
  exact ⟨.ref p, _, J, rfl, q ys p pm srt hn⟩
end
end Any
namespace Any
open L2 PySem PySem.Spec PyProof.Rows LamX NdefX
/-! ### sorted rows of the same things are the same -/
theorem uniq {α : Type} {le : α → α → Prop} (anti : ∀ x y, le x y → le y x → x = y) : ∀ {l1 l2 : List α}, l1.Pairwise le → l2.Pairwise le → l1.Perm l2 → l1 = l2
  | [], l2, _, _, p => (List.nil_perm.mp p).symm ▸ rfl
  | x :: r, [], _, _, p => by have := p.length_eq; simp at this
  | x :: r, y :: t, h1, h2, p => by
    obtain ⟨a1, a2⟩ := List.pairwise_cons.mp h1
    obtain ⟨b1, b2⟩ := List.pairwise_cons.mp h2
    have e : x = y := by
      rcases List.mem_cons.mp (p.mem_iff.mp (List.mem_cons_self (a := x))) with z | z
      · exact z
      · rcases List.mem_cons.mp (p.mem_iff.mpr (List.mem_cons_self (a := y))) with z2 | z2
        · exact z2.symm
        · exact anti x y (a1 y z2) (b1 x z)
    subst e
    rw [uniq anti a2 b2 (List.perm_cons x |>.mp p)]
def leS (x y : Str) : Prop := x.cps.toList ≤ y.cps.toList
theorem rising_pw : ∀ (l : List Str) (p : Str), risingS p l = true → (p :: l).Pairwise leS
  | [], p, _ => by simp
  | x :: r, p, h => by
    have h : (!ltCps x.cps.toList p.cps.toList && risingS x r) = true := h
    rw [Bool.and_eq_true, Bool.not_eq_true', ltCps_eq] at h
    have px : leS p x := List.not_lt.mp (of_decide_eq_false h.1)
    have ih := rising_pw r x h.2
    refine List.pairwise_cons.mpr ⟨fun y hy => ?_, ih⟩
    rcases List.mem_cons.mp hy with z | z
    · rw [z]; exact px
    · exact List.le_trans px ((List.pairwise_cons.mp ih).1 y z)
theorem sorted_pw : ∀ {l : List Str}, sortedS l = true → l.Pairwise leS
  | [], _ => .nil
  | x :: r, h => rising_pw r x h
theorem leS_anti (x y : Str) (h : leS x y) (g : leS y x) : x = y := by
  have e := List.le_antisymm h g
  obtain ⟨⟨a⟩⟩ := x
  obtain ⟨⟨b⟩⟩ := y
  cases e
  rfl
theorem sorted_uniq {xs ys : List Str} (h : sortedS xs = true) (g : sortedS ys = true) (p : ys.Perm xs) : ys = xs := uniq leS_anti (sorted_pw g) (sorted_pw h) p
theorem scBoxesF : FnScope ["boxes", "names", "box"] ["boxes"] (defScope sBoxesF) := ⟨rfl, rfl, rfl, by decide +kernel, rfl, by decide +kernel, by decide +kernel⟩
theorem eq_strs {K : PySem.W.Frag} {H : Hp} : ∀ xs : List Str, Paired (EqV K H 1) (xs.map V.str) (xs.map V.str)
  | [] => .nil
  | x :: r => .cons (.inl ⟨rfl, rfl⟩) (eq_strs r)
section
variable {P : Program} {w : World} {K : PySem.W.Frag} {mg : Str → Option Value} {base : Heap} {f bf : Addr} {fd bfd : FuncData}
theorem ok_boxesf (O : Own mg) (mset : mg "set" = none) (msrt : mg "sorted" = none) (F : Fun K "boxes_fit" "boxes_fit" sBoxesF f fd) {t4 : Tok} (m4 : mg "MOST_BOXES" = some (.int 4 t4))
    (G : FnOk P w K mg base CX0 3 bf bfd ["box"] spBoxF) (bG : Binds K bfd ["box"] []) (kG : PySem.W.keepIn K (.ref bf) = true) (mG : mg "box_fits" = some (.ref bf)) : FnOk P w K mg base CX0 4 f fd ["boxes"] spBoxesF := by
  refine F.ok scBoxesF (fun vs H Q E h => ?_) (fun cdv A outer s H vs Q E hr h => ?_)
  · obtain ⟨c, bs, rfl, _⟩ := h
    rfl
  obtain ⟨c, bs, rfl, ⟨as, hc, hp⟩, hz, hcr, hnd, hso, q⟩ := h
  have hl := paired_len hp
  have hs : sizeLine = 16777216 := sizeLine_eq
  have hlr : (as.map V.ref).length = bs.length := by rw [List.length_map]; exact hl
  refine ⟨_, pss_cons (ps_if (PW.pt (pw_or (pt_not (pt_val (pe_callB call_isi rfl O.isi (by decide +kernel) (pa_cons (pv 0) (pa_cons (pe_bltn (v := .ty "tuple") rfl O.tuple (by decide +kernel) rfl) pa_nil)))))
      (pw_or1 (pt_cmpR op_gt (pe_callB call_len_seq rfl O.len PySem.boot_len (pa_cons (pv 0) pa_nil)) (pe_glob (v := .int 4) rfl m4 ⟨_, rfl⟩) (nomark _))))) (pss_one (ps_ret pe_bl)) pss_nil)
    (pss_cons (ps_if (pt_not (pt_val (pe_callB (cr_all rfl) rfl O.all (by decide +kernel) (pa_cons (pe_lc (own := [("box", 2)]) (g := gName 2) (tt := tYes) rfl scBoxesF.nd (pi_tup (pv 0)) (blkOk_by (N := ["boxes", "names", "box"]) (sc := defScope sBoxesF) (by decide +kernel))
        (fun _ _ _ _ _ => pg_name (i := 2) scBoxesF.nd rfl (Or.inl rfl)) (fun _ _ _ _ _ => pts_nil) (fun _ _ _ _ _ => pe_call G hr rfl mG kG bG .nil pass0 (pa_cons (pv 2) pa_nil))) pa_nil)))) (pss_one (ps_ret pe_bl)) pss_nil)
    (pss_cons (ps_setLc (i := 1) (own := [("box", 2)]) (g := gName 2) (tt := tYes) (by rfl) scBoxesF.nd rfl rfl (sw_true rfl rfl rfl (by decide +kernel)) (pi_tup (pv 0)) (blkOk_by (N := ["boxes", "names", "box"]) (sc := defScope sBoxesF) (by decide +kernel))
        (fun _ _ _ _ _ => pg_name (i := 2) scBoxesF.nd rfl (Or.inl rfl)) (fun _ _ _ _ _ => pts_nil) (fun _ _ _ _ _ => pe_ix (show IxR _ (rIxT K) from ix_tup) (pv 2) pe_int (fun _ _ => rfl)))
    (pss_one (ps_ret (pe_cmpR (op_eqV hr.units) (pv 1) (pe_callB (cr_sortedX rfl) rfl msrt (by decide +kernel) (pa_cons (pe_callTy (cr_setX rfl) rfl mset (by decide +kernel) (pa_cons (pv 1) pa_nil)) pa_nil)) (nomark _)))))), ?_⟩
  refine ⟨_, rfl, _, _, _, _, true, rfl, .ty "tuple", .base (.tup hc), kb "tuple" "tuple" true, _, rfl, itF rfl ?_⟩
  refine ⟨_, rfl, _, _, rfl, .inr (SqT.of hc), _, _, rfl, rfl, _, rfl, itF ?_ ?_⟩
  · exact decide_eq_false (by omega)
  refine ⟨_, rfl, c, rfl, ⟨_, SqT.of hc⟩, fun D hD => ?_⟩
  refine turns_tup (K := K) (a := c) (xs := as.map V.ref) ((as.map V.ref).map fun _ => some (.bl true)) hD (fun Hc sm => SqT.of (sm _ _ hc)) (by rw [List.length_map]) (by omega) ?_ ?_
  · intro i z o Hc Y N hz2 ho sm hY hN
    have eo : o = some (.bl true) := by
      rw [List.getElem?_map, hz2] at ho
      exact (Option.some.inj ho).symm
    obtain ⟨e, he, rfl⟩ := refs_at hz2
    obtain ⟨b, hb, hat⟩ := paired_get hp he
    exact ⟨rfl, _, rfl, e, b, rfl, sm _ _ hat, hcr b (List.mem_of_getElem? hb), fun H4 s4 => hY _ eo H4 s4⟩
  · intro H1 hc1 s1
    rw [fm_true] at hc1
    refine ⟨D, _, rfl, SqL.of hc1, _, rfl, itF ?_ ?_⟩
    · rw [List.all_map, show ((as.map V.ref).all (id ∘ fun _ => true)) = true from List.all_eq_true.mpr fun _ _ => rfl]
      rfl
    refine ⟨_, rfl, c, rfl, ⟨_, SqT.of (s1 _ _ hc)⟩, fun D2 hD2 => ?_⟩
    refine turns_tup (K := K) (a := c) (xs := as.map V.ref) (bs.map fun b => some (V.str b.1)) hD2 (fun Hc sm => SqT.of (sm _ _ (s1 _ _ hc))) (by rw [List.length_map]; exact hlr.symm) (by omega) ?_ ?_
    · intro i z o Hc Y N hz2 ho sm hY hN
      obtain ⟨e, he, rfl⟩ := refs_at hz2
      obtain ⟨b, hb, hat⟩ := paired_get hp he
      rw [List.getElem?_map, hb] at ho
      exact ⟨rfl, _, rfl, _, _, _, _, rfl, rfl, SqT.of (sm _ _ (s1 _ _ hat)), atI_nat (j := 0) rfl, hY _ (Option.some.inj ho).symm Hc same_refl⟩
    · intro H2 hc2 s2
      rw [fm_some (fun b : Str × Int × Int => V.str b.1)] at hc2
      have e3 : bs.map (fun b : Str × Int × Int => V.str b.1) = (bs.map (·.1)).map V.str := by rw [List.map_map]; rfl
      rw [e3] at hc2
      have s3 := s1.trans s2
      refine ⟨_, rfl, _, rfl, D2, bs.map (·.1), rfl, SqL.of hc2, hnd, by rw [List.length_map]; omega, fun p2 hp2 => ?_⟩
      refine ⟨p2, (bs.map (·.1)).reverse, rfl, upd_same, by rw [List.length_reverse, List.length_map]; omega, fun ys p3 pm srt hp3 => ?_⟩
      have ey : ys = bs.map (·.1) := sorted_uniq hso srt (pm.trans (List.reverse_perm _))
      subst ey
      have s4 := Same.trans (same_new hp2 _) (same_new hp3 (.lst ((bs.map fun b : Str × Int × Int => b.1).map V.str)))
      exact ⟨1, by decide, .inl ⟨D2, p3, _, _, rfl, rfl, SqL.of (s4 _ _ hc2), SqL.of upd_same, eq_strs _⟩, q _ (s3.trans s4)⟩
end
end Any
namespace Any
open L2 PySem PySem.Spec PyProof.Rows LamX NdefX
abbrev sExpr : Stmt := top 84
abbrev nmExpr : List Str := ["_law_bag_here", "_law_names", "_law_asks", "_law_deep", "_law_some", "_law_word", "_law_name"]
abbrev psE : List Str := ["_law_bag_here", "_law_names", "_law_asks", "_law_deep"]
theorem scExpr : FnScope nmExpr psE (defScope sExpr) := ⟨rfl, rfl, rfl, by decide +kernel, rfl, by decide +kernel, by decide +kernel⟩
def ce : Nat → Nat
  | 0 => 5
  | n + 1 => 2 * ce n + 5
theorem ce_pos (n : Nat) : 5 ≤ ce n := by
  cases n with
  | zero => exact Nat.le_refl _
  | succ n => show 5 ≤ 2 * ce n + 5; omega
def wsOf (a : Nat) : List Str := if a = 0 then [] else ["asked"]
def spExpr (n : Nat) : Sp := fun vs H Q _ => ∃ (b l : Addr) (d m : Nat) (xs : List Str) (a : Nat), vs = [.ref b, .ref l, .int a, .int d] ∧ a ≤ 1 ∧ d < n ∧ Bag H b m ∧ m + ce d < 2 ^ 40 ∧ H l = some (.lst (xs.map V.str)) ∧ l ≠ b ∧ xs.length ≤ 8 ∧
  ∀ (v : V) (e : Ex) (H' : Hp), Kept b H H' → Bag H' b (m + ce d) → ExAt H' v e → e.deep ≤ max d 1 → e.fit xs (wsOf a) → Q v H'
def ifBody : Stmt → List Stmt
  | .If _ b _ _ => b
  | _ => []
abbrev leafBody : List Stmt := ifBody ((defBody sExpr).getD 0 (.Pass ⟨0, 0, 0, 0⟩))
section
variable {P : Program} {w : World} {K : PySem.W.Frag} {mg : Str → Option Value} {base : Heap} {f : Addr} {fd : FuncData}
theorem no_expr {k : Nat} : FnOk P w K mg base CX0 k f fd psE (spExpr 0) := by
  have no : ∀ vs H Q E, ¬ spExpr 0 vs H Q E := fun vs H Q E h => by
    obtain ⟨b, l, d, m, xs, a, _, _, hd, _⟩ := h
    omega
  exact ⟨fun vs H Q E h => absurd h (no vs H Q E), fun A outer s H args us vs Q E _ _ _ _ h => absurd h (no vs H Q E)⟩
theorem many_at {r : Int} (h0 : 0 ≤ r) (h1 : r < 3) : ∃ n : Int, atI [V.int 4, V.int 12, V.int 1000] r = some (.int n) ∧ 1 ≤ n ∧ n ≤ 1000 := by
  have : r = 0 ∨ r = 1 ∨ r = 2 := by omega
  rcases this with rfl | rfl | rfl
  · exact ⟨4, rfl, by decide, by decide⟩
  · exact ⟨12, rfl, by decide, by decide⟩
  · exact ⟨1000, rfl, by decide, by decide⟩
theorem word_at {r : Int} (h0 : 0 ≤ r) (h1 : r < 5) : ∃ d : Dd, atI [V.str "plus", V.str "less", V.str "times", V.str "over", V.str "rest"] r = some (.str d.word) := by
  have : r = 0 ∨ r = 1 ∨ r = 2 ∨ r = 3 ∨ r = 4 := by omega
  rcases this with rfl | rfl | rfl | rfl | rfl
  · exact ⟨.plus, rfl⟩
  · exact ⟨.less, rfl⟩
  · exact ⟨.times, rfl⟩
  · exact ⟨.over, rfl⟩
  · exact ⟨.rest, rfl⟩
theorem ok_expr {n : Nat} {t o : Addr} {td od : FuncData} (F : Fun K "_law_expr" "_law_expr" sExpr f fd) (T : FnOk P w K mg base CX0 1 t td ["_law_bag_here", "_law_many"] spTake) (bT : Binds K td ["_law_bag_here", "_law_many"] []) (kT : PySem.W.keepIn K (.ref t) = true) (mT : mg "_law_take" = some (.ref t))
    (O : FnOk P w K mg base CX0 2 o od ["_law_bag_here", "_law_some"] spOf) (bO : Binds K od ["_law_bag_here", "_law_some"] []) (kO : PySem.W.keepIn K (.ref o) = true) (mO : mg "_law_of" = some (.ref o))
    (G : FnOk P w K mg base CX0 (n + 2) f fd psE (spExpr n)) (bG : Binds K fd psE []) (mG : mg "_law_expr" = some (.ref f)) : FnOk P w K mg base CX0 (n + 3) f fd psE (spExpr (n + 1)) := by
  refine F.ok scExpr (fun vs H Q E h => ?_) (fun cdv A outer s H vs Q E hr h => ?_)
  · obtain ⟨b, l, d, m, xs, a, rfl, _⟩ := h
    rfl
  obtain ⟨b, l, d, m, xs, as, rfl, has, hd, hB, hm, hl, hne, hxs, q⟩ := h
  have hr1 := hr.mono (show 1 ≤ n + 2 by omega)
  have hr2 := hr.mono (show 2 ≤ n + 2 by omega)
  have kG := F.kp
  obtain ⟨t1, ht1, leaf⟩ : ∃ t1, PSs (cxOf CX0 P w K mg base nmExpr "_law_expr" (defScope sExpr) f cdv A outer s H E).nox leafBody t1 ∧
      ∀ (D : Ends) (H0 : Hp) (m0 : Nat), D.rt = Q → Kept b H H0 → Bag H0 b m0 → m0 ≤ m + 1 → t1 D (start nmExpr [.ref b, .ref l, .int as, .int d]) H0 := by
    refine ⟨_, pss_cons (ps_set (i := 4) scExpr.nd rfl (Or.inl rfl) (pe_op op_cat (pe_lst (pa_cons (pe_tup (pa_cons pe_str (pa_cons (pe_call T hr1 rfl mT kT bT .nil pass0 (pa_cons (pv 0) (pa_cons (pe_ix ix_list (pe_lst (pa_cons pe_int (pa_cons pe_int (pa_cons pe_int pa_nil))))
          (pe_call T hr1 rfl mT kT bT .nil pass0 (pa_cons (pv 0) (pa_cons pe_int pa_nil))) (fun _ _ => rfl)) pa_nil))) pa_nil))) pa_nil)) (pe_op op_rep (pe_lst (pa_cons (pe_tup (pa_cons pe_str pa_nil)) pa_nil)) (pv 2))))
      (pss_one (ps_ret (pe_call O hr2 rfl mO kO bO .nil pass0 (pa_cons (pv 0) (pa_cons (pe_op op_cat (pv 4) (pe_op op_rep (pe_lc (own := [("_law_name", 6)]) (g := gName 6) (tt := tYes) rfl scExpr.nd (pi_list (pv 1)) (blkOk_by (N := nmExpr) (sc := defScope sExpr) (by decide +kernel))
        (fun _ _ _ _ _ => pg_name (i := 6) scExpr.nd rfl (Or.inl rfl)) (fun _ _ _ _ _ => pts_nil) (fun _ _ _ _ _ => pe_tup (pa_cons pe_str (pa_cons (pv 6) pa_nil)))) pe_int)) pa_nil))))), ?_⟩
    intro D H0 m0 eD k0 B0 hm0
    have cp := ce_pos d
    refine ⟨_, rfl, (by show 3 ≤ sizeLine; decide), fun p1 hp1 => ?_⟩
    refine ⟨_, rfl, b, 3, m0, rfl, B0.keep (same_new hp1 _), by omega, by decide, by decide, fun d1 H1 k1 B1 d10 d11 => ?_⟩
    obtain ⟨mv, em, mv0, mv1⟩ := many_at d10 d11
    refine ⟨p1, _, _, _, rfl, rfl, SqL.of (k1 _ _ (B0.ne hp1) upd_same), em, b, mv, m0 + 1, rfl, B1, by omega, mv0, mv1, fun d2 H2 k2 B2 d20 d21 => ?_⟩
    refine ⟨(by show 2 ≤ sizeLine; decide), fun p2 hp2 => ⟨(by show 1 ≤ sizeLine; decide), fun p3 hp3 => ⟨(by show 1 ≤ sizeLine; decide), fun p4 hp4 => ⟨(by show 1 ≤ sizeLine; decide), fun p5 hp5 => ?_⟩⟩⟩⟩
    refine ⟨_, rfl, p5, (as : Int), _, rfl, rfl, upd_same, by omega, by omega, small (by show 1 * (Int.toNat (as : Int)) ≤ 1000; omega), fun p6 hp6 => ?_⟩
    have zl : (List.replicate (Int.toNat (as : Int)) [V.ref p4]).flatten.length ≤ 1 := by
      rcases (show as = 0 ∨ as = 1 by omega) with rfl | rfl
      · exact Nat.zero_le _
      · exact Nat.le_refl _
    have s2 := same_new hp2 (.tup [.str "number", .int d2])
    have s3 := same_new hp3 (.lst [.ref p2])
    have s4 := same_new hp4 (.tup [.str "asked"])
    have s5 := same_new hp5 (.lst [.ref p4])
    have s6 := same_new hp6 (.lst (List.replicate (Int.toNat (as : Int)) [V.ref p4]).flatten)
    refine ⟨p3, p6, _, _, rfl, rfl, ((s4.trans s5).trans s6) _ _ upd_same, upd_same, small (by show 1 + _ ≤ 1000; omega), fun p7 hp7 => ?_⟩
    have s7 := same_new hp7 (.lst ([V.ref p2] ++ (List.replicate (Int.toNat (as : Int)) [V.ref p4]).flatten))
    have k7 : Kept b H _ := k0.trans ((Kept.new hp1 _).trans (k1.trans (k2.trans (.of (((((s2.trans s3).trans s4).trans s5).trans s6).trans s7)))))
    have B7 := B2.keep (((((s2.trans s3).trans s4).trans s5).trans s6).trans s7)
    have e2 : ExAt _ (.ref p2) (.num d2) := .num (((((s3.trans s4).trans s5).trans s6).trans s7) _ _ upd_same)
    have e4 : ExAt _ (.ref p4) .asked := .asked (((s5.trans s6).trans s7) _ _ upd_same)
    have e7 := @upd_same (upd (upd (upd (upd (upd H2 p2 (.tup [.str "number", .int d2])) p3 (.lst [.ref p2])) p4 (.tup [.str "asked"])) p5 (.lst [.ref p4])) p6 (.lst (List.replicate (Int.toNat (as : Int)) [V.ref p4]).flatten)) p7 (.lst ([V.ref p2] ++ (List.replicate (Int.toNat (as : Int)) [V.ref p4]).flatten))
    have hl7 := k7 _ _ hne hl
    refine ⟨_, rfl, _, rfl, _, rfl, l, rfl, ⟨_, SqL.of hl7⟩, fun C hC => ?_⟩
    clear s7
    have hC' : upd (upd (upd (upd (upd (upd H2 p2 (.tup [.str "number", .int d2])) p3 (.lst [.ref p2])) p4 (.tup [.str "asked"])) p5 (.lst [.ref p4])) p6 (.lst (List.replicate (Int.toNat (as : Int)) [V.ref p4]).flatten)) p7 (.lst ([V.ref p2] ++ (List.replicate (Int.toNat (as : Int)) [V.ref p4]).flatten)) C = none := hC
    revert e2 e4 e7 hl7 k7 B7 hC'
    generalize eH : upd (upd (upd (upd (upd (upd H2 p2 (.tup [.str "number", .int d2])) p3 (.lst [.ref p2])) p4 (.tup [.str "asked"])) p5 (.lst [.ref p4])) p6 (.lst (List.replicate (Int.toNat (as : Int)) [V.ref p4]).flatten)) p7 (.lst ([V.ref p2] ++ (List.replicate (Int.toNat (as : Int)) [V.ref p4]).flatten)) = H7
    intro k7 B7 e2 e4 e7 hl7 hC'
    have s0 : Same H7 (upd (upd (upd (upd (upd (upd (upd H2 p2 (.tup [.str "number", .int d2])) p3 (.lst [.ref p2])) p4 (.tup [.str "asked"])) p5 (.lst [.ref p4])) p6 (.lst (List.replicate (Int.toNat (as : Int)) [V.ref p4]).flatten)) p7 (.lst ([V.ref p2] ++ (List.replicate (Int.toNat (as : Int)) [V.ref p4]).flatten))) C (.lst [])) := by
      rw [eH]
      exact same_new hC' _
    refine lc_list (K := K) (a := l) (xs := xs.map V.str) (fun i Hc => ∃ ys : List V, Hc C = some (.lst ys) ∧ ys.length = i ∧ (∀ v ∈ ys, ∃ x ∈ xs, ExAt Hc v (.box x)) ∧ Same H7 Hc)
      ⟨[], upd_same, rfl, (fun v hv => by cases hv), same_new hC' _⟩ (fun i Hc _ ⟨ys, _, _, _, sm⟩ => SqL.of (sm _ _ hl7)) (fun i x Hc hx ⟨ys, y1, y2, y3, sm⟩ => ?_) (fun Hc ⟨ys, y1, y2, y3, sm⟩ => ?_)
    · rw [List.getElem?_map] at hx
      obtain ⟨z, hz, rfl⟩ := Option.map_eq_some_iff.mp hx
      have iz : i < xs.length := (List.getElem?_eq_some_iff.mp hz).1
      refine ⟨rfl, _, rfl, (by show 2 ≤ sizeLine; decide), fun p hp => ⟨ys, (same_new hp _) _ _ y1, small1000 (by omega), ys ++ [.ref p], upd_same, by rw [List.length_append, y2]; rfl, fun v hv => ?_, ?_⟩⟩
      · have tp : Tups Hc (upd (upd Hc p (.tup [.str "box", .str z])) C (.lst (ys ++ [.ref p]))) := fun a ts ha => by
          have h1 := (same_new hp (.tup [.str "box", .str z])) _ _ ha
          rw [upd_ne (ne_of ha y1 (by intro z; cases z))]
          exact h1
        rcases List.mem_append.mp hv with hv | hv
        · obtain ⟨x, hx, ex⟩ := y3 v hv
          exact ⟨x, hx, ex.keep tp⟩
        · rw [List.mem_singleton.mp hv]
          refine ⟨z, List.mem_of_getElem? hz, .box ?_⟩
          rw [upd_ne (ne_of_none y1 hp).symm]
          exact upd_same
      · intro a u ha
        have nC : a ≠ C := ne_of_none ha hC'
        rw [upd_ne nC]
        exact (sm.trans (same_new hp _)) _ _ ha
    · have ly : ys.length ≤ 8 := by rw [y2, List.length_map]; exact hxs
      have l2 : (List.replicate (Int.toNat 2) ys).flatten.length = ys.length + (ys.length + 0) := by
        show (ys ++ (ys ++ [])).length = _
        rw [List.length_append, List.length_append]
        rfl
      refine ⟨C, 2, ys, rfl, rfl, y1, by decide, by decide, small (by show ys.length * 2 ≤ 1000; omega), fun p8 hp8 => ?_⟩
      have s8 := sm.trans (same_new hp8 (.lst (List.replicate (Int.toNat 2) ys).flatten))
      refine ⟨p7, p8, _, _, rfl, rfl, s8 _ _ e7, upd_same, small (by rw [l2, List.length_append]; show (1 + _) + _ ≤ 1000; omega), fun p9 hp9 => ?_⟩
      have s9 := s8.trans (same_new hp9 (HO.lst (([V.ref p2] ++ (List.replicate (Int.toNat (as : Int)) [V.ref p4]).flatten) ++ (List.replicate (Int.toNat 2) ys).flatten)))
      have B9 := B7.keep s9
      refine ⟨b, p9, _, m0 + 1 + 1, rfl, B9, by omega, upd_same, (B7.keep s8).ne hp9, ?_, ?_, fun v H' k10 B10 hv => ?_⟩
      · rw [List.length_append, List.length_append]; show 1 ≤ (1 + _) + _; omega
      · rw [List.length_append, List.length_append, l2]; show (1 + _) + _ ≤ 1000; omega
      rw [eD]
      have kk : Kept b H H' := k7.trans ((Kept.of s9).trans k10)
      have tp : Tups H7 H' := fun a ts ha => k10 _ _ (by obtain ⟨_, z⟩ := B9.lst; exact ne_of (s9 _ _ ha) z (by intro z; cases z)) (s9 _ _ ha)
      have B11 : Bag H' b (m + ce d) := B10.more (by omega)
      have one : 1 ≤ max d 1 := Nat.le_max_right ..
      rcases List.mem_append.mp hv with hv | hv
      · rcases List.mem_cons.mp hv with rfl | hv
        · exact q _ _ H' kk B11 (e2.keep tp) one ⟨d20, by omega⟩
        obtain ⟨l', g1, g2⟩ := List.mem_flatten.mp hv
        obtain ⟨g3, g4⟩ := List.mem_replicate.mp g1
        rw [g4] at g2
        rw [List.mem_singleton.mp g2]
        refine q _ _ H' kk B11 (e4.keep tp) one ?_
        show ("asked" : Str) ∈ wsOf as
        unfold wsOf
        rw [if_neg (by omega)]
        exact List.mem_singleton.mpr rfl
      · have hv : v ∈ ys := by
          obtain ⟨l', h1, h2⟩ := List.mem_flatten.mp hv
          rw [(List.mem_replicate.mp h1).2] at h2
          exact h2
        obtain ⟨x, hx, ex⟩ := y3 v hv
        have tc : Tups Hc H' := fun a ts ha => by
          have ha9 := ((same_new hp8 (.lst (List.replicate (Int.toNat 2) ys).flatten)).trans (same_new hp9 (HO.lst (([V.ref p2] ++ (List.replicate (Int.toNat (as : Int)) [V.ref p4]).flatten) ++ (List.replicate (Int.toNat 2) ys).flatten)))) _ _ ha
          obtain ⟨_, z⟩ := B9.lst
          exact k10 _ _ (ne_of ha9 z (by intro z; cases z)) ha9
        exact q _ _ H' kk B11 (ex.keep tc) one hx
  refine ⟨_, pss_cons (ps_if (PW.pt (pw_or (pt_cmpR op_lt (pv 3) pe_int (nomark _)) (pw_or1 (pt_cmpR op_eq (pe_call T hr1 rfl mT kT bT .nil pass0 (pa_cons (pv 0) (pa_cons pe_int pa_nil))) pe_int (nomark _))))) ht1 pss_nil)
    (pss_cons (ps_set (i := 5) scExpr.nd rfl (Or.inl rfl) (pe_ix ix_list (pe_lst (pa_cons pe_str (pa_cons pe_str (pa_cons pe_str (pa_cons pe_str (pa_cons pe_str pa_nil)))))) (pe_call T hr1 rfl mT kT bT .nil pass0 (pa_cons (pv 0) (pa_cons pe_int pa_nil))) (fun _ _ => rfl)))
    (pss_one (ps_ret (pe_tup (pa_cons (pv 5) (pa_cons (pe_call G hr rfl mG kG bG .nil pass0 (pa_cons (pv 0) (pa_cons (pv 1) (pa_cons (pv 2) (pa_cons (pe_op op_sub (pv 3) pe_int) pa_nil))))) (pa_cons (pe_call G hr rfl mG kG bG .nil pass0 (pa_cons (pv 0) (pa_cons (pv 1) (pa_cons (pv 2) (pa_cons (pe_op op_sub (pv 3) pe_int) pa_nil))))) pa_nil))))))), ?_⟩
  have cp := ce_pos d
  refine ⟨_, rfl, _, _, rfl, rfl, _, rfl, ?_⟩
  refine ite2 (fun c => ?_) (fun c => ?_)
  · exact leaf _ H m rfl .refl hB (by omega)
  have c' : ¬ (d : Int) < 2 := of_decide_eq_false (Bool.eq_false_iff.mpr c)
  refine ⟨_, rfl, b, 3, m, rfl, hB, by omega, by decide, by decide, fun d1 H1 k1 B1 d10 d11 => ⟨rfl, _, rfl, ?_⟩⟩
  refine ite2 (fun c2 => ?_) (fun c2 => ?_)
  · exact leaf _ H1 (m + 1) rfl k1 B1 (Nat.le_refl _)
  obtain ⟨e, rfl⟩ : ∃ e, d = e + 1 := ⟨d - 1, by omega⟩
  have he : 1 ≤ e := by omega
  have cee : ce (e + 1) = 2 * ce e + 5 := rfl
  have i1 : (((e + 1 : Nat) : Int)) - 1 = ((e : Nat) : Int) := by omega
  refine ⟨(by show 5 ≤ sizeLine; decide), fun p1 hp1 => ?_⟩
  refine ⟨_, rfl, b, 5, m + 1, rfl, B1.keep (same_new hp1 _), by omega, by decide, by decide, fun d2 H2 k2 B2 d20 d21 => ?_⟩
  obtain ⟨dd, ed⟩ := word_at d20 d21
  refine ⟨p1, _, _, _, rfl, rfl, SqL.of (k2 _ _ (B1.ne hp1) upd_same), ed, ?_⟩
  have kk2 : Kept b H H2 := k1.trans ((Kept.new hp1 _).trans k2)
  refine ⟨_, rfl, _, rfl, _, rfl, _, rfl, _, rfl, _, _, rfl, rfl, b, l, e, m + 1 + 1, xs, as, (by rw [← i1]; rfl), has, by omega, B2, by omega, kk2 _ _ hne hl, hne, hxs, fun v1 x1 H3 k3 B3 a1 a2 a3 => ?_⟩
  have kk3 := kk2.trans k3
  refine ⟨_, rfl, _, rfl, _, rfl, _, rfl, _, _, rfl, rfl, b, l, e, m + 1 + 1 + ce e, xs, as, (by rw [← i1]; rfl), has, by omega, B3, by omega, kk3 _ _ hne hl, hne, hxs, fun v2 x2 H4 k4 B4 b1 b2 b3 => ?_⟩
  have kk4 := kk3.trans k4
  have a1 := a1.keep (B3.tups k4)
  refine ⟨(by show 3 ≤ sizeLine; decide), fun p5 hp5 => ?_⟩
  have s5 := same_new hp5 (.tup [.str dd.word, v1, v2])
  refine q _ (.op dd x1 x2) _ (kk4.trans (.of s5)) ((B4.keep s5).more (by omega)) (.op upd_same (a1.keep (Same.tups s5)) (b1.keep (Same.tups s5))) ?_ ⟨a3, b3⟩
  show max x1.deep x2.deep + 1 ≤ max (e + 1) 1
  omega
theorem all_expr {t o : Addr} {td od : FuncData} (F : Fun K "_law_expr" "_law_expr" sExpr f fd) (T : FnOk P w K mg base CX0 1 t td ["_law_bag_here", "_law_many"] spTake) (bT : Binds K td ["_law_bag_here", "_law_many"] []) (kT : PySem.W.keepIn K (.ref t) = true) (mT : mg "_law_take" = some (.ref t))
    (O : FnOk P w K mg base CX0 2 o od ["_law_bag_here", "_law_some"] spOf) (bO : Binds K od ["_law_bag_here", "_law_some"] []) (kO : PySem.W.keepIn K (.ref o) = true) (mO : mg "_law_of" = some (.ref o))
    (bG : Binds K fd psE []) (mG : mg "_law_expr" = some (.ref f)) : ∀ n : Nat, FnOk P w K mg base CX0 (n + 2) f fd psE (spExpr n)
  | 0 => no_expr
  | n + 1 => ok_expr F T bT kT mT O bO kO mO (all_expr F T bT kT mT O bO kO mO bG mG n) bG mG
end
end Any
namespace Any
open L2 PySem PySem.Spec PyProof.Rows LamX NdefX
abbrev sTest : Stmt := top 85
abbrev nmTest : List Str := ["_law_bag_here", "_law_names", "_law_asks", "_law_deep", "_law_sort", "_law_one"]
theorem scTest : FnScope nmTest psE (defScope sTest) := ⟨rfl, rfl, rfl, by decide +kernel, rfl, by decide +kernel, by decide +kernel⟩
def ct : Nat → Nat
  | 0 => 20
  | n + 1 => 2 * ct n + 2 * ce n + 5
def spTest (n : Nat) : Sp := fun vs H Q _ => ∃ (b l : Addr) (d m : Nat) (xs : List Str) (a : Nat), vs = [.ref b, .ref l, .int a, .int d] ∧ a ≤ 1 ∧ 1 ≤ d ∧ d < n ∧ d ≤ 7 ∧ Bag H b m ∧ m + ct d < 2 ^ 40 ∧ H l = some (.lst (xs.map V.str)) ∧ l ≠ b ∧ xs.length ≤ 8 ∧
  ∀ (v : V) (e : Ts) (H' : Hp), Kept b H H' → Bag H' b (m + ct d) → TsAt H' v e → e.dp ≤ max d 2 → e.fit xs (wsOf a) → Q v H'
section
variable {P : Program} {w : World} {K : PySem.W.Frag} {mg : Str → Option Value} {base : Heap} {f t ex : Addr} {fd td exd : FuncData}
theorem no_test {k : Nat} : FnOk P w K mg base CX0 k f fd psE (spTest 0) := by
  have no : ∀ vs H Q E, ¬ spTest 0 vs H Q E := fun vs H Q E h => by
    obtain ⟨b, l, d, m, xs, a, _, _, _, hd, _⟩ := h
    omega
  exact ⟨fun vs H Q E h => absurd h (no vs H Q E), fun A outer s H args us vs Q E _ _ _ _ h => absurd h (no vs H Q E)⟩
theorem two_ix {x y : V} {r : Int} (h0 : 0 ≤ r) (h1 : r < 2) : (atI [x, y] r = some x) ∨ (atI [x, y] r = some y) := by
  have : r = 0 ∨ r = 1 := by omega
  rcases this with rfl | rfl
  · exact .inl rfl
  · exact .inr rfl
theorem ok_test {n : Nat} (F : Fun K "_law_test" "_law_test" sTest f fd) (T : FnOk P w K mg base CX0 1 t td ["_law_bag_here", "_law_many"] spTake) (bT : Binds K td ["_law_bag_here", "_law_many"] []) (kT : PySem.W.keepIn K (.ref t) = true) (mT : mg "_law_take" = some (.ref t))
    (X : FnOk P w K mg base CX0 9 ex exd psE (spExpr 7)) (bX : Binds K exd psE []) (kX : PySem.W.keepIn K (.ref ex) = true) (mX : mg "_law_expr" = some (.ref ex))
    (G : FnOk P w K mg base CX0 (n + 9) f fd psE (spTest n)) (bG : Binds K fd psE []) (mG : mg "_law_test" = some (.ref f)) : FnOk P w K mg base CX0 (n + 10) f fd psE (spTest (n + 1)) := by
  refine F.ok scTest (fun vs H Q E h => ?_) (fun cdv A outer s H vs Q E hr h => ?_)
  · obtain ⟨b, l, d, m, xs, as, rfl, _⟩ := h
    rfl
  obtain ⟨b, l, d, m, xs, as, rfl, has, hd1, hd, hd7, hB, hm, hl, hne, hxs, q⟩ := h
  have hr1 := hr.mono (show 1 ≤ n + 9 by omega)
  have hr9 := hr.mono (show 9 ≤ n + 9 by omega)
  have kG := F.kp
  obtain ⟨e, rfl⟩ : ∃ e, d = e + 1 := ⟨d - 1, by omega⟩
  have cee : ct (e + 1) = 2 * ct e + 2 * ce e + 5 := rfl
  have i1 : (((e + 1 : Nat) : Int)) - 1 = ((e : Nat) : Int) := by omega
  obtain ⟨t2, ht2, tail⟩ : ∃ t2, PSs (cxOf CX0 P w K mg base nmTest "_law_test" (defScope sTest) f cdv A outer s H E).nox ((defBody sTest).drop 3) t2 ∧
      ∀ (D : Ends) (H1 : Hp) (srt : Int), D.rt = Q → Kept b H H1 → Bag H1 b (m + 1) → 3 ≤ srt → srt < 5 → t2 D [some (.ref b), some (.ref l), some (.int as), some (.int ((e + 1 : Nat) : Int)), some (.int srt), none] H1 := by
    refine ⟨_, pss_cons (ps_set (i := 5) scTest.nd rfl (Or.inl rfl) (pe_call X hr9 rfl mX kX bX .nil pass0 (pa_cons (pv 0) (pa_cons (pv 1) (pa_cons (pv 2) (pa_cons (pe_op op_sub (pv 3) pe_int) pa_nil))))))
      (pss_one (ps_ret (pe_tup (pa_cons (pe_ix ix_list (pe_lst (pa_cons pe_str (pa_cons pe_str pa_nil))) (pe_op op_sub (pv 4) pe_int) (fun _ _ => rfl)) (pa_cons (pv 5) (pa_cons (pe_call X hr9 rfl mX kX bX .nil pass0 (pa_cons (pv 0) (pa_cons (pv 1) (pa_cons (pv 2) (pa_cons (pe_op op_sub (pv 3) pe_int) pa_nil))))) pa_nil)))))), ?_⟩
    intro D H1 srt eD k1 B1 h3 h5
    refine ⟨_, rfl, _, rfl, _, rfl, _, rfl, _, _, rfl, rfl, b, l, e, m + 1, xs, as, (by rw [← i1]; rfl), has, by omega, B1, by omega, k1 _ _ hne hl, hne, hxs, fun v1 x1 H3 k3 B3 a1 a2 a3 => ?_⟩
    refine ⟨(by show 2 ≤ sizeLine; decide), fun p4 hp4 => ?_⟩
    have s4 := same_new hp4 (.lst [.str "is", .str "below"])
    have kk := (k1.trans k3).trans (.of s4)
    rcases two_ix (x := V.str "is") (y := V.str "below") (r := srt - 3) (by omega) (by omega) with ei | ei
    · refine ⟨_, rfl, _, _, rfl, rfl, p4, _, _, _, rfl, rfl, SqL.of upd_same, ei, _, rfl, ?_⟩
      refine ⟨_, rfl, _, rfl, _, rfl, _, rfl, _, _, rfl, rfl, b, l, e, m + 1 + ce e, xs, as, (by rw [← i1]; rfl), has, by omega, B3.keep s4, by omega, kk _ _ hne hl, hne, hxs, fun v2 x2 H6 k6 B6 b1 b2 b3 => ?_⟩
      refine ⟨(by show 3 ≤ sizeLine; decide), fun p7 hp7 => ?_⟩
      have s7 := same_new hp7 (.tup [.str "is", v1, v2])
      have a6 := (a1.keep (Same.tups s4)).keep ((B3.keep s4).tups k6)
      rw [eD]
      exact q _ (.is x1 x2) _ ((kk.trans k6).trans (.of s7)) ((B6.keep s7).more (by omega)) (.is upd_same (a6.keep (Same.tups s7)) (b1.keep (Same.tups s7))) (by show max x1.deep x2.deep + 1 ≤ max (e + 1) 2; omega) ⟨a3, b3⟩
    · refine ⟨_, rfl, _, _, rfl, rfl, p4, _, _, _, rfl, rfl, SqL.of upd_same, ei, _, rfl, ?_⟩
      refine ⟨_, rfl, _, rfl, _, rfl, _, rfl, _, _, rfl, rfl, b, l, e, m + 1 + ce e, xs, as, (by rw [← i1]; rfl), has, by omega, B3.keep s4, by omega, kk _ _ hne hl, hne, hxs, fun v2 x2 H6 k6 B6 b1 b2 b3 => ?_⟩
      refine ⟨(by show 3 ≤ sizeLine; decide), fun p7 hp7 => ?_⟩
      have s7 := same_new hp7 (.tup [.str "below", v1, v2])
      have a6 := (a1.keep (Same.tups s4)).keep ((B3.keep s4).tups k6)
      rw [eD]
      exact q _ (.bel x1 x2) _ ((kk.trans k6).trans (.of s7)) ((B6.keep s7).more (by omega)) (.bel upd_same (a6.keep (Same.tups s7)) (b1.keep (Same.tups s7))) (by show max x1.deep x2.deep + 1 ≤ max (e + 1) 2; omega) ⟨a3, b3⟩
  refine ⟨_, pss_cons (ps_set (i := 4) scTest.nd rfl (Or.inl rfl) (pe_ifExp (pt_cmpR op_gt (pv 3) pe_int (nomark _)) (pe_call T hr1 rfl mT kT bT .nil pass0 (pa_cons (pv 0) (pa_cons pe_int pa_nil))) (pe_op op_add pe_int (pe_call T hr1 rfl mT kT bT .nil pass0 (pa_cons (pv 0) (pa_cons pe_int pa_nil))))))
    (pss_cons (ps_if (pt_cmpR op_eq (pv 4) pe_int (nomark _)) (pss_one (ps_ret (pe_tup (pa_cons pe_str (pa_cons (pe_call G hr rfl mG kG bG .nil pass0 (pa_cons (pv 0) (pa_cons (pv 1) (pa_cons (pv 2) (pa_cons (pe_op op_sub (pv 3) pe_int) pa_nil))))) pa_nil))))) pss_nil)
    (pss_cons (ps_if (pt_cmpR op_lt (pv 4) pe_int (nomark _))
      (pss_cons (ps_set (i := 5) scTest.nd rfl (Or.inl rfl) (pe_call G hr rfl mG kG bG .nil pass0 (pa_cons (pv 0) (pa_cons (pv 1) (pa_cons (pv 2) (pa_cons (pe_op op_sub (pv 3) pe_int) pa_nil))))))
      (pss_one (ps_ret (pe_tup (pa_cons (pe_ix ix_list (pe_lst (pa_cons pe_str (pa_cons pe_str pa_nil))) (pe_op op_sub (pv 4) pe_int) (fun _ _ => rfl)) (pa_cons (pv 5) (pa_cons (pe_call G hr rfl mG kG bG .nil pass0 (pa_cons (pv 0) (pa_cons (pv 1) (pa_cons (pv 2) (pa_cons (pe_op op_sub (pv 3) pe_int) pa_nil))))) pa_nil))))))) pss_nil)
    ht2)), ?_⟩
  refine ⟨_, rfl, _, _, rfl, rfl, _, rfl, ?_⟩
  refine ite2 (fun c => ?_) (fun c => ?_)
  · have c' : (2 : Int) < ((e + 1 : Nat) : Int) := of_decide_eq_true c
    refine ⟨_, rfl, b, 5, m, rfl, hB, by omega, by decide, by decide, fun d1 H1 k1 B1 d10 d11 => ?_⟩
    refine ⟨_, rfl, rfl, _, rfl, ?_⟩
    refine ite2 (fun c1 => ?_) (fun c1 => ?_)
    · refine ⟨_, rfl, _, rfl, _, rfl, _, rfl, _, _, rfl, rfl, b, l, e, m + 1, xs, as, (by rw [← i1]; rfl), has, by omega, by omega, by omega, B1, by omega, k1 _ _ hne hl, hne, hxs, fun v1 x1 H3 k3 B3 a1 a2 a3 => ?_⟩
      refine ⟨(by show 2 ≤ sizeLine; decide), fun p5 hp5 => ?_⟩
      have s5 := same_new hp5 (.tup [.str "not", v1])
      exact q _ (.nt x1) _ ((k1.trans k3).trans (.of s5)) ((B3.keep s5).more (by omega)) (.nt upd_same (a1.keep (Same.tups s5))) (by show x1.dp + 1 ≤ max (e + 1) 2; omega) a3
    · have c1' : ¬ V.int d1 = V.int 0 := of_decide_eq_false (Bool.eq_false_iff.mpr c1)
      have nz : d1 ≠ 0 := fun z => c1' (by rw [z])
      refine ⟨_, rfl, _, _, rfl, rfl, _, rfl, ?_⟩
      refine ite2 (fun c2 => ?_) (fun c2 => ?_)
      · have c2' : d1 < 3 := of_decide_eq_true c2
        refine ⟨_, rfl, _, rfl, _, rfl, _, rfl, _, _, rfl, rfl, b, l, e, m + 1, xs, as, (by rw [← i1]; rfl), has, by omega, by omega, by omega, B1, by omega, k1 _ _ hne hl, hne, hxs, fun v1 x1 H3 k3 B3 a1 a2 a3 => ?_⟩
        refine ⟨(by show 2 ≤ sizeLine; decide), fun p4 hp4 => ?_⟩
        have s4 := same_new hp4 (.lst [.str "both", .str "either"])
        have kk := (k1.trans k3).trans (.of s4)
        rcases two_ix (x := V.str "both") (y := V.str "either") (r := d1 - 1) (by omega) (by omega) with ei | ei
        · refine ⟨_, rfl, _, _, rfl, rfl, p4, _, _, _, rfl, rfl, SqL.of upd_same, ei, _, rfl, ?_⟩
          refine ⟨_, rfl, _, rfl, _, rfl, _, rfl, _, _, rfl, rfl, b, l, e, m + 1 + ct e, xs, as, (by rw [← i1]; rfl), has, by omega, by omega, by omega, B3.keep s4, by omega, kk _ _ hne hl, hne, hxs, fun v2 x2 H6 k6 B6 b1 b2 b3 => ?_⟩
          refine ⟨(by show 3 ≤ sizeLine; decide), fun p7 hp7 => ?_⟩
          have s7 := same_new hp7 (.tup [.str "both", v1, v2])
          have a6 := (a1.keep (Same.tups s4)).keep ((B3.keep s4).tups k6)
          exact q _ (.both x1 x2) _ ((kk.trans k6).trans (.of s7)) ((B6.keep s7).more (by omega)) (.both upd_same (a6.keep (Same.tups s7)) (b1.keep (Same.tups s7))) (by show max x1.dp x2.dp + 1 ≤ max (e + 1) 2; omega) ⟨a3, b3⟩
        · refine ⟨_, rfl, _, _, rfl, rfl, p4, _, _, _, rfl, rfl, SqL.of upd_same, ei, _, rfl, ?_⟩
          refine ⟨_, rfl, _, rfl, _, rfl, _, rfl, _, _, rfl, rfl, b, l, e, m + 1 + ct e, xs, as, (by rw [← i1]; rfl), has, by omega, by omega, by omega, B3.keep s4, by omega, kk _ _ hne hl, hne, hxs, fun v2 x2 H6 k6 B6 b1 b2 b3 => ?_⟩
          refine ⟨(by show 3 ≤ sizeLine; decide), fun p7 hp7 => ?_⟩
          have s7 := same_new hp7 (.tup [.str "either", v1, v2])
          have a6 := (a1.keep (Same.tups s4)).keep ((B3.keep s4).tups k6)
          exact q _ (.either x1 x2) _ ((kk.trans k6).trans (.of s7)) ((B6.keep s7).more (by omega)) (.either upd_same (a6.keep (Same.tups s7)) (b1.keep (Same.tups s7))) (by show max x1.dp x2.dp + 1 ≤ max (e + 1) 2; omega) ⟨a3, b3⟩
      · have c2' : ¬ d1 < 3 := of_decide_eq_false (Bool.eq_false_iff.mpr c2)
        exact tail _ H1 d1 rfl k1 B1 (by omega) (by omega)
  · refine ⟨_, rfl, b, 2, m, rfl, hB, by omega, by decide, by decide, fun d1 H1 k1 B1 d10 d11 => ⟨_, _, rfl, rfl, ?_⟩⟩
    have f1 : decide (V.int (3 + d1) = V.int 0) = false := decide_eq_false fun z => by have := V.int.inj z; omega
    refine ⟨_, rfl, rfl, _, rfl, itF f1 ?_⟩
    refine ⟨_, rfl, _, _, rfl, rfl, _, rfl, itF (decide_eq_false (by omega)) ?_⟩
    exact tail _ H1 (3 + d1) rfl k1 B1 (by omega) (by omega)
theorem all_test (F : Fun K "_law_test" "_law_test" sTest f fd) (T : FnOk P w K mg base CX0 1 t td ["_law_bag_here", "_law_many"] spTake) (bT : Binds K td ["_law_bag_here", "_law_many"] []) (kT : PySem.W.keepIn K (.ref t) = true) (mT : mg "_law_take" = some (.ref t))
    (X : FnOk P w K mg base CX0 9 ex exd psE (spExpr 7)) (bX : Binds K exd psE []) (kX : PySem.W.keepIn K (.ref ex) = true) (mX : mg "_law_expr" = some (.ref ex)) (bG : Binds K fd psE []) (mG : mg "_law_test" = some (.ref f)) :
    ∀ n : Nat, FnOk P w K mg base CX0 (n + 9) f fd psE (spTest n)
  | 0 => no_test
  | n + 1 => ok_test F T bT kT mT X bX kX mX (all_test F T bT kT mT X bX kX mX bG mG n) bG mG
end
/-! ### small ones are few -/
theorem Ex.cnt_lt : ∀ e : Ex, e.cnt + 1 ≤ 2 ^ e.deep
  | .num _ => Nat.le_refl _
  | .box _ => Nat.le_refl _
  | .asked => Nat.le_refl _
  | .told => Nat.le_refl _
  | .op _ l r => by
    have h1 := l.cnt_lt
    have h2 := r.cnt_lt
    have h3 : 2 ^ l.deep ≤ 2 ^ max l.deep r.deep := Nat.pow_le_pow_right (by decide) (Nat.le_max_left ..)
    have h4 : 2 ^ r.deep ≤ 2 ^ max l.deep r.deep := Nat.pow_le_pow_right (by decide) (Nat.le_max_right ..)
    show 1 + (l.cnt + r.cnt) + 1 ≤ 2 ^ (max l.deep r.deep + 1)
    rw [Nat.pow_succ]
    omega
theorem Ts.cnt_lt : ∀ e : Ts, e.cnt + 1 ≤ 2 ^ e.dp
  | .is l r => by
    have h1 := l.cnt_lt
    have h2 := r.cnt_lt
    have h3 : 2 ^ l.deep ≤ 2 ^ max l.deep r.deep := Nat.pow_le_pow_right (by decide) (Nat.le_max_left ..)
    have h4 : 2 ^ r.deep ≤ 2 ^ max l.deep r.deep := Nat.pow_le_pow_right (by decide) (Nat.le_max_right ..)
    show 1 + (l.cnt + r.cnt) + 1 ≤ 2 ^ (max l.deep r.deep + 1)
    rw [Nat.pow_succ]
    omega
  | .bel l r => by
    have h1 := l.cnt_lt
    have h2 := r.cnt_lt
    have h3 : 2 ^ l.deep ≤ 2 ^ max l.deep r.deep := Nat.pow_le_pow_right (by decide) (Nat.le_max_left ..)
    have h4 : 2 ^ r.deep ≤ 2 ^ max l.deep r.deep := Nat.pow_le_pow_right (by decide) (Nat.le_max_right ..)
    show 1 + (l.cnt + r.cnt) + 1 ≤ 2 ^ (max l.deep r.deep + 1)
    rw [Nat.pow_succ]
    omega
  | .nt t => by
    have h1 := t.cnt_lt
    have h2 : 0 < 2 ^ t.dp := Nat.pow_pos (by decide)
    show 1 + t.cnt + 1 ≤ 2 ^ (t.dp + 1)
    rw [Nat.pow_succ]
    omega
  | .both l r => by
    have h1 := l.cnt_lt
    have h2 := r.cnt_lt
    have h3 : 2 ^ l.dp ≤ 2 ^ max l.dp r.dp := Nat.pow_le_pow_right (by decide) (Nat.le_max_left ..)
    have h4 : 2 ^ r.dp ≤ 2 ^ max l.dp r.dp := Nat.pow_le_pow_right (by decide) (Nat.le_max_right ..)
    show 1 + (l.cnt + r.cnt) + 1 ≤ 2 ^ (max l.dp r.dp + 1)
    rw [Nat.pow_succ]
    omega
  | .either l r => by
    have h1 := l.cnt_lt
    have h2 := r.cnt_lt
    have h3 : 2 ^ l.dp ≤ 2 ^ max l.dp r.dp := Nat.pow_le_pow_right (by decide) (Nat.le_max_left ..)
    have h4 : 2 ^ r.dp ≤ 2 ^ max l.dp r.dp := Nat.pow_le_pow_right (by decide) (Nat.le_max_right ..)
    show 1 + (l.cnt + r.cnt) + 1 ≤ 2 ^ (max l.dp r.dp + 1)
    rw [Nat.pow_succ]
    omega
theorem Ex.right_of {xs ws : List Str} {e : Ex} (h : e.fit xs ws) (d : e.deep ≤ 4) : e.right xs ws := by
  have h1 := e.cnt_lt
  have h2 : 2 ^ e.deep ≤ 2 ^ 4 := Nat.pow_le_pow_right (by decide) d
  exact ⟨h, by omega, by omega⟩
theorem Ts.right_of {xs ws : List Str} {e : Ts} (h : e.fit xs ws) (d : e.dp ≤ 4) : e.right xs ws := by
  have h1 := e.cnt_lt
  have h2 : 2 ^ e.dp ≤ 2 ^ 4 := Nat.pow_le_pow_right (by decide) d
  exact ⟨h, by omega, by omega⟩
end Any
namespace Any
open L2 PySem PySem.Spec PyProof.Rows LamX NdefX
abbrev sMixed : Stmt := top 81
abbrev nmMix : List Str := ["_law_bag_here", "_law_some", "_law_left", "_law_one"]
theorem scMixed : FnScope nmMix ["_law_bag_here", "_law_some"] (defScope sMixed) := ⟨rfl, rfl, rfl, by decide +kernel, rfl, by decide +kernel, by decide +kernel⟩
def spMixed : Sp := fun vs H Q _ => ∃ (b l : Addr) (xs : List V) (n : Nat), vs = [.ref b, .ref l] ∧ Bag H b n ∧ n + xs.length < 2 ^ 40 ∧ H l = some (.lst xs) ∧ l ≠ b ∧ xs.length ≤ 1000 ∧
  ∀ (p : Addr) (ys : List V) (H' : Hp), H p = none → Kept b H H' → Bag H' b (n + xs.length) → H' p = some (.lst ys) → ys.Perm xs → Q (.ref p) H'
theorem erase_perm2 {α : Type} : ∀ {l : List α} {k : Nat} {y : α}, l[k]? = some y → (y :: l.eraseIdx k).Perm l
  | [], k, y, h => by simp at h
  | x :: r, 0, y, h => by cases h; exact .refl _
  | x :: r, k + 1, y, h => by
    have := erase_perm2 (l := r) (k := k) h
    exact (List.Perm.swap x y _).trans (this.cons x)
theorem seqIx {k n : Nat} (h : k < n) : seqIndex? (k : Int) n = some k := by
  unfold seqIndex?
  simp
  omega
theorem Bag.off {H : Hp} {b z : Addr} {n : Nat} (h : Bag H b n) (zb : z ≠ b) (o : HO) : Bag (upd H z o) b n := by
  obtain ⟨g, s, c, h1, r⟩ := h
  exact ⟨g, s, c, by rw [upd_ne zb.symm]; exact h1, r⟩
theorem Kept.put2 {b z C : Addr} {H H2 : Hp} {o o' : HO} (k : Kept b H H2) (hz : H z = none) (hC : H C = none) : Kept b H (upd (upd H2 z o) C o') := fun a u n q => by
  rw [upd_ne (ne_of_none q hC), upd_ne (ne_of_none q hz)]
  exact k a u n q
section
variable {P : Program} {w : World} {K : PySem.W.Frag} {mg : Str → Option Value} {base : Heap} {f t : Addr} {fd td : FuncData}
theorem ok_mixed (ml : mg "list" = none) (mn : mg "len" = none) (F : Fun K "_law_mixed" "_law_mixed" sMixed f fd) (T : FnOk P w K mg base CX0 1 t td ["_law_bag_here", "_law_many"] spTake) (bT : Binds K td ["_law_bag_here", "_law_many"] []) (kT : PySem.W.keepIn K (.ref t) = true) (mT : mg "_law_take" = some (.ref t)) :
    FnOk P w K mg base CX0 2 f fd ["_law_bag_here", "_law_some"] spMixed := by
  refine F.ok scMixed (fun vs H Q E h => ?_) (fun cdv A outer s H vs Q E hr h => ?_)
  · obtain ⟨b, l, xs, n, rfl, _⟩ := h
    rfl
  obtain ⟨b, l, xs, n, rfl, hB, hn, hl, hne, hz, q⟩ := h
  have hs : sizeLine = 16777216 := sizeLine_eq
  refine ⟨_, pss_cons (ps_set (i := 2) scMixed.nd rfl (Or.inr rfl) (pe_callTy call_list_of rfl ml (by decide +kernel) (pa_cons (pv 1) pa_nil)))
    (pss_one (ps_ret (pe_lc (own := [("_law_one", 3)]) (g := gName 3) (tt := tYes) (te := tBM K "list" rPopAt (tVar 2) _) rfl scMixed.nd (pi_list (pv 1)) (blkOk_by (N := nmMix) (sc := defScope sMixed) (by decide +kernel))
      (fun _ _ _ _ _ => pg_name (i := 3) scMixed.nd rfl (Or.inl rfl)) (fun _ _ _ _ _ => pts_nil)
      (fun _ _ _ _ _ => pe_bm PySem.F.plainAttrs_list PySem.F.slot_list_pop PySem.F.type_list_pop mt_popAt (pv 2) (pa_cons (pe_call T hr rfl mT kT bT .nil pass0 (pa_cons (pv 0) (pa_cons (pe_callB (show CallR _ (.builtin "len") (fun xs H Q => ∃ p ys, xs = [V.ref p] ∧ (SqL K H p ys ∨ SqT K H p ys) ∧ Q (.int ys.length) H) from call_len_seq) rfl mn PySem.boot_len (pa_cons (pv 2) pa_nil)) pa_nil))) pa_nil))))), ?_⟩
  refine ⟨_, rfl, l, _, rfl, .inl (SqL.of hl), fun z hz2 => ?_⟩
  have s1 := same_new hz2 (.lst xs)
  have zb : z ≠ b := (hB.ne hz2)
  refine ⟨_, rfl, l, rfl, ⟨_, SqL.of (s1 _ _ hl)⟩, fun C hC => ?_⟩
  have Cz : C ≠ z := fun e => by rw [e, upd_same] at hC; cases hC
  have hC0 : H C = none := by rw [← hC, upd_ne Cz]
  have Cb : C ≠ b := hB.ne hC0
  have zl : z ≠ l := fun e => by rw [e, hl] at hz2; cases hz2
  refine lc_list (K := K) (a := l) (xs := xs) (fun i Hc => ∃ ys zs : List V, Hc C = some (.lst ys) ∧ Hc z = some (.lst zs) ∧ ys.length = i ∧ (ys ++ zs).Perm xs ∧ Bag Hc b (n + i) ∧ Kept b H Hc) ?_ ?_ ?_ ?_
  · refine ⟨[], xs, upd_same, ?_, rfl, .refl _, ?_, ?_⟩
    · rw [upd_ne Cz.symm]
      exact upd_same
    · exact (hB.keep s1).keep (same_new hC _)
    · exact .of (s1.trans (same_new hC _))
  · rintro i Hc _ ⟨ys, zs, _, _, _, _, _, k1⟩
    exact SqL.of (k1 _ _ hne hl)
  · rintro i x Hc hx ⟨ys, zs, y1, y2, y3, y4, B1, k1⟩
    have hi : i < xs.length := (List.getElem?_eq_some_iff.mp hx).1
    have le : ys.length + zs.length = xs.length := by rw [← y4.length_eq, List.length_append]
    refine ⟨rfl, _, rfl, .inl ⟨rfl, _, SqL.of y2⟩, _, rfl, _, rfl, z, zs, rfl, .inl (SqL.of y2), ?_⟩
    refine ⟨b, zs.length, n + i, rfl, B1, by omega, by omega, by omega, fun d H2 k2 B2 d0 d1 => ?_⟩
    obtain ⟨dn, rfl⟩ : ∃ dn : Nat, d = dn := ⟨d.toNat, by omega⟩
    have hd : dn < zs.length := by omega
    have y2' : H2 z = some (.lst zs) := k2 _ _ zb y2
    have y1' : H2 C = some (.lst ys) := k2 _ _ Cb y1
    have hy : zs[dn]? = some zs[dn] := List.getElem?_eq_getElem hd
    refine ⟨z, zs, dn, dn, zs[dn], rfl, rfl, y2', by omega, by omega, ?_, hy, ?_⟩
    · exact seqIx hd
    refine ⟨ys, by rw [upd_ne Cz]; exact y1', by omega, ys ++ [zs[dn]], zs.eraseIdx dn, upd_same, ?_, ?_, ?_, ?_, ?_⟩
    · rw [upd_ne Cz.symm]
      exact upd_same
    · rw [List.length_append, y3]
      rfl
    · rw [List.append_assoc]
      exact ((erase_perm2 hy).append_left ys).trans y4
    · exact (B2.off (z := z) zb _).off Cb _ |>.more (by omega)
    · exact (k1.trans k2).put2 hz2 hC0
  · rintro Hc ⟨ys, zs, y1, y2, y3, y4, B1, k1⟩
    have le : ys.length + zs.length = xs.length := by rw [← y4.length_eq, List.length_append]
    have e0 : zs = [] := List.eq_nil_of_length_eq_zero (by omega)
    subst e0
    rw [List.append_nil] at y4
    exact q C ys Hc hC0 k1 B1 y1 y4
end
end Any
namespace Any
open L2 PySem PySem.Spec PyProof.Rows LamX NdefX
abbrev sMade : Stmt := top 91
abbrev sLProg : Stmt := top 92
theorem scMade : FnScope ["_law_some"] ["_law_some"] (defScope sMade) := ⟨rfl, rfl, rfl, by decide +kernel, rfl, by decide +kernel, by decide +kernel⟩
theorem scLProg : FnScope ["_law_rooms_here", "_law_some"] ["_law_rooms_here"] (defScope sLProg) := ⟨rfl, rfl, rfl, by decide +kernel, rfl, by decide +kernel, by decide +kernel⟩
/-- a room's eight parts as a tuple -/
def EightAt (H : Hp) (a : Addr) (r : Rm) : Prop := ∃ n ab b s k t p y, H a = some (.tup [n, ab, b, s, k, t, p, y]) ∧ PartsAt H r n ab b s k t p y
theorem EightAt.keep {H H' : Hp} (k : Tups H H') {a : Addr} {r : Rm} (h : EightAt H a r) : EightAt H' a r := by
  obtain ⟨n, ab, b, s, q, t, p, y, h1, h2⟩ := h
  exact ⟨n, ab, b, s, q, t, p, y, k _ _ h1, h2.keep k⟩
def spMade (C : Addr) : Sp := fun vs H Q _ => ∃ a r, vs = [.ref a] ∧ EightAt H a r ∧ ∀ x H', H x = none → Same H H' → RmAt C H' x r → Q (.ref x) H'
abbrev ks7 : List Str := ["above", "boxes", "sayings", "ask", "told", "promise", "body"]
section
variable {P : Program} {w : World} {K : PySem.W.Frag} {mg : Str → Option Value} {base : Heap} {f C fI : Addr} {fd fdI : FuncData}
set_option maxHeartbeats 4000000 in
theorem kb_rinit {kws : List (Str × V)} (F : FunD K "__init__" "Room.__init__" (defArgs sRInit) (defBody sRInit) (defScope sRInit) [] kws f fd) : KBn K fd psRI 2 ks7 (fun us ws => us ++ ws) (fun us ws => us ++ ws) := by
  obtain ⟨oc, od, dV, kV, doc, pm, an, cdv, ct, osl, rfl, lk, hcd, hD, hK⟩ := F.ex
  have hd : dV = .none := hD.elim (fun z => z.2) (fun z => absurd rfl z.1)
  subst hd
  refine ⟨fun s us ws _ l1 l2 => ?_, fun r1 r2 => r1.append r2⟩
  match us, ws, l1, l2 with
  | [u1, u2], [w1, w2, w3, w4, w5, w6, w7], _, _ => exact .of_eq (by first | kernel_rfl | rfl)
theorem ok_made {kws : List (Str × V)} (F : Fun K "_law_made" "_law_made" sMade f fd) (M : Mk K C fI) (mC : mg "Room" = some (.ref C)) (T : RoomC K C)
    (FI : FunD K "__init__" "Room.__init__" (defArgs sRInit) (defBody sRInit) (defScope sRInit) [] kws fI fdI) : FnOk P w K mg base CX0 3 f fd ["_law_some"] (spMade C) := by
  have GI : FnOk P w K mg base CX0 1 fI fdI psRI (spRInit C) := ok_rinit T FI
  have kI := kb_rinit FI
  refine F.ok scMade (fun vs H Q E h => ?_) (fun cdv A outer s H vs Q E hr h => ?_)
  · obtain ⟨a, r, rfl, _⟩ := h
    rfl
  obtain ⟨a, r, rfl, ⟨n, ab, b, s', k, t, p, y, ha, hp⟩, q⟩ := h
  refine ⟨_, pss_one (ps_ret (pe_makeK M GI hr rfl mC kI pass0 (pa_cons (pe_ix ix_tup (pv 0) pe_int (fun _ _ => rfl)) pa_nil)
    (pk_cons (pe_ix ix_tup (pv 0) pe_int (fun _ _ => rfl)) (pk_cons (pe_ix ix_tup (pv 0) pe_int (fun _ _ => rfl)) (pk_cons (pe_ix ix_tup (pv 0) pe_int (fun _ _ => rfl)) (pk_cons (pe_ix ix_tup (pv 0) pe_int (fun _ _ => rfl))
    (pk_cons (pe_ix ix_tup (pv 0) pe_int (fun _ _ => rfl)) (pk_cons (pe_ix ix_tup (pv 0) pe_int (fun _ _ => rfl)) (pk_cons (pe_ix ix_tup (pv 0) pe_int (fun _ _ => rfl)) pk_nil))))))))), ?_⟩
  refine ⟨_, rfl, _, _, _, _, rfl, rfl, SqT.of ha, atI_nat (j := 0) rfl, ?_⟩
  refine ⟨_, rfl, _, _, _, _, rfl, rfl, SqT.of ha, atI_nat (j := 1) rfl, ?_⟩
  refine ⟨_, rfl, _, _, _, _, rfl, rfl, SqT.of ha, atI_nat (j := 2) rfl, ?_⟩
  refine ⟨_, rfl, _, _, _, _, rfl, rfl, SqT.of ha, atI_nat (j := 3) rfl, ?_⟩
  refine ⟨_, rfl, _, _, _, _, rfl, rfl, SqT.of ha, atI_nat (j := 4) rfl, ?_⟩
  refine ⟨_, rfl, _, _, _, _, rfl, rfl, SqT.of ha, atI_nat (j := 5) rfl, ?_⟩
  refine ⟨_, rfl, _, _, _, _, rfl, rfl, SqT.of ha, atI_nat (j := 6) rfl, ?_⟩
  refine ⟨_, rfl, _, _, _, _, rfl, rfl, SqT.of ha, atI_nat (j := 7) rfl, rfl, rfl, fun x dx hx hdx ne => ?_⟩
  refine ⟨x, dx, n, ab, b, s', k, t, p, y, rfl, upd_same, rfl, ?_⟩
  have s1 : Same H (upd (upd (upd H dx (.own x)) x (.ins C dx [])) x (.ins C dx (roomF n ab b s' k t p y))) := fun c o hc => by
    rw [upd_ne (ne_of_none hc hx), upd_ne (ne_of_none hc hx), upd_ne (ne_of_none hc hdx)]
    exact hc
  exact q x _ hx s1 ⟨dx, n, ab, b, s', k, t, p, y, upd_same, hp.keep (Same.tups s1)⟩
end
end Any
namespace Any
open L2 PySem PySem.Spec PyProof.Rows LamX NdefX
/-- all but lists stay -/
def Objs (H H' : Hp) : Prop := ∀ a o, (∀ xs, o ≠ .lst xs) → H a = some o → H' a = some o
theorem Objs.tups {H H' : Hp} (k : Objs H H') : Tups H H' := fun a xs h => k a _ (fun ys z => by cases z) h
theorem Same.objs {H H' : Hp} (k : Same H H') : Objs H H' := fun a o _ h => k a o h
theorem Objs.put {H : Hp} {C : Addr} {xs ys : List V} (h : H C = some (.lst xs)) : Objs H (upd H C (.lst ys)) := fun a o n q => by
  rw [upd_ne (fun z => by rw [z, h] at q; exact n xs (Option.some.inj q).symm)]
  exact q
theorem RmAt.keepO {C : Addr} {H H' : Hp} (k : Objs H H') {x : Addr} {r : Rm} (h : RmAt C H x r) : RmAt C H' x r := by
  obtain ⟨dx, n, a, b, s, q, t, p, y, h1, h2⟩ := h
  exact ⟨dx, n, a, b, s, q, t, p, y, k _ _ (fun ys z => by cases z) h1, h2.keep k.tups⟩
/-- a program in the heap -/
def PgAt (C D : Addr) (H : Hp) (x : Addr) (rs : List Rm) : Prop := ∃ dx R p, H x = some (.ins D dx [("held", .ref R), ("drawn", .ref p)]) ∧ H p = some (.tup []) ∧ RsAt C H R rs
def spLProg (T : List NTab) (C D : Addr) : Sp := fun vs H Q _ => ∃ l as rs, vs = [.ref l] ∧ H l = some (.lst (as.map V.ref)) ∧ Paired (EightAt H) as rs ∧ Right rs ∧ TabsN T H ∧ ∀ x H', H x = none → Gr T H H' → PgAt C D H' x rs → Q (.ref x) H'
theorem paired_snoc {α β : Type} {R : α → β → Prop} : ∀ {xs : List α} {ys : List β}, Paired R xs ys → ∀ {x : α} {y : β}, R x y → Paired R (xs ++ [x]) (ys ++ [y])
  | _, _, .nil, x, y, h => .cons h .nil
  | _, _, .cons r t, x, y, h => .cons r (paired_snoc t h)
section
variable {P : Program} {w : World} {K : PySem.W.Frag} {mg : Str → Option Value} {base : Heap} {f C D md pI : Addr} {fd mdd pId : FuncData} {T_ : List NTab}
theorem ok_lprog (mt : mg "tuple" = none) (F : Fun K "_law_program" "_law_program" sLProg f fd) (G : FnOk P w K mg base CX0 3 md mdd ["_law_some"] (spMade C)) (bG : Binds K mdd ["_law_some"] []) (kG : PySem.W.keepIn K (.ref md) = true) (mG : mg "_law_made" = some (.ref md))
    (M : Mk K D pI) (mD : mg "Program" = some (.ref D)) (GP : FnOk P w K mg base CX0 30 pI pId ["self", "rooms"] (spPInit T_ C D)) (bP : Binds K pId ["self", "rooms"] []) : FnOk P w K mg base CX0 32 f fd ["_law_rooms_here"] (spLProg T_ C D) := by
  refine F.ok scLProg (fun vs H Q E h => ?_) (fun cdv A outer s H vs Q E hr h => ?_)
  · obtain ⟨l, as, rs, rfl, _⟩ := h
    rfl
  obtain ⟨l, as, rs, rfl, hl, hp, ok, hT, q⟩ := h
  have hlen := paired_len hp
  have hs : sizeLine = 16777216 := sizeLine_eq
  have hhi := ok.hi
  refine ⟨_, pss_one (ps_ret (pe_make M GP hr rfl mD bP .nil pass0 (pa_cons (pe_callTy call_tuple_of rfl mt (by decide +kernel) (pa_cons (pe_lc (own := [("_law_some", 1)]) (g := gName 1) (tt := tYes) rfl scLProg.nd (pi_list (pv 0))
    (blkOk_by (N := ["_law_rooms_here", "_law_some"]) (sc := defScope sLProg) (by decide +kernel)) (fun _ _ _ _ _ => pg_name (i := 1) scLProg.nd rfl (Or.inl rfl)) (fun _ _ _ _ _ => pts_nil)
    (fun _ _ _ _ _ => pe_call G (hr.mono (by decide)) rfl mG kG bG .nil pass0 (pa_cons (pv 1) pa_nil))) pa_nil)) pa_nil))), ?_⟩
  refine ⟨_, rfl, l, rfl, ⟨_, SqL.of hl⟩, fun c hc => ?_⟩
  refine lc_list (K := K) (a := l) (xs := as.map V.ref) (fun i Hc => ∃ xs : List Addr, Hc c = some (.lst (xs.map V.ref)) ∧ Paired (RmAt C Hc) xs (rs.take i) ∧ Same H Hc) ?_ ?_ ?_ ?_
  · exact ⟨[], upd_same, .nil, same_new hc _⟩
  · rintro i Hc _ ⟨xs, _, _, sm⟩
    exact SqL.of (sm _ _ hl)
  · rintro i v Hc hv ⟨xs, x1, x2, sm⟩
    obtain ⟨e, he, rfl⟩ := refs_at hv
    obtain ⟨r, hri, hat⟩ := paired_get hp he
    have xl := paired_len x2
    rw [List.length_take] at xl
    refine ⟨rfl, _, rfl, e, r, rfl, hat.keep (Same.tups sm), fun x H2 hx s2 hr2 => ?_⟩
    refine ⟨_, s2 _ _ x1, by rw [List.length_map]; omega, xs ++ [x], by rw [upd_same, List.map_append]; rfl, ?_, fun a o ha => ?_⟩
    · have ob := Objs.put (ys := xs.map V.ref ++ [V.ref x]) (s2 _ _ x1)
      rw [List.take_add_one, hri]
      exact paired_snoc (paired_imp (fun _ _ z => (z.keep s2).keepO ob) x2) (hr2.keepO ob)
    · rw [upd_ne (ne_of_none ha hc)]
      exact s2 _ _ (sm _ _ ha)
  · rintro Hc ⟨xs, x1, x2, sm⟩
    rw [List.length_map, hlen, List.take_length] at x2
    refine ⟨c, _, rfl, .inl ⟨SqL.of x1, fun R hR => ?_⟩⟩
    have s1 := same_new hR (.tup (xs.map V.ref))
    intro x dx hx hdx ne
    have r1 : RsAt C (upd Hc R (.tup (xs.map V.ref))) R rs := ⟨xs, upd_same, paired_imp (fun _ _ z => z.keep s1) x2⟩
    have s2 : Same (upd Hc R (.tup (xs.map V.ref))) (upd (upd (upd Hc R (.tup (xs.map V.ref))) dx (.own x)) x (.ins D dx [])) := fun a o ha => by
      rw [upd_ne (ne_of_none ha hx), upd_ne (ne_of_none ha hdx)]
      exact ha
    have g2 := Gr.of hT ((sm.trans s1).trans s2)
    have gR := Gr.of hT (sm.trans s1)
    refine ⟨x, dx, R, rs, rfl, upd_same, r1.keep s2, ok, g2.tabs, fun p H3 k3 h3 hp3 => ⟨rfl, ?_⟩⟩
    have g3 : Gr T_ (upd Hc R (.tup (xs.map V.ref))) H3 := gr_kg (Gr.of gR.tabs s2) hx k3
    exact q x H3 ((sm.trans s1).free hx) (gR.trans g3) ⟨dx, R, p, h3, hp3, r1.gr g3⟩
end
end Any
namespace Any
open L2 PySem PySem.Spec PyProof.Rows LamX NdefX
/-! ### sizes of bodies (places.py) -/
mutual
def Sg.sz : Sg → Nat
  | .ifs _ a b => 1 + a.sz + b.sz
  | .fors _ _ a => 2 + a.sz
  | .call _ _ _ => 3
  | .set _ _ => 1
  | .say _ _ => 1
  | .hear _ => 1
def Bd.sz : Bd → Nat
  | .nil => 0
  | .cons s b => s.sz + b.sz
end
theorem Bd.ok_mem {xs ws rs : List Str} : ∀ {b : Bd} {s : Sg}, b.ok xs ws rs → s ∈ b.toL → s.ok xs ws rs
  | .nil, s, _, h => by unfold Bd.toL at h; cases h
  | .cons t b, s, h, m => by
    unfold Bd.ok at h
    unfold Bd.toL at m
    rcases List.mem_cons.mp m with e | m
    · rw [e]
      exact h.1
    · exact Bd.ok_mem h.2 m
theorem Bd.sz_eq : ∀ b : Bd, b.sz = (b.toL.map Sg.sz).sum
  | .nil => by unfold Bd.sz Bd.toL; rfl
  | .cons s b => by
    unfold Bd.sz Bd.toL
    rw [List.map_cons, List.sum_cons, Bd.sz_eq b]
abbrev sBSz : Stmt := top 15
abbrev sSSz : Stmt := top 16
abbrev sBeg : Stmt := top 17
theorem scBSz : FnScope ["body", "step"] ["body"] (defScope sBSz) := ⟨rfl, rfl, rfl, by decide +kernel, rfl, by decide +kernel, by decide +kernel⟩
theorem scSSz : FnScope ["step", "kind"] ["step"] (defScope sSSz) := ⟨rfl, rfl, rfl, by decide +kernel, rfl, by decide +kernel, by decide +kernel⟩
theorem scBeg : FnScope ["body", "at", "behind"] ["body", "at", "behind"] (defScope sBeg) := ⟨rfl, rfl, rfl, by decide +kernel, rfl, by decide +kernel, by decide +kernel⟩
def spSSz (n : Nat) : Sp := fun vs H Q _ => ∃ v s xs ws rs, vs = [v] ∧ SgAt H v s ∧ s.dp ≤ n ∧ s.ok xs ws rs ∧ ∀ H', Same H H' → Q (.int s.sz) H'
def spBSz (n : Nat) : Sp := fun vs H Q _ => ∃ a b xs ws rs, vs = [.ref a] ∧ BdAt H a b ∧ b.dp ≤ n ∧ b.ok xs ws rs ∧ b.len ≤ 12 ∧ ∀ H', Same H H' → Q (.int b.sz) H'
def spBeg : Sp := fun vs H Q _ => ∃ (a : Addr) (us : List V) (i j : Int), vs = [.ref a, .int i, .int j] ∧ H a = some (.tup us) ∧ Q (.int (if us = [] then j else i)) H
theorem sum_cast : ∀ l : List Nat, (l.map fun n : Nat => (n : Int)).sum = (l.sum : Nat)
  | [] => rfl
  | n :: r => by
    rw [List.map_cons, List.sum_cons, List.sum_cons, sum_cast r]
    omega
section
variable {P : Program} {w : World} {K : PySem.W.Frag} {mg : Str → Option Value} {base : Heap} {f g : Addr} {fd gd : FuncData}
theorem ok_beg (O : Own mg) (F : Fun K "begin_of" "begin_of" sBeg f fd) : FnOk P w K mg base CX0 1 f fd ["body", "at", "behind"] spBeg := by
  refine F.ok scBeg (fun vs H Q E h => ?_) (fun cdv A outer s H vs Q E hr h => ?_)
  · obtain ⟨a, us, i, j, rfl, _⟩ := h
    rfl
  obtain ⟨a, us, i, j, rfl, ha, q⟩ := h
  refine ⟨_, pss_cons (ps_if (pt_cmpR op_eq (pe_callB call_len_seq rfl O.len PySem.boot_len (pa_cons (pv 0) pa_nil)) pe_int (nomark _)) (pss_one (ps_ret (pv 2))) pss_nil) (pss_one (ps_ret (pv 1))), ?_⟩
  refine ⟨_, rfl, a, _, rfl, .inr (SqT.of ha), rfl, _, rfl, ite2 (fun c => ?_) (fun c => ?_)⟩
  · have c := V.int.inj (of_decide_eq_true c)
    rw [if_pos (List.eq_nil_of_length_eq_zero (by omega))] at q
    exact ⟨_, rfl, q⟩
  · rw [if_neg (fun z => c (decide_eq_true (by rw [z]; rfl)))] at q
    exact ⟨_, rfl, q⟩
theorem no_ssz {k : Nat} : FnOk P w K mg base CX0 k f fd ["step"] (spSSz 0) := by
  have no : ∀ vs H Q E, ¬ spSSz 0 vs H Q E := fun vs H Q E h => by
    obtain ⟨v, s, xs, ws, rs, _, _, hd, _⟩ := h
    exact absurd hd (Nat.not_le.mpr (Sg.dp_pos s))
  exact ⟨fun vs H Q E h => absurd h (no vs H Q E), fun A outer s H args us vs Q E _ _ _ _ h => absurd h (no vs H Q E)⟩
theorem ok_bsz {n k : Nat} (O : Own mg) (F : Fun K "body_size" "body_size" sBSz f fd) (G : FnOk P w K mg base CX0 k g gd ["step"] (spSSz n)) (bG : Binds K gd ["step"] []) (kG : PySem.W.keepIn K (.ref g) = true) (mG : mg "step_size" = some (.ref g)) :
    FnOk P w K mg base CX0 (k + 1) f fd ["body"] (spBSz n) := by
  refine F.ok scBSz (fun vs H Q E h => ?_) (fun cdv A outer s H vs Q E hr h => ?_)
  · obtain ⟨a, b, xs, ws, rs, rfl, _⟩ := h
    rfl
  obtain ⟨a, b, xs, ws, rs, rfl, ⟨us, ha, hu⟩, hd, ho, hl, q⟩ := h
  have hs : sizeLine = 16777216 := sizeLine_eq
  have hn := hu.len
  have hp := hu.paired
  refine ⟨_, pss_one (ps_ret (pe_callB (cr_sum rfl) rfl O.sum (by decide +kernel) (pa_cons (pe_lc (own := [("step", 1)]) (g := gName 1) (tt := tYes) rfl scBSz.nd (pi_tup (pv 0)) (blkOk_by (N := ["body", "step"]) (sc := defScope sBSz) (by decide +kernel))
    (fun _ _ _ _ _ => pg_name (i := 1) scBSz.nd rfl (Or.inl rfl)) (fun _ _ _ _ _ => pts_nil) (fun _ _ _ _ _ => pe_call G hr rfl mG kG bG .nil pass0 (pa_cons (pv 1) pa_nil))) pa_nil))), ?_⟩
  refine ⟨_, rfl, a, rfl, ⟨_, SqT.of ha⟩, fun C hC => ?_⟩
  refine lc_tup (K := K) (a := a) (xs := us) (fun i Hc => Hc C = some (.lst ((((b.toL.take i).map Sg.sz).map fun n : Nat => (n : Int)).map V.int)) ∧ Same H Hc) ⟨upd_same, same_new hC _⟩ (fun i Hc _ z => SqT.of (z.2 _ _ ha)) ?_ ?_
  · rintro i v Hc hv ⟨hc, sm⟩
    obtain ⟨st, hst, hat⟩ := paired_get hp hv
    have hi : i < us.length := (List.getElem?_eq_some_iff.mp hv).1
    have dn : st.dp ≤ n := Nat.le_trans (Bd.dp_mem (List.mem_of_getElem? hst)) hd
    have ok2 : st.ok xs ws rs := Bd.ok_mem ho (List.mem_of_getElem? hst)
    refine ⟨rfl, _, rfl, v, st, xs, ws, rs, rfl, SgAt.keep (Same.tups sm) st hat, dn, ok2, fun H4 s4 => ⟨_, s4 _ _ hc, ?_, ?_, fun c o hco => ?_⟩⟩
    · rw [List.length_map, List.length_map, List.length_map, List.length_take]
      omega
    · rw [upd_same, List.take_add_one, hst, List.map_append, List.map_append, List.map_append]
      rfl
    · rw [upd_ne (ne_of_none hco hC)]
      exact s4 _ _ (sm _ _ hco)
  · rintro Hc ⟨hc, sm⟩
    have hl2 : us.length = b.toL.length := paired_len hp
    rw [hl2, List.take_length] at hc
    refine ⟨C, _, rfl, SqL.of hc, ?_⟩
    rw [sum_cast, ← Bd.sz_eq]
    exact q Hc sm
end
end Any
namespace Any
open L2 PySem PySem.Spec PyProof.Rows LamX NdefX
section
variable {P : Program} {w : World} {K : PySem.W.Frag} {mg : Str → Option Value} {base : Heap} {f g : Addr} {fd gd : FuncData}
theorem ok_ssz {n k : Nat} (F : Fun K "step_size" "step_size" sSSz f fd) (G : FnOk P w K mg base CX0 k g gd ["body"] (spBSz n)) (bG : Binds K gd ["body"] []) (kG : PySem.W.keepIn K (.ref g) = true) (mG : mg "body_size" = some (.ref g)) :
    FnOk P w K mg base CX0 (k + 1) f fd ["step"] (spSSz (n + 1)) := by
  refine F.ok scSSz (fun vs H Q E h => ?_) (fun cdv A outer s H vs Q E hr h => ?_)
  · obtain ⟨v, st, xs, ws, rs, rfl, _⟩ := h
    rfl
  obtain ⟨v, st, xs, ws, rs, rfl, hv, hd, ho, q⟩ := h
  refine ⟨_, pss_cons (ps_set (i := 1) scSSz.nd rfl (Or.inl rfl) (pe_ix ix_tup (pv 0) pe_int (fun _ _ => rfl)))
    (pss_cons (ps_if (pt_cmpR op_eq (pv 1) pe_str (nomark _)) (pss_one (ps_ret (pe_op op_add (pe_op op_add pe_int (pe_call G hr rfl mG kG bG .nil pass0 (pa_cons (pe_ix ix_tup (pv 0) pe_int (fun _ _ => rfl)) pa_nil))) (pe_call G hr rfl mG kG bG .nil pass0 (pa_cons (pe_ix ix_tup (pv 0) pe_int (fun _ _ => rfl)) pa_nil))))) pss_nil)
    (pss_cons (ps_if (pt_cmpR op_eq (pv 1) pe_str (nomark _)) (pss_one (ps_ret (pe_op op_add pe_int (pe_call G hr rfl mG kG bG .nil pass0 (pa_cons (pe_ix ix_tup (pv 0) pe_int (fun _ _ => rfl)) pa_nil))))) pss_nil)
    (pss_cons (ps_if (pt_cmpR op_eq (pv 1) pe_str (nomark _)) (pss_one (ps_ret pe_int)) pss_nil) (pss_one (ps_ret pe_int))))), ?_⟩
  cases st with
  | ifs t a b =>
    unfold SgAt at hv
    unfold Sg.ok at ho
    unfold Sg.dp at hd
    obtain ⟨p, u, pb, pc, bs, cs, rfl, h1, h2, h3, h4, h5, h6⟩ := hv
    refine ⟨_, rfl, _, _, _, _, rfl, rfl, SqT.of h1, atI_nat (j := 0) rfl, _, rfl, rfl, _, rfl, itT eq_str ?_⟩
    refine ⟨_, rfl, _, _, _, _, rfl, rfl, SqT.of h1, atI_nat (j := 2) rfl, pb, a, xs, ws, rs, rfl, ⟨_, h3, h4⟩, by omega, ho.2.1.1, ho.2.1.2, fun H2 s2 => ⟨_, _, rfl, rfl, ?_⟩⟩
    refine ⟨_, rfl, _, _, _, _, rfl, rfl, SqT.of (s2 _ _ h1), atI_nat (j := 3) rfl, pc, b, xs, ws, rs, rfl, ⟨_, s2 _ _ h5, BdL.keep (Same.tups s2) b h6⟩, by omega, ho.2.2.1, ho.2.2.2, fun H3 s3 => ⟨_, _, rfl, rfl, ?_⟩⟩
    have z := q H3 (s2.trans s3)
    unfold Sg.sz at z
    rw [show (((1 + a.sz + b.sz : Nat)) : Int) = 1 + (a.sz : Int) + (b.sz : Int) by omega] at z
    exact z
  | fors e m a =>
    unfold SgAt at hv
    unfold Sg.ok at ho
    unfold Sg.dp at hd
    obtain ⟨p, u, pb, bs, rfl, h1, h2, h3, h4⟩ := hv
    refine ⟨_, rfl, _, _, _, _, rfl, rfl, SqT.of h1, atI_nat (j := 0) rfl, _, rfl, rfl, _, rfl, itF (ne_str (by decide)) ?_⟩
    refine ⟨_, rfl, rfl, _, rfl, itT eq_str ?_⟩
    refine ⟨_, rfl, _, _, _, _, rfl, rfl, SqT.of h1, atI_nat (j := 3) rfl, pb, a, xs, ws, rs, rfl, ⟨_, h3, h4⟩, by omega, ho.2.2.1, ho.2.2.2, fun H2 s2 => ⟨_, _, rfl, rfl, ?_⟩⟩
    have z := q H2 s2
    unfold Sg.sz at z
    rw [show (((2 + a.sz : Nat)) : Int) = 2 + (a.sz : Int) by omega] at z
    exact z
  | call x r e =>
    unfold SgAt at hv
    obtain ⟨p, u, rfl, h1, h2⟩ := hv
    refine ⟨_, rfl, _, _, _, _, rfl, rfl, SqT.of h1, atI_nat (j := 0) rfl, _, rfl, rfl, _, rfl, itF (ne_str (by decide)) ?_⟩
    refine ⟨_, rfl, rfl, _, rfl, itF (ne_str (by decide)) ⟨_, rfl, rfl, _, rfl, itT eq_str ?_⟩⟩
    have z := q H same_refl
    unfold Sg.sz at z
    exact z
  | set x e =>
    unfold SgAt at hv
    obtain ⟨p, u, rfl, h1, h2⟩ := hv
    refine ⟨_, rfl, _, _, _, _, rfl, rfl, SqT.of h1, atI_nat (j := 0) rfl, _, rfl, rfl, _, rfl, itF (ne_str (by decide)) ?_⟩
    refine ⟨_, rfl, rfl, _, rfl, itF (ne_str (by decide)) ⟨_, rfl, rfl, _, rfl, itF (ne_str (by decide)) ?_⟩⟩
    have z := q H same_refl
    unfold Sg.sz at z
    exact z
  | say x e =>
    unfold SgAt at hv
    obtain ⟨p, u, rfl, h1, h2⟩ := hv
    refine ⟨_, rfl, _, _, _, _, rfl, rfl, SqT.of h1, atI_nat (j := 0) rfl, _, rfl, rfl, _, rfl, itF (ne_str (by decide)) ?_⟩
    refine ⟨_, rfl, rfl, _, rfl, itF (ne_str (by decide)) ⟨_, rfl, rfl, _, rfl, itF (ne_str (by decide)) ?_⟩⟩
    have z := q H same_refl
    unfold Sg.sz at z
    exact z
  | hear x =>
    unfold SgAt at hv
    obtain ⟨p, rfl, h1⟩ := hv
    refine ⟨_, rfl, _, _, _, _, rfl, rfl, SqT.of h1, atI_nat (j := 0) rfl, _, rfl, rfl, _, rfl, itF (ne_str (by decide)) ?_⟩
    refine ⟨_, rfl, rfl, _, rfl, itF (ne_str (by decide)) ⟨_, rfl, rfl, _, rfl, itF (ne_str (by decide)) ?_⟩⟩
    have z := q H same_refl
    unfold Sg.sz at z
    exact z
/-- steps that stand within one another n deep -/
theorem all_ssz (O : Own mg) (FS : Fun K "step_size" "step_size" sSSz f fd) (bS : Binds K fd ["step"] []) (mS : mg "step_size" = some (.ref f)) (FB : Fun K "body_size" "body_size" sBSz g gd) (bB : Binds K gd ["body"] []) (mB : mg "body_size" = some (.ref g)) :
    ∀ n : Nat, FnOk P w K mg base CX0 (2 * n) f fd ["step"] (spSSz n)
  | 0 => no_ssz
  | n + 1 => ok_ssz FS (ok_bsz O FB (all_ssz O FS bS mS FB bB mB n) bS FS.kp mS) bB FB.kp mB
end
end Any
namespace Any
open L2 PySem PySem.Spec PyProof.Rows LamX NdefX
/-! ### places (point 9) -/
inductive Pl
  | home (i : Int) | ifp (t : Ts) (y n : Int) | forp (k : Int) (e : Ex) (m c : Int) | chk (k b o : Int)
  | ask (x r : Str) (e : Ex) (i j : Int) | clear (r : Str) (i : Int) | again (r : Str) (i : Int)
  | set (x : Str) (e : Ex) (i : Int) | say (x : Str) (e : Ex) (i : Int) | hear (x : Str) (i : Int)
  | tell (b : Int) (e : Ex) (i : Int) | told (i : Int)
/-- a place in the heap -/
inductive PlAt (H : Hp) : V → Pl → Prop
  | home {a : Addr} {i : Int} : H a = some (.tup [.str "home", .int i]) → PlAt H (.ref a) (.home i)
  | ifp {a : Addr} {u : V} {t : Ts} {y n : Int} : H a = some (.tup [.str "if", u, .int y, .int n]) → TsAt H u t → PlAt H (.ref a) (.ifp t y n)
  | forp {a : Addr} {u : V} {e : Ex} {k m c : Int} : H a = some (.tup [.str "for", .int k, u, .int m, .int c]) → ExAt H u e → PlAt H (.ref a) (.forp k e m c)
  | chk {a : Addr} {k b o : Int} : H a = some (.tup [.str "check", .int k, .int b, .int o]) → PlAt H (.ref a) (.chk k b o)
  | ask {a : Addr} {u : V} {x r : Str} {e : Ex} {i j : Int} : H a = some (.tup [.str "ask", .str x, .str r, u, .int i, .int j]) → ExAt H u e → PlAt H (.ref a) (.ask x r e i j)
  | clear {a : Addr} {r : Str} {i : Int} : H a = some (.tup [.str "clear", .str r, .int i]) → PlAt H (.ref a) (.clear r i)
  | again {a : Addr} {r : Str} {i : Int} : H a = some (.tup [.str "again", .str r, .int i]) → PlAt H (.ref a) (.again r i)
  | set {a : Addr} {u : V} {x : Str} {e : Ex} {i : Int} : H a = some (.tup [.str "set", .str x, u, .int i]) → ExAt H u e → PlAt H (.ref a) (.set x e i)
  | say {a : Addr} {u : V} {x : Str} {e : Ex} {i : Int} : H a = some (.tup [.str "say", .str x, u, .int i]) → ExAt H u e → PlAt H (.ref a) (.say x e i)
  | hear {a : Addr} {x : Str} {i : Int} : H a = some (.tup [.str "hear", .str x, .int i]) → PlAt H (.ref a) (.hear x i)
  | tell {a : Addr} {u : V} {b : Int} {e : Ex} {i : Int} : H a = some (.tup [.str "tell", .int b, u, .int i]) → ExAt H u e → PlAt H (.ref a) (.tell b e i)
  | told {a : Addr} {i : Int} : H a = some (.tup [.str "told", .int i]) → PlAt H (.ref a) (.told i)
theorem PlAt.keep {H H' : Hp} (k : Tups H H') {v : V} {p : Pl} (h : PlAt H v p) : PlAt H' v p := by
  cases h with
  | home h => exact .home (k _ _ h)
  | ifp h g => exact .ifp (k _ _ h) (g.keep k)
  | forp h g => exact .forp (k _ _ h) (g.keep k)
  | chk h => exact .chk (k _ _ h)
  | ask h g => exact .ask (k _ _ h) (g.keep k)
  | clear h => exact .clear (k _ _ h)
  | again h => exact .again (k _ _ h)
  | set h g => exact .set (k _ _ h) (g.keep k)
  | say h g => exact .say (k _ _ h) (g.keep k)
  | hear h => exact .hear (k _ _ h)
  | tell h g => exact .tell (k _ _ h) (g.keep k)
  | told h => exact .told (k _ _ h)
/-- the places found so far -/
def FoundAt (H : Hp) (a : Addr) (ps : List Pl) : Prop := ∃ vs, H a = some (.lst vs) ∧ Paired (PlAt H) vs ps
theorem FoundAt.keep {H H' : Hp} {a : Addr} {ps : List Pl} (h : FoundAt H a ps) (s : Same H H') : FoundAt H' a ps := by
  obtain ⟨vs, h1, h2⟩ := h
  exact ⟨vs, s _ _ h1, paired_imp (fun _ _ z => z.keep (Same.tups s)) h2⟩
/-- one more place -/
theorem FoundAt.more {H : Hp} {a : Addr} {vs : List V} {ps : List Pl} {v : V} {p : Pl} (h1 : H a = some (.lst vs)) (h2 : Paired (PlAt H) vs ps) (h : PlAt H v p) : FoundAt (upd H a (.lst (vs ++ [v]))) a (ps ++ [p]) := by
  have k : Tups H (upd H a (.lst (vs ++ [v]))) := fun b xs q => by
    rw [upd_ne (ne_of q h1 (by intro z; cases z))]
    exact q
  exact ⟨_, upd_same, paired_snoc (paired_imp (fun _ _ z => z.keep k) h2) (h.keep k)⟩
abbrev sACall : Stmt := top 22
abbrev nmAC : List Str := ["found", "step", "behind", "box", "room", "expression", "ask"]
abbrev psAdd : List Str := ["found", "step", "behind"]
theorem scAC : FnScope nmAC psAdd (defScope sACall) := ⟨rfl, rfl, rfl, by decide +kernel, rfl, by decide +kernel, by decide +kernel⟩
def spACall : Sp := fun vs H Q _ => ∃ (a : Addr) (v : V) (j : Int) (x r : Str) (e : Ex) (ps : List Pl), vs = [.ref a, v, .int j] ∧ FoundAt H a ps ∧ ps.length ≤ 1000 ∧ SgAt H v (.call x r e) ∧
  ∀ H', Kept a H H' → FoundAt H' a (ps ++ [.ask x r e (ps.length + 1) (ps.length + 2)] ++ [.clear r j] ++ [.again r ps.length]) → Q .non H'
section
variable {P : Program} {w : World} {K : PySem.W.Frag} {mg : Str → Option Value} {base : Heap} {f g : Addr} {fd gd : FuncData}
theorem ok_acall (O : Own mg) (F : Fun K "add_call" "add_call" sACall f fd) : FnOk P w K mg base CX0 1 f fd psAdd spACall := by
  refine F.ok scAC (fun vs H Q E h => ?_) (fun cdv A outer s H vs Q E hr h => ?_)
  · obtain ⟨a, v, j, x, r, e, ps, rfl, _⟩ := h
    rfl
  obtain ⟨a, v, j, x, r, e, ps, rfl, ⟨vs, ha, hp⟩, hz, hv, q⟩ := h
  unfold SgAt at hv
  obtain ⟨c, u, rfl, hc, hu⟩ := hv
  have hl := paired_len hp
  have hs : sizeLine = 16777216 := sizeLine_eq
  refine ⟨_, pss_cons (ps_asg (pe_slice sl_tup (pv 1) (po_some pe_int) po_none) (pg_tup rfl (pgs_cons (pg_name (i := 3) scAC.nd rfl (Or.inl rfl)) (pgs_cons (pg_name (i := 4) scAC.nd rfl (Or.inl rfl)) (pgs_cons (pg_name (i := 5) scAC.nd rfl (Or.inl rfl)) pgs_nil)))))
    (pss_cons (ps_set (i := 6) scAC.nd rfl (Or.inl rfl) (pe_callB call_len_seq rfl O.len PySem.boot_len (pa_cons (pv 0) pa_nil)))
    (pss_cons (ps_expr (pe_bm PySem.F.plainAttrs_list PySem.F.slot_list_append PySem.F.type_list_append mt_append (pv 0) (pa_cons (pe_tup (pa_cons pe_str (pa_cons (pv 3) (pa_cons (pv 4) (pa_cons (pv 5) (pa_cons (pe_op op_add (pv 6) pe_int) (pa_cons (pe_op op_add (pv 6) pe_int) pa_nil))))))) pa_nil)))
    (pss_cons (ps_expr (pe_bm PySem.F.plainAttrs_list PySem.F.slot_list_append PySem.F.type_list_append mt_append (pv 0) (pa_cons (pe_tup (pa_cons pe_str (pa_cons (pv 4) (pa_cons (pv 2) pa_nil)))) pa_nil)))
    (pss_one (ps_expr (pe_bm PySem.F.plainAttrs_list PySem.F.slot_list_append PySem.F.type_list_append mt_append (pv 0) (pa_cons (pe_tup (pa_cons pe_str (pa_cons (pv 4) (pa_cons (pv 6) pa_nil)))) pa_nil))))))), ?_⟩
  refine ⟨_, rfl, 1, rfl, c, _, rfl, SqT.of hc, (by show ¬ (1 = 0 ∧ _); omega), fun p1 n1 => ?_⟩
  rw [cut1]
  have s1 := same_new n1 (.tup [.str x, .str r, u])
  refine ⟨p1, _, rfl, SqT.of upd_same, rfl, _, _, rfl, _, _, rfl, _, _, rfl, rfl, ?_⟩
  have ha1 := s1 _ _ ha
  have hp1 : Paired (PlAt _) vs ps := paired_imp (fun _ _ z => z.keep (Same.tups s1)) hp
  have hu1 := hu.keep (Same.tups s1)
  have k1 : Kept a H _ := Kept.of s1
  generalize upd H p1 (.tup [.str x, .str r, u]) = H1 at *
  refine ⟨_, rfl, a, _, rfl, .inl (SqL.of ha1), ?_⟩
  rw [hl]
  refine ⟨_, rfl, .inl ⟨rfl, _, SqL.of ha1⟩, _, rfl, _, rfl, _, rfl, _, rfl, _, _, rfl, rfl, _, rfl, _, _, rfl, rfl, (by show 6 ≤ sizeLine; omega), fun p2 n2 => ?_⟩
  have s2 := same_new n2 (.tup [.str "ask", .str x, .str r, u, .int ((ps.length : Int) + 1), .int ((ps.length : Int) + 2)])
  refine ⟨a, _, _, rfl, rfl, s2 _ _ ha1, by omega, ?_⟩
  have f2 := FoundAt.more (s2 _ _ ha1) (paired_imp (fun _ _ z => z.keep (Same.tups s2)) hp1) (.ask upd_same (hu1.keep (Same.tups s2)))
  have k2 := k1.trans ((Kept.of s2).trans (Kept.put (b := a) (.lst (vs ++ [.ref p2]))))
  generalize upd (upd H1 p2 (.tup [.str "ask", .str x, .str r, u, .int ((ps.length : Int) + 1), .int ((ps.length : Int) + 2)])) a (.lst (vs ++ [.ref p2])) = H2 at *
  obtain ⟨v2, h2, q2⟩ := f2
  have l2 := paired_len q2
  rw [List.length_append, List.length_singleton] at l2
  refine ⟨_, rfl, .inl ⟨rfl, _, SqL.of h2⟩, _, rfl, _, rfl, (by show 3 ≤ sizeLine; omega), fun p3 n3 => ?_⟩
  have s3 := same_new n3 (.tup [.str "clear", .str r, .int j])
  refine ⟨a, _, _, rfl, rfl, s3 _ _ h2, by omega, ?_⟩
  have f3 := FoundAt.more (s3 _ _ h2) (paired_imp (fun _ _ z => z.keep (Same.tups s3)) q2) (.clear upd_same)
  have k3 := k2.trans ((Kept.of s3).trans (Kept.put (b := a) (.lst (v2 ++ [.ref p3]))))
  generalize upd (upd H2 p3 (.tup [.str "clear", .str r, .int j])) a (.lst (v2 ++ [.ref p3])) = H3 at *
  obtain ⟨v3, h3, q3⟩ := f3
  have l3 := paired_len q3
  rw [List.length_append, List.length_append, List.length_singleton, List.length_singleton] at l3
  refine ⟨_, rfl, .inl ⟨rfl, _, SqL.of h3⟩, _, rfl, _, rfl, (by show 3 ≤ sizeLine; omega), fun p4 n4 => ?_⟩
  have s4 := same_new n4 (.tup [.str "again", .str r, .int ps.length])
  refine ⟨a, _, _, rfl, rfl, s4 _ _ h3, by omega, ?_⟩
  have f4 := FoundAt.more (s4 _ _ h3) (paired_imp (fun _ _ z => z.keep (Same.tups s4)) q3) (.again upd_same)
  exact q _ (k3.trans ((Kept.of s4).trans (Kept.put _))) f4
end
end Any
namespace Any
open L2 PySem PySem.Spec PyProof.Rows LamX NdefX
/-- where a body begins: at i, or where it has no step at j -/
def begI (b : Bd) (i j : Int) : Int := match b with
  | .nil => j
  | .cons _ _ => i
def Pl.isFor : Pl → Bool
  | .forp _ _ _ _ => true
  | _ => false
def fors (ps : List Pl) : Int := ((ps.filter Pl.isFor).length : Int)
mutual
/-- the places of a step behind those found -/
def addS (ps : List Pl) (j : Int) : Sg → List Pl
  | .ifs t a b => addB (addB (ps ++ [.ifp t (begI a (ps.length + 1) j) (begI b (ps.length + 1 + a.sz) j)]) j a) j b
  | .fors e m a => addB (ps ++ [.forp (fors ps) e m (ps.length + 1)] ++ [.chk (fors ps) (begI a (ps.length + 1 + 1) (ps.length + 1)) j]) (ps.length + 1) a
  | .call x r e => ps ++ [.ask x r e (ps.length + 1) (ps.length + 2)] ++ [.clear r j] ++ [.again r ps.length]
  | .set x e => ps ++ [.set x e j]
  | .say x e => ps ++ [.say x e j]
  | .hear x => ps ++ [.hear x j]
/-- .. of a body -/
def addB (ps : List Pl) (j : Int) : Bd → List Pl
  | .nil => ps
  | .cons s b => addB (addS ps (begI b (ps.length + s.sz) j) s) j b
end
mutual
theorem addS_len : ∀ (s : Sg) (ps : List Pl) (j : Int), (addS ps j s).length = ps.length + s.sz
  | .ifs t a b, ps, j => by
    unfold addS Sg.sz
    rw [addB_len b, addB_len a, List.length_append, List.length_singleton]
    omega
  | .fors e m a, ps, j => by
    unfold addS Sg.sz
    rw [addB_len a, List.length_append, List.length_append, List.length_singleton, List.length_singleton]
    omega
  | .call x r e, ps, j => by
    unfold addS Sg.sz
    rw [List.length_append, List.length_append, List.length_append, List.length_singleton, List.length_singleton, List.length_singleton]
  | .set x e, ps, j => by
    unfold addS Sg.sz
    rw [List.length_append, List.length_singleton]
  | .say x e, ps, j => by
    unfold addS Sg.sz
    rw [List.length_append, List.length_singleton]
  | .hear x, ps, j => by
    unfold addS Sg.sz
    rw [List.length_append, List.length_singleton]
theorem addB_len : ∀ (b : Bd) (ps : List Pl) (j : Int), (addB ps j b).length = ps.length + b.sz
  | .nil, ps, j => by
    unfold addB Bd.sz
    rfl
  | .cons s b, ps, j => by
    unfold addB Bd.sz
    rw [addB_len b, addS_len s]
    omega
end
end Any
namespace Any
open L2 PySem PySem.Spec PyProof.Rows LamX NdefX
def spAB (n : Nat) : Sp := fun vs H Q _ => ∃ (a c : Addr) (j : Int) (b : Bd) (ps : List Pl) (xs ws rs : List Str), vs = [.ref a, .ref c, .int j] ∧ FoundAt H a ps ∧ BdAt H c b ∧ b.dp ≤ n ∧ b.ok xs ws rs ∧ b.len ≤ 12 ∧ ps.length + b.sz ≤ 1000 ∧
  ∀ H', Kept a H H' → FoundAt H' a (addB ps j b) → Q .non H'
def spAS (n : Nat) : Sp := fun vs H Q _ => ∃ (a : Addr) (v : V) (j : Int) (s : Sg) (ps : List Pl) (xs ws rs : List Str), vs = [.ref a, v, .int j] ∧ FoundAt H a ps ∧ SgAt H v s ∧ s.dp ≤ n ∧ s.ok xs ws rs ∧ ps.length + s.sz ≤ 1000 ∧
  ∀ H', Kept a H H' → FoundAt H' a (addS ps j s) → Q .non H'
/-- .. of a step that is an if -/
def spAIf (n : Nat) : Sp := fun vs H Q _ => ∃ (a : Addr) (v : V) (j : Int) (t : Ts) (p q : Bd) (ps : List Pl) (xs ws rs : List Str), vs = [.ref a, v, .int j] ∧ FoundAt H a ps ∧ SgAt H v (.ifs t p q) ∧ Sg.dp (.ifs t p q) ≤ n + 1 ∧ Sg.ok xs ws rs (.ifs t p q) ∧ ps.length + Sg.sz (.ifs t p q) ≤ 1000 ∧
  ∀ H', Kept a H H' → FoundAt H' a (addS ps j (.ifs t p q)) → Q .non H'
theorem beg_eq {H : Hp} {b : Bd} {us : List V} (h : BdL H us b) (i j : Int) : (if us = [] then j else i) = begI b i j := by
  cases b with
  | nil =>
    unfold BdL at h
    rw [if_pos h]
    rfl
  | cons s b =>
    unfold BdL at h
    obtain ⟨v, vs, rfl, _⟩ := h
    rw [if_neg (by simp)]
    rfl
theorem FoundAt.tups {H H' : Hp} {a : Addr} {ps : List Pl} (h : FoundAt H a ps) (k : Kept a H H') : Tups H H' := by
  obtain ⟨vs, h1, _⟩ := h
  exact k.tups h1
abbrev sAIf : Stmt := top 20
abbrev nmAI : List Str := ["found", "step", "behind", "test", "first", "second", "begin", "yes", "no"]
theorem scAI : FnScope nmAI psAdd (defScope sAIf) := ⟨rfl, rfl, rfl, by decide +kernel, rfl, by decide +kernel, by decide +kernel⟩
section
variable {P : Program} {w : World} {K : PySem.W.Frag} {mg : Str → Option Value} {base : Heap} {f g1 g2 g3 : Addr} {fd d1 d2 d3 : FuncData}
theorem ok_aif {n k : Nat} (O : Own mg) (F : Fun K "add_if" "add_if" sAIf f fd) (GB : FnOk P w K mg base CX0 k g1 d1 ["body", "at", "behind"] spBeg) (bB : Binds K d1 ["body", "at", "behind"] []) (kB : PySem.W.keepIn K (.ref g1) = true) (mB : mg "begin_of" = some (.ref g1))
    (GS : FnOk P w K mg base CX0 k g2 d2 ["body"] (spBSz n)) (bS : Binds K d2 ["body"] []) (kS : PySem.W.keepIn K (.ref g2) = true) (mS : mg "body_size" = some (.ref g2))
    (GA : FnOk P w K mg base CX0 k g3 d3 ["found", "body", "behind"] (spAB n)) (bA : Binds K d3 ["found", "body", "behind"] []) (kA : PySem.W.keepIn K (.ref g3) = true) (mA : mg "add_body" = some (.ref g3)) :
    FnOk P w K mg base CX0 (k + 1) f fd psAdd (spAIf n) := by
  refine F.ok scAI (fun vs H Q E h => ?_) (fun cdv A outer s H vs Q E hr h => ?_)
  · obtain ⟨a, v, j, t, p, q, ps, xs, ws, rs, rfl, _⟩ := h
    rfl
  obtain ⟨a, v, j, t, p, b, ps, xs, ws, rs, rfl, hF, hv, hd, ho, hz, q⟩ := h
  unfold SgAt at hv
  unfold Sg.dp at hd
  unfold Sg.ok at ho
  unfold Sg.sz at hz
  unfold addS at q
  obtain ⟨c, u, pb, pc, bs, cs, rfl, h1, h2, h3, h4, h5, h6⟩ := hv
  have hs : sizeLine = 16777216 := sizeLine_eq
  refine ⟨_, pss_cons (ps_asg (pe_slice sl_tup (pv 1) (po_some pe_int) po_none) (pg_tup rfl (pgs_cons (pg_name (i := 3) scAI.nd rfl (Or.inl rfl)) (pgs_cons (pg_name (i := 4) scAI.nd rfl (Or.inl rfl)) (pgs_cons (pg_name (i := 5) scAI.nd rfl (Or.inl rfl)) pgs_nil)))))
    (pss_cons (ps_set (i := 6) scAI.nd rfl (Or.inl rfl) (pe_op op_add (pe_callB call_len_seq rfl O.len PySem.boot_len (pa_cons (pv 0) pa_nil)) pe_int))
    (pss_cons (ps_set (i := 7) scAI.nd rfl (Or.inl rfl) (pe_call GB hr rfl mB kB bB .nil pass0 (pa_cons (pv 4) (pa_cons (pv 6) (pa_cons (pv 2) pa_nil)))))
    (pss_cons (ps_set (i := 8) scAI.nd rfl (Or.inl rfl) (pe_call GB hr rfl mB kB bB .nil pass0 (pa_cons (pv 5) (pa_cons (pe_op op_add (pv 6) (pe_call GS hr rfl mS kS bS .nil pass0 (pa_cons (pv 4) pa_nil))) (pa_cons (pv 2) pa_nil)))))
    (pss_cons (ps_expr (pe_bm PySem.F.plainAttrs_list PySem.F.slot_list_append PySem.F.type_list_append mt_append (pv 0) (pa_cons (pe_tup (pa_cons pe_str (pa_cons (pv 3) (pa_cons (pv 7) (pa_cons (pv 8) pa_nil))))) pa_nil)))
    (pss_cons (ps_expr (pe_call GA hr rfl mA kA bA .nil pass0 (pa_cons (pv 0) (pa_cons (pv 4) (pa_cons (pv 2) pa_nil)))))
    (pss_one (ps_expr (pe_call GA hr rfl mA kA bA .nil pass0 (pa_cons (pv 0) (pa_cons (pv 5) (pa_cons (pv 2) pa_nil))))))))))), ?_⟩
  refine ⟨_, rfl, 1, rfl, c, _, rfl, SqT.of h1, (by show ¬ (1 = 0 ∧ _); omega), fun p1 n1 => ?_⟩
  rw [cut1]
  have s1 := same_new n1 (.tup [u, .ref pb, .ref pc])
  refine ⟨p1, _, rfl, SqT.of upd_same, rfl, _, _, rfl, _, _, rfl, _, _, rfl, rfl, ?_⟩
  have F1 := hF.keep s1
  have t1 := h2.keep (Same.tups s1)
  have e3 := s1 _ _ h3
  have e5 := s1 _ _ h5
  have b4 := BdL.keep (Same.tups s1) p h4
  have b6 := BdL.keep (Same.tups s1) b h6
  have k1 : Kept a H _ := Kept.of s1
  generalize upd H p1 (.tup [u, .ref pb, .ref pc]) = H1 at *
  obtain ⟨vs, ha, hp⟩ := id F1
  have hl := paired_len hp
  refine ⟨_, rfl, a, _, rfl, .inl (SqL.of ha), _, _, rfl, rfl, ?_⟩
  rw [hl]
  refine ⟨_, rfl, _, rfl, _, rfl, pb, bs, _, _, rfl, e3, ?_⟩
  rw [beg_eq b4]
  refine ⟨_, rfl, _, rfl, _, rfl, pb, p, xs, ws, rs, rfl, ⟨_, e3, b4⟩, by omega, ho.2.1.1, ho.2.1.2, fun H2 s2 => ⟨_, _, rfl, rfl, _, rfl, pc, cs, _, _, rfl, s2 _ _ e5, ?_⟩⟩
  rw [beg_eq (BdL.keep (Same.tups s2) b b6)]
  refine ⟨_, rfl, .inl ⟨rfl, _, SqL.of (s2 _ _ ha)⟩, _, rfl, _, rfl, _, rfl, (by show 4 ≤ sizeLine; omega), fun p3 n3 => ?_⟩
  have s3 := s2.trans (same_new n3 (.tup [.str "if", u, .int (begI p (ps.length + 1) j), .int (begI b (ps.length + 1 + p.sz) j)]))
  refine ⟨a, _, _, rfl, rfl, s3 _ _ ha, by omega, ?_⟩
  have f3 := FoundAt.more (s3 _ _ ha) (paired_imp (fun _ _ z => z.keep (Same.tups s3)) hp) (.ifp upd_same (t1.keep (Same.tups s3)))
  have k3 : Kept a H1 _ := (Kept.of s3).trans (Kept.put (b := a) (.lst (vs ++ [.ref p3])))
  generalize upd (upd H2 p3 (.tup [.str "if", u, .int (begI p (ps.length + 1) j), .int (begI b (ps.length + 1 + p.sz) j)])) a (.lst (vs ++ [.ref p3])) = H3 at *
  have t3 : Tups H1 H3 := F1.tups k3
  refine ⟨_, rfl, _, rfl, _, rfl, a, pb, j, p, _, xs, ws, rs, rfl, f3, ⟨_, t3 _ _ e3, BdL.keep t3 p b4⟩, by omega, ho.2.1.1, ho.2.1.2, by rw [List.length_append, List.length_singleton]; omega, fun H4 k4 f4 => ?_⟩
  have t4 : Tups H1 H4 := fun y zs hy => f3.tups k4 _ _ (t3 _ _ hy)
  refine ⟨_, rfl, _, rfl, _, rfl, a, pc, j, b, _, xs, ws, rs, rfl, f4, ⟨_, t4 _ _ e5, BdL.keep t4 b b6⟩, by omega, ho.2.2.1, ho.2.2.2, by rw [addB_len, List.length_append, List.length_singleton]; omega, fun H5 k5 f5 => ?_⟩
  exact q H5 (k1.trans (k3.trans (k4.trans k5))) f5
end
end Any
namespace Any
open L2 PySem PySem.Spec PyProof.Rows LamX NdefX
/-- .. of a step that is a for -/
def spAFor (n : Nat) : Sp := fun vs H Q _ => ∃ (a : Addr) (v : V) (j : Int) (e : Ex) (m : Int) (p : Bd) (ps : List Pl) (xs ws rs : List Str), vs = [.ref a, v, .int j] ∧ FoundAt H a ps ∧ SgAt H v (.fors e m p) ∧ Sg.dp (.fors e m p) ≤ n + 1 ∧ Sg.ok xs ws rs (.fors e m p) ∧ ps.length + Sg.sz (.fors e m p) ≤ 1000 ∧
  ∀ H', Kept a H H' → FoundAt H' a (addS ps j (.fors e m p)) → Q .non H'
/-- the word of a place -/
def Pl.word : Pl → Str
  | .home _ => "home" | .ifp _ _ _ => "if" | .forp _ _ _ _ => "for" | .chk _ _ _ => "check" | .ask _ _ _ _ _ => "ask" | .clear _ _ => "clear" | .again _ _ => "again"
  | .set _ _ _ => "set" | .say _ _ _ => "say" | .hear _ _ => "hear" | .tell _ _ _ => "tell" | .told _ => "told"
theorem PlAt.first {H : Hp} {v : V} {p : Pl} (h : PlAt H v p) : ∃ a xs, v = .ref a ∧ H a = some (.tup (.str p.word :: xs)) := by
  cases h with
  | home h => exact ⟨_, _, rfl, h⟩
  | ifp h g => exact ⟨_, _, rfl, h⟩
  | forp h g => exact ⟨_, _, rfl, h⟩
  | chk h => exact ⟨_, _, rfl, h⟩
  | ask h g => exact ⟨_, _, rfl, h⟩
  | clear h => exact ⟨_, _, rfl, h⟩
  | again h => exact ⟨_, _, rfl, h⟩
  | set h g => exact ⟨_, _, rfl, h⟩
  | say h g => exact ⟨_, _, rfl, h⟩
  | hear h => exact ⟨_, _, rfl, h⟩
  | tell h g => exact ⟨_, _, rfl, h⟩
  | told h => exact ⟨_, _, rfl, h⟩
theorem Pl.word_for (p : Pl) : decide (V.str p.word = V.str "for") = p.isFor := by
  cases p <;> first | exact eq_str | (refine ne_str ?_; simp only [Pl.word]; decide)
/-- which of the places are fors -/
def forG : List V → List Pl → List (Option V)
  | v :: vs, p :: ps => (if p.isFor = true then some v else none) :: forG vs ps
  | _, _ => []
theorem forG_len {H : Hp} : ∀ {vs : List V} {ps : List Pl}, Paired (PlAt H) vs ps → (forG vs ps).length = vs.length
  | _, _, .nil => rfl
  | _, _, .cons _ t => by
    unfold forG
    rw [List.length_cons, List.length_cons, forG_len t]
theorem forG_fm {H : Hp} : ∀ {vs : List V} {ps : List Pl}, Paired (PlAt H) vs ps → (((forG vs ps).filterMap id).length : Int) = fors ps
  | _, _, .nil => rfl
  | _, _, .cons (a := v) (b := p) _ t => by
    have ih := forG_fm t
    rw [show ∀ vs ps, forG (v :: vs) (p :: ps) = (if p.isFor = true then some v else none) :: forG vs ps from fun _ _ => rfl]
    unfold fors at ih ⊢
    cases e : p.isFor with
    | true =>
      rw [if_pos rfl, List.filterMap_cons, List.filter_cons, if_pos e]
      simp only [id, List.length_cons]
      omega
    | false =>
      rw [if_neg (by decide), List.filterMap_cons, List.filter_cons, if_neg (by rw [e]; decide)]
      exact ih
theorem forG_at {H : Hp} : ∀ {vs : List V} {ps : List Pl}, Paired (PlAt H) vs ps → ∀ {i : Nat} {v : V} {o : Option V}, vs[i]? = some v → (forG vs ps)[i]? = some o → ∃ p, PlAt H v p ∧ o = if p.isFor = true then some v else none
  | _, _, .nil, i, v, o, h, _ => by simp at h
  | _, _, .cons (b := p) r t, 0, v, o, h, g => by
    cases h
    unfold forG at g
    cases g
    exact ⟨p, r, rfl⟩
  | _, _, .cons r t, i + 1, v, o, h, g => by
    unfold forG at g
    exact forG_at t (i := i) h g
end Any
namespace Any
open L2 PySem PySem.Spec PyProof.Rows LamX NdefX
abbrev sAFor : Stmt := top 21
abbrev nmAF : List Str := ["found", "step", "behind", "expression", "most", "body", "number", "check", "place"]
theorem scAF : FnScope nmAF psAdd (defScope sAFor) := ⟨rfl, rfl, rfl, by decide +kernel, rfl, by decide +kernel, by decide +kernel⟩
section
variable {P : Program} {w : World} {K : PySem.W.Frag} {mg : Str → Option Value} {base : Heap} {f g1 g3 : Addr} {fd d1 d3 : FuncData}
theorem ok_afor {n k : Nat} (O : Own mg) (F : Fun K "add_for" "add_for" sAFor f fd) (GB : FnOk P w K mg base CX0 k g1 d1 ["body", "at", "behind"] spBeg) (bB : Binds K d1 ["body", "at", "behind"] []) (kB : PySem.W.keepIn K (.ref g1) = true) (mB : mg "begin_of" = some (.ref g1))
    (GA : FnOk P w K mg base CX0 k g3 d3 ["found", "body", "behind"] (spAB n)) (bA : Binds K d3 ["found", "body", "behind"] []) (kA : PySem.W.keepIn K (.ref g3) = true) (mA : mg "add_body" = some (.ref g3)) :
    FnOk P w K mg base CX0 (k + 1) f fd psAdd (spAFor n) := by
  refine F.ok scAF (fun vs H Q E h => ?_) (fun cdv A outer s H vs Q E hr h => ?_)
  · obtain ⟨a, v, j, e, m, p, ps, xs, ws, rs, rfl, _⟩ := h
    rfl
  obtain ⟨a, v, j, e, m, p, ps, xs, ws, rs, rfl, hF, hv, hd, ho, hz, q⟩ := h
  unfold SgAt at hv
  unfold Sg.dp at hd
  unfold Sg.ok at ho
  unfold Sg.sz at hz
  unfold addS at q
  obtain ⟨c, u, pb, bs, rfl, h1, h2, h3, h4⟩ := hv
  have hs : sizeLine = 16777216 := sizeLine_eq
  refine ⟨_, pss_cons (ps_asg (pe_slice sl_tup (pv 1) (po_some pe_int) po_none) (pg_tup rfl (pgs_cons (pg_name (i := 3) scAF.nd rfl (Or.inl rfl)) (pgs_cons (pg_name (i := 4) scAF.nd rfl (Or.inl rfl)) (pgs_cons (pg_name (i := 5) scAF.nd rfl (Or.inl rfl)) pgs_nil)))))
    (pss_cons (ps_set (i := 6) scAF.nd rfl (Or.inl rfl) (pe_callB call_len_seq rfl O.len PySem.boot_len (pa_cons (pe_lc (own := [("place", 8)]) (g := gName 8) rfl scAF.nd (pi_list (pv 0)) (blkOk_by (N := nmAF) (sc := defScope sAFor) (by decide +kernel))
        (fun _ _ _ _ _ => pg_name (i := 8) scAF.nd rfl (Or.inl rfl)) (fun _ _ _ _ _ => pts_one (pt_cmpR op_eq (pe_ix (show IxR _ (rIxT K) from ix_tup) (pv 8) pe_int (fun _ _ => rfl)) pe_str (nomark _))) (fun _ _ _ _ _ => pv 8)) pa_nil)))
    (pss_cons (ps_set (i := 7) scAF.nd rfl (Or.inl rfl) (pe_op op_add (pe_callB call_len_seq rfl O.len PySem.boot_len (pa_cons (pv 0) pa_nil)) pe_int))
    (pss_cons (ps_expr (pe_bm PySem.F.plainAttrs_list PySem.F.slot_list_append PySem.F.type_list_append mt_append (pv 0) (pa_cons (pe_tup (pa_cons pe_str (pa_cons (pv 6) (pa_cons (pv 3) (pa_cons (pv 4) (pa_cons (pv 7) pa_nil)))))) pa_nil)))
    (pss_cons (ps_expr (pe_bm PySem.F.plainAttrs_list PySem.F.slot_list_append PySem.F.type_list_append mt_append (pv 0) (pa_cons (pe_tup (pa_cons pe_str (pa_cons (pv 6) (pa_cons (pe_call GB hr rfl mB kB bB .nil pass0 (pa_cons (pv 5) (pa_cons (pe_op op_add (pv 7) pe_int) (pa_cons (pv 7) pa_nil)))) (pa_cons (pv 2) pa_nil))))) pa_nil)))
    (pss_one (ps_expr (pe_call GA hr rfl mA kA bA .nil pass0 (pa_cons (pv 0) (pa_cons (pv 5) (pa_cons (pv 7) pa_nil)))))))))), ?_⟩
  refine ⟨_, rfl, 1, rfl, c, _, rfl, SqT.of h1, (by show ¬ (1 = 0 ∧ _); omega), fun p1 n1 => ?_⟩
  rw [cut1]
  have s1 := same_new n1 (.tup [u, .int m, .ref pb])
  refine ⟨p1, _, rfl, SqT.of upd_same, rfl, _, _, rfl, _, _, rfl, _, _, rfl, rfl, ?_⟩
  have F1 := hF.keep s1
  have t1 := h2.keep (Same.tups s1)
  have e3 := s1 _ _ h3
  have b4 := BdL.keep (Same.tups s1) p h4
  have k1 : Kept a H _ := Kept.of s1
  generalize upd H p1 (.tup [u, .int m, .ref pb]) = H1 at *
  obtain ⟨vs, ha, hp⟩ := id F1
  have hl := paired_len hp
  refine ⟨_, rfl, a, rfl, ⟨_, SqL.of ha⟩, fun C hC => ?_⟩
  refine turns_list (K := K) (a := a) (xs := vs) (forG vs ps) hC (fun Hc sm => SqL.of (sm _ _ ha)) (forG_len hp) (by omega) ?_ ?_
  · intro i z o Hc Y N hz2 ho2 sm hY hN
    obtain ⟨pl, hat, eo⟩ := forG_at hp hz2 ho2
    obtain ⟨b, zs, rfl, hb⟩ := hat.first
    refine ⟨rfl, _, rfl, b, _, _, _, rfl, rfl, SqT.of (sm _ _ hb), atI_nat (j := 0) rfl, rfl, _, rfl, ?_⟩
    rw [Pl.word_for]
    cases e8 : pl.isFor with
    | true =>
      rw [e8, if_pos rfl] at eo
      exact itT rfl ⟨_, rfl, hY _ eo Hc same_refl⟩
    | false =>
      rw [e8, if_neg (by decide)] at eo
      exact itF rfl (hN eo Hc same_refl)
  intro H2 hc2 s2
  refine ⟨C, _, rfl, .inl (SqL.of hc2), ?_⟩
  rw [forG_fm hp]
  refine ⟨_, rfl, a, _, rfl, .inl (SqL.of (s2 _ _ ha)), _, _, rfl, rfl, ?_⟩
  rw [hl]
  refine ⟨_, rfl, .inl ⟨rfl, _, SqL.of (s2 _ _ ha)⟩, _, rfl, _, rfl, _, rfl, _, rfl, (by show 5 ≤ sizeLine; omega), fun p3 n3 => ?_⟩
  have s3 := s2.trans (same_new n3 (.tup [.str "for", .int (fors ps), u, .int m, .int (ps.length + 1)]))
  refine ⟨a, _, _, rfl, rfl, s3 _ _ ha, by omega, ?_⟩
  have f3 := FoundAt.more (s3 _ _ ha) (paired_imp (fun _ _ z => z.keep (Same.tups s3)) hp) (.forp upd_same (t1.keep (Same.tups s3)))
  have k3 : Kept a H1 _ := (Kept.of s3).trans (Kept.put (b := a) (.lst (vs ++ [.ref p3])))
  generalize upd (upd H2 p3 (.tup [.str "for", .int (fors ps), u, .int m, .int (ps.length + 1)])) a (.lst (vs ++ [.ref p3])) = H3 at *
  have t3 : Tups H1 H3 := F1.tups k3
  obtain ⟨v3, hv3, hp3⟩ := id f3
  have l3 := paired_len hp3
  rw [List.length_append, List.length_singleton] at l3
  refine ⟨_, rfl, .inl ⟨rfl, _, SqL.of hv3⟩, _, rfl, _, rfl, _, rfl, _, _, rfl, rfl, _, rfl, pb, bs, _, _, rfl, t3 _ _ e3, ?_⟩
  rw [beg_eq b4]
  refine ⟨_, rfl, (by show 4 ≤ sizeLine; omega), fun p4 n4 => ?_⟩
  have s4 := same_new n4 (.tup [.str "check", .int (fors ps), .int (begI p (ps.length + 1 + 1) (ps.length + 1)), .int j])
  refine ⟨a, _, _, rfl, rfl, s4 _ _ hv3, by omega, ?_⟩
  have f4 := FoundAt.more (s4 _ _ hv3) (paired_imp (fun _ _ z => z.keep (Same.tups s4)) hp3) (.chk upd_same)
  have k4 : Kept a H3 _ := (Kept.of s4).trans (Kept.put (b := a) (.lst (v3 ++ [.ref p4])))
  generalize upd (upd H3 p4 (.tup [.str "check", .int (fors ps), .int (begI p (ps.length + 1 + 1) (ps.length + 1)), .int j])) a (.lst (v3 ++ [.ref p4])) = H4 at *
  have t4 : Tups H1 H4 := fun y zs hy => f3.tups k4 _ _ (t3 _ _ hy)
  refine ⟨_, rfl, _, rfl, _, rfl, a, pb, _, p, _, xs, ws, rs, rfl, f4, ⟨_, t4 _ _ e3, BdL.keep t4 p b4⟩, by omega, ho.2.2.1, ho.2.2.2, by rw [List.length_append, List.length_append, List.length_singleton, List.length_singleton]; omega, fun H5 k5 f5 => ?_⟩
  exact q H5 (k1.trans (k3.trans (k4.trans k5))) f5
end
end Any
namespace Any
open L2 PySem PySem.Spec PyProof.Rows LamX NdefX
abbrev sAStep : Stmt := top 19
abbrev nmAS : List Str := ["found", "step", "behind", "kind"]
theorem scAS : FnScope nmAS psAdd (defScope sAStep) := ⟨rfl, rfl, rfl, by decide +kernel, rfl, by decide +kernel, by decide +kernel⟩
section
variable {P : Program} {w : World} {K : PySem.W.Frag} {mg : Str → Option Value} {base : Heap} {f g1 g2 g3 : Addr} {fd d1 d2 d3 : FuncData}
theorem ok_astep {n k : Nat} (F : Fun K "add_step" "add_step" sAStep f fd) (G1 : FnOk P w K mg base CX0 k g1 d1 psAdd (spAIf n)) (b1 : Binds K d1 psAdd []) (k1 : PySem.W.keepIn K (.ref g1) = true) (m1 : mg "add_if" = some (.ref g1))
    (G2 : FnOk P w K mg base CX0 k g2 d2 psAdd (spAFor n)) (b2 : Binds K d2 psAdd []) (k2 : PySem.W.keepIn K (.ref g2) = true) (m2 : mg "add_for" = some (.ref g2))
    (G3 : FnOk P w K mg base CX0 k g3 d3 psAdd spACall) (b3 : Binds K d3 psAdd []) (k3 : PySem.W.keepIn K (.ref g3) = true) (m3 : mg "add_call" = some (.ref g3)) :
    FnOk P w K mg base CX0 (k + 1) f fd psAdd (spAS (n + 1)) := by
  refine F.ok scAS (fun vs H Q E h => ?_) (fun cdv A outer s H vs Q E hr h => ?_)
  · obtain ⟨a, v, j, st, ps, xs, ws, rs, rfl, _⟩ := h
    rfl
  obtain ⟨a, v, j, st, ps, xs, ws, rs, rfl, hF, hv, hd, ho, hz, q⟩ := h
  have hs : sizeLine = 16777216 := sizeLine_eq
  obtain ⟨vs, ha, hp⟩ := id hF
  have hl := paired_len hp
  refine ⟨_, pss_cons (ps_set (i := 3) scAS.nd rfl (Or.inl rfl) (pe_ix ix_tup (pv 1) pe_int (fun _ _ => rfl)))
    (pss_one (ps_if (pt_cmpR op_eq (pv 3) pe_str (nomark _)) (pss_one (ps_expr (pe_call G1 hr rfl m1 k1 b1 .nil pass0 (pa_cons (pv 0) (pa_cons (pv 1) (pa_cons (pv 2) pa_nil))))))
    (pss_one (ps_if (pt_cmpR op_eq (pv 3) pe_str (nomark _)) (pss_one (ps_expr (pe_call G2 hr rfl m2 k2 b2 .nil pass0 (pa_cons (pv 0) (pa_cons (pv 1) (pa_cons (pv 2) pa_nil))))))
    (pss_one (ps_if (pt_cmpR op_eq (pv 3) pe_str (nomark _)) (pss_one (ps_expr (pe_call G3 hr rfl m3 k3 b3 .nil pass0 (pa_cons (pv 0) (pa_cons (pv 1) (pa_cons (pv 2) pa_nil))))))
    (pss_one (ps_expr (pe_bm PySem.F.plainAttrs_list PySem.F.slot_list_append PySem.F.type_list_append mt_append (pv 0) (pa_cons (pe_tup (StX.pa_star (pv 1) (pa_cons (pv 2) pa_nil))) pa_nil)))))))))), ?_⟩
  have keep := hv
  cases st with
  | ifs t p b =>
    unfold SgAt at hv
    obtain ⟨c, u, pb, pc, bs, cs, rfl, h1, _⟩ := hv
    refine ⟨_, rfl, _, _, _, _, rfl, rfl, SqT.of h1, atI_nat (j := 0) rfl, _, rfl, rfl, _, rfl, itT eq_str ?_⟩
    exact ⟨_, rfl, _, rfl, _, rfl, a, .ref c, j, t, p, b, ps, xs, ws, rs, rfl, hF, keep, hd, ho, hz, q⟩
  | fors e m p =>
    unfold SgAt at hv
    obtain ⟨c, u, pb, bs, rfl, h1, _⟩ := hv
    refine ⟨_, rfl, _, _, _, _, rfl, rfl, SqT.of h1, atI_nat (j := 0) rfl, _, rfl, rfl, _, rfl, itF (ne_str (by decide)) ⟨_, rfl, rfl, _, rfl, itT eq_str ?_⟩⟩
    exact ⟨_, rfl, _, rfl, _, rfl, a, .ref c, j, e, m, p, ps, xs, ws, rs, rfl, hF, keep, hd, ho, hz, q⟩
  | call x r e =>
    unfold SgAt at hv
    unfold Sg.sz at hz
    unfold addS at q
    obtain ⟨c, u, rfl, h1, _⟩ := hv
    refine ⟨_, rfl, _, _, _, _, rfl, rfl, SqT.of h1, atI_nat (j := 0) rfl, _, rfl, rfl, _, rfl, itF (ne_str (by decide)) ⟨_, rfl, rfl, _, rfl, itF (ne_str (by decide)) ⟨_, rfl, rfl, _, rfl, itT eq_str ?_⟩⟩⟩
    exact ⟨_, rfl, _, rfl, _, rfl, a, .ref c, j, x, r, e, ps, rfl, hF, by omega, keep, q⟩
  | set x e =>
    unfold SgAt at hv
    unfold Sg.sz at hz
    unfold addS at q
    obtain ⟨c, u, rfl, h1, h2⟩ := hv
    refine ⟨_, rfl, _, _, _, _, rfl, rfl, SqT.of h1, atI_nat (j := 0) rfl, _, rfl, rfl, _, rfl, itF (ne_str (by decide)) ⟨_, rfl, rfl, _, rfl, itF (ne_str (by decide)) ⟨_, rfl, rfl, _, rfl, itF (ne_str (by decide)) ?_⟩⟩⟩
    refine ⟨_, rfl, .inl ⟨rfl, _, SqL.of ha⟩, _, rfl, c, _, rfl, .inl (SqT.of h1), _, rfl, (by show 4 ≤ sizeLine; omega), fun p3 n3 => ?_⟩
    have s3 := same_new n3 (.tup [.str "set", .str x, u, .int j])
    refine ⟨a, _, _, rfl, rfl, s3 _ _ ha, by omega, ?_⟩
    exact q _ ((Kept.of s3).trans (Kept.put _)) (FoundAt.more (s3 _ _ ha) (paired_imp (fun _ _ z => z.keep (Same.tups s3)) hp) (.set upd_same (h2.keep (Same.tups s3))))
  | say x e =>
    unfold SgAt at hv
    unfold Sg.sz at hz
    unfold addS at q
    obtain ⟨c, u, rfl, h1, h2⟩ := hv
    refine ⟨_, rfl, _, _, _, _, rfl, rfl, SqT.of h1, atI_nat (j := 0) rfl, _, rfl, rfl, _, rfl, itF (ne_str (by decide)) ⟨_, rfl, rfl, _, rfl, itF (ne_str (by decide)) ⟨_, rfl, rfl, _, rfl, itF (ne_str (by decide)) ?_⟩⟩⟩
    refine ⟨_, rfl, .inl ⟨rfl, _, SqL.of ha⟩, _, rfl, c, _, rfl, .inl (SqT.of h1), _, rfl, (by show 4 ≤ sizeLine; omega), fun p3 n3 => ?_⟩
    have s3 := same_new n3 (.tup [.str "say", .str x, u, .int j])
    refine ⟨a, _, _, rfl, rfl, s3 _ _ ha, by omega, ?_⟩
    exact q _ ((Kept.of s3).trans (Kept.put _)) (FoundAt.more (s3 _ _ ha) (paired_imp (fun _ _ z => z.keep (Same.tups s3)) hp) (.say upd_same (h2.keep (Same.tups s3))))
  | hear x =>
    unfold SgAt at hv
    unfold Sg.sz at hz
    unfold addS at q
    obtain ⟨c, rfl, h1⟩ := hv
    refine ⟨_, rfl, _, _, _, _, rfl, rfl, SqT.of h1, atI_nat (j := 0) rfl, _, rfl, rfl, _, rfl, itF (ne_str (by decide)) ⟨_, rfl, rfl, _, rfl, itF (ne_str (by decide)) ⟨_, rfl, rfl, _, rfl, itF (ne_str (by decide)) ?_⟩⟩⟩
    refine ⟨_, rfl, .inl ⟨rfl, _, SqL.of ha⟩, _, rfl, c, _, rfl, .inl (SqT.of h1), _, rfl, (by show 3 ≤ sizeLine; omega), fun p3 n3 => ?_⟩
    have s3 := same_new n3 (.tup [.str "hear", .str x, .int j])
    refine ⟨a, _, _, rfl, rfl, s3 _ _ ha, by omega, ?_⟩
    exact q _ ((Kept.of s3).trans (Kept.put _)) (FoundAt.more (s3 _ _ ha) (paired_imp (fun _ _ z => z.keep (Same.tups s3)) hp) (.hear upd_same))
end
end Any
namespace Any
open L2 PySem PySem.Spec PyProof.Rows LamX NdefX
/-! ### enumerate(t), t a tuple -/
set_option maxHeartbeats 1000000 in
theorem enum_new1 {u : Value} {ob : Obj} {G : Heap → Prop} (B : Begins u ob G) :
    Meets (Builtin.«enumerate.__new__» ⟨[.type "enumerate", u], []⟩) (fun _ R z => G z.heap ∧
      R (.ok (.ret (.ref (z.heap.push ob).objs.size)))
        { z with heap := (z.heap.push ob).push { cls := .type "enumerate", data := .fields #[.none, .bool false, .ref z.heap.objs.size, rawInt 0, .none, .none] } }) :=
  .of_wp fun pr wo Ar R z q => by
    obtain ⟨x1, x2, x3, x4, x5⟩ := z
    obtain ⟨g, q⟩ := q
    have sb := sub_enumerate
    have it : ∀ {A2 : Around} {E2 : Value → Shared → Prop} {Q2 : Value → Shared → Prop}, Q2 (.ref x1.objs.size) ⟨x1.push ob, x2, x3, x4, x5⟩ → wpAny (model pr wo) A2 (pyIter u) Q2 E2 ⟨x1, x2, x3, x4, x5⟩ :=
      fun y => B.iter pr wo _ _ ⟨x1, x2, x3, x4, x5⟩ _ g y
    wp_walk using it
    refine wpAny_stack_any fun _ => wpAny_pure ?_
    split
    · rename_i cc _ _ _ _ _
      cases (cc == Value.type "enumerate") <;> (wp_walk using it; exact ⟨_, rfl, q⟩)
    · wp_walk using it
      exact ⟨_, rfl, q⟩
theorem enum_call {pr : Program} {wo : World} {Ar : Around} {E : Value → Shared → Prop} {z : Shared} {u : Value} {ob : Obj} {G : Heap → Prop} {Q : Value → Shared → Prop} (B : Begins u ob G) (g : G z.heap)
    (q : ∀ h2, IsEnum h2 (z.heap.objs.size + 1) z.heap.objs.size 0 .none → h2.get? z.heap.objs.size = some ob → (∀ b y, z.heap.get? b = some y → h2.get? b = some y) → Q (.ref (z.heap.objs.size + 1)) { z with heap := h2 }) :
    wpAny (model pr wo) Ar (call (.type "enumerate") [u]) Q E z := by
  have sz : (z.heap.push ob).objs.size = z.heap.objs.size + 1 := Heap.size_push ..
  refine callType_new F.called_enumerate (by decide) (F.typeCall_enumerate_1 _) (F.newCall_enumerate_1 _) (fun y => F.args_object_init_2 y _) F.entry_enumerate_new (enum_new1 B) ⟨g, ?_⟩
  show _ ∧ _
  rw [sz]
  have he : IsEnum ((z.heap.push ob).push { cls := .type "enumerate", data := .fields #[.none, .bool false, .ref z.heap.objs.size, rawInt 0, .none, .none] }) (z.heap.objs.size + 1) z.heap.objs.size 0 .none := by
    rw [← sz]
    exact Heap.get?_push_size _ rfl
  exact ⟨⟨_, he, rfl⟩, q _ he (Heap.get?_push_of_some _ (Heap.get?_push_size _ B.free)) fun b y x => Heap.get?_push_of_some _ (Heap.get?_push_of_some _ x)⟩
/-- the tuple at a, each item in a new pair with its number -/
def Iet (K : PySem.W.Frag) (a : Addr) : It :=
  ⟨fun i H => ∃ (xs : List V) (x : V), SqT K H a xs ∧ xs[i]? = some x,
   fun i H v H' => ∃ T x, v = .ref T ∧ H T = none ∧ H' = upd H T (.tup [.int (i : Nat), x]) ∧ ∀ xs, SqT K H a xs → xs[i]? = some x,
   fun i H => ∃ xs : List V, SqT K H a xs ∧ xs.length ≤ i⟩
theorem apart_it {h : Heap} {a it : Addr} {i : Nat} {its : Array Value} (x : h.IsTupleIter it a i) (y : h.IsTuple a its) : a ≠ it := fun z => by
  obtain ⟨o, e, c, _⟩ := x
  obtain ⟨o', e', c', _⟩ := y
  rw [z, e] at e'
  cases e'
  rw [c] at c'
  exact absurd c' (by decide)
theorem turn_enumT {P : Program} {w : World} {K : PySem.W.Frag} {els : List Expr} {kk : Nat} {tp : Pos} (a e it : Addr) :
    Turn P w K (.Tuple els kk tp) (Iet K a) [e, it] e (fun i h => (∃ old, IsEnum h e it ((i : Nat) : Int) old) ∧ h.IsTupleIter it a i ∧ e ≠ it) where
  mem := by simp
  obj := fun i h st b hb => by
    obtain ⟨⟨old, he⟩, ⟨o, ho, hc, hd⟩, _⟩ := st
    rcases List.mem_cons.mp hb with z | z
    · subst z
      exact ⟨_, he, fun _ y => nomatch y⟩
    · exact ⟨o, List.mem_singleton.mp z ▸ ho, fun v q => by rw [hd] at q; cases q⟩
  keep := fun i h h' st k => ⟨st.1.elim fun old he => ⟨old, k e (by simp) _ he⟩, st.2.1.at fun o q => k it (by simp) o q, st.2.2⟩
  item := by
    intro X hP hw hK hc i pins s σ H E I hf st hg
    subst hP hw hK
    obtain ⟨⟨old, he⟩, hit, hne⟩ := st
    obtain ⟨xs, x, hq, hx⟩ := hg
    obtain ⟨its, rv, p, hz⟩ := I.tuple hq
    obtain ⟨u, hu, ru⟩ := rv.get hx
    have pt : s.heap.IsTuple a its.toArray := p
    have el : e < s.heap.objs.size := Heap.lt_size he
    have il : it < s.heap.objs.size := by obtain ⟨_, q, _⟩ := hit; exact Heap.lt_size q
    have nea : e ≠ a := fun z => by
      obtain ⟨o', e', c', _⟩ := pt
      rw [← z] at e'
      have := he.symm.trans e'
      cases this
      exact absurd (show Value.type "enumerate" = Value.type "tuple" from c') (by decide)
    have D := Draws.tuple (prog := X.prog) (w := X.w) (A := X.A.in1) (show X.A.in1.handled = none from I.ok.hd hc) it a (apart_it hit pt) its.toArray
    have hi : i < its.toArray.size := by
      have := (List.getElem?_eq_some_iff.mp hu).1
      simpa using this
    refine wpAny_pyNext_enum_itemD D he ⟨hit, pt⟩ hi hne (by simp [hne, nea]) fun y h1 tk hy ho st1 hT hsz hk => ?_
    have ey : y = u := by
      have : its.toArray[i]? = some u := by simpa using hu
      rw [this] at hy
      exact (Option.some.inj hy).symm
    subst ey
    refine ⟨_, rfl, wpAny_letOwnedTupleGo_enum (s := { s with heap := h1, toks := tk + 1 }) ho fun h2 he2 sb => ?_⟩
    have hT2 : h2.get? s.heap.objs.size = some { cls := .type "tuple", data := .seq #[.int i tk, y] } := (sb.2 _ (Nat.ne_of_gt el)).trans hT
    have new : ObjOk X.prog X.w (upd H s.heap.objs.size (.tup [.int (i : Nat), x])) h2 s.heap.objs.size (.tup [.int (i : Nat), x]) :=
      ⟨by show 2 ≤ sizeLine; decide, [.int i tk, y], .cons ⟨_, rfl⟩ (.cons ru .nil), ⟨_, hT2, rfl, _, rfl⟩⟩
    have I1 : Inv X pins σ (upd H s.heap.objs.size (.tup [.int (i : Nat), x])) { s with heap := h2, toks := tk + 1 } :=
      I.turnedNew (ch := [e, it]) (fun b ob hb q => (sb.2 b (fun z => hb (by simp [z]))).trans (hk b ob (fun z => hb (by simp [z])) (fun z => hb (by simp [z])) q)) hf (Nat.le_refl _) new
    refine ⟨.ref s.heap.objs.size, _, I1, rfl, ⟨_, x, rfl, I.hok.fresh (Nat.le_refl _), rfl, fun ys hy => by rw [I.tuple_inj hy hq]; exact hx⟩, ⟨⟨y, ?_⟩, st1.1.at fun o q => (sb.2 it (Ne.symm hne)).trans q, hne⟩, fun b hb => ?_⟩
    · rw [show ((i + 1 : Nat) : Int) = (i : Int) + 1 by omega]
      exact he2
    · have lt : b < s.heap.objs.size := by
        rcases List.mem_cons.mp hb with z | z
        · rw [z]; exact el
        · rw [List.mem_singleton.mp z]; exact il
      rw [upd_ne (Nat.ne_of_lt lt)]
      exact (hf b hb).1
  done := by
    intro X hP hw hK hc i pins s σ H E I hf st hg
    subst hP hw hK
    obtain ⟨⟨old, he⟩, hit, hne⟩ := st
    obtain ⟨xs, hq, hx⟩ := hg
    obtain ⟨its, rv, p, hz⟩ := I.tuple hq
    obtain ⟨f0, f1, f2, f3, f4, f5⟩ := hf it (by simp)
    have hl := rv.length
    have pt : s.heap.IsTuple a its.toArray := p
    have D : Draws X.prog X.w X.A.in1 it [it, a] i (fun _ _ => True) (fun j h => j = i ∧ h.IsTupleIter it a i ∧ h.IsTuple a its.toArray) :=
      ⟨fun _ _ y => let ⟨o, ho, _⟩ := y.2.1; ⟨o, ho⟩, fun _ _ _ y k => ⟨y.1, y.2.1.at fun o q => k it (by simp) o q, y.2.2.at fun o q => k a (by simp) o q⟩,
       fun j _ _ _ lt y _ => absurd y.1 (Nat.ne_of_lt lt), fun z _ _ y q => wpAny_nextOf_tuple_end (show X.A.in1.handled = none from I.ok.hd hc) y.2.1 y.2.2 (by simp; omega) q⟩
    exact wpAny_pyNext_enum_endD D he ⟨rfl, hit, pt⟩ fun h2 eb => ⟨rfl, I.turned (t' := s.toks) (fun b o hb q => eb b o hb q) f0 f1 f3 f4 f5⟩
  self := fun A i s Q E st h => st.1.elim fun _ he => wpAny_pyIter_enum he h
def iEnumT (K : PySem.W.Frag) (ta : TA) : TI := fun σ H R => ta σ H fun vs H1 => ∃ a xs, vs = [.ref a] ∧ SqT K H1 a xs ∧ R (Iet K a) H1
theorem pi_enumT {X : Cx} {e : Expr} {ta : TA} {p pos tp : Pos} {els : List Expr} {kk : Nat} (hg : Gl X "enumerate") (hm : X.mg "enumerate" = none) (ha : PA X [e] ta) (hs : starEach [e] X.env = [(false, eval e X.env)] := by rfl) :
    PI X (.Tuple els kk tp) (.Call (.Name "enumerate" p) [e] [] pos) (iEnumT X.K ta) := by
  refine ⟨fun pins s σ H R I h => Call_ (ld_blt I hg hm boot_enumerate (PyProof.Rows.callWith_type1 (thn (ha.run pos pins s σ H _ I h) fun us s1 ⟨vs, H1, I1, r1, q1⟩ => ?_) hs rfl))⟩
  obtain ⟨a, xs, rfl, hq, q⟩ := q1
  cases r1 with
  | cons r rr =>
    cases rr
    cases r
    obtain ⟨its, rv, pt, hz⟩ := I1.tuple hq
    refine enum_call (begins_tuple a its.toArray) (show s1.heap.IsTuple a its.toArray from pt) fun h2 he ho hk => wpAny_pyIter_enum he ?_
    refine ⟨s1.heap.objs.size + 1, [s1.heap.objs.size + 1, s1.heap.objs.size], _, _, H1, rfl, I1.kept (t' := s1.toks) hk, turn_enumT a (s1.heap.objs.size + 1) s1.heap.objs.size, ⟨⟨.none, he⟩, ⟨_, ho, rfl, rfl⟩, Nat.succ_ne_self _⟩, fun b hb => ?_, q⟩
    have le : s1.heap.objs.size ≤ b := by
      rcases List.mem_cons.mp hb with z | z
      · rw [z]; exact Nat.le_add_right _ _
      · rw [List.mem_singleton.mp z]; exact Nat.le_refl _
    exact I1.fpOk le (I1.hok.fresh le)
end Any
namespace Any
open L2 PySem PySem.Spec PyProof.Rows LamX NdefX
theorem cut_from (xs : List V) (i : Nat) : cutV xs (some (i : Int)) none = xs.drop i := by
  unfold cutV
  rw [HT.sIx_none, HT.sIx_nat]
  by_cases h : i ≤ xs.length
  · rw [Nat.min_eq_left h, List.take_of_length_le (by rw [List.length_drop]; exact Nat.le_refl _)]
  · rw [Nat.min_eq_right (by omega), List.drop_length, List.drop_of_length_le (by omega), List.take_nil]
theorem walk_enumT {K : PySem.W.Frag} {a : Addr} {xs : List V} : Walk (Iet K a) xs.length (fun H => SqT K H a xs) (YPair (fun i => some (.int (i : Nat))) (fun i => xs[i]?)) := by
  refine ⟨fun i _ hi q => ⟨xs, xs[i], q, by simp [hi]⟩, fun _ q => ⟨xs, q, Nat.le_refl _⟩, fun i H v H' _ q y => ?_⟩
  obtain ⟨T, x, h1, h2, h3, h4⟩ := y
  exact ⟨T, .int (i : Nat), x, h1, h2, h3, rfl, h4 xs q⟩
theorem addB_nil (ps : List Pl) (j : Int) : addB ps j .nil = ps := by rw [addB]
theorem addB_cons (ps : List Pl) (j : Int) (s : Sg) (b : Bd) : addB ps j (.cons s b) = addB (addS ps (begI b (ps.length + s.sz) j) s) j b := by rw [addB]
abbrev sABody : Stmt := top 18
abbrev nmAB : List Str := ["found", "body", "behind", "number", "step", "after"]
abbrev psAB : List Str := ["found", "body", "behind"]
theorem scAB : FnScope nmAB psAB (defScope sABody) := ⟨rfl, rfl, rfl, by decide +kernel, rfl, by decide +kernel, by decide +kernel⟩
theorem no_ab {P : Program} {w : World} {K : PySem.W.Frag} {mg : Str → Option Value} {base : Heap} {f : Addr} {fd : FuncData} {k : Nat} : FnOk P w K mg base CX0 k f fd psAdd (spAS 0) := by
  have no : ∀ vs H Q E, ¬ spAS 0 vs H Q E := fun vs H Q E h => by
    obtain ⟨a, v, j, s, ps, xs, ws, rs, _, _, _, hd, _⟩ := h
    exact absurd hd (Nat.not_le.mpr (Sg.dp_pos s))
  exact ⟨fun vs H Q E h => absurd h (no vs H Q E), fun A outer s H args us vs Q E _ _ _ _ h => absurd h (no vs H Q E)⟩
section
variable {P : Program} {w : World} {K : PySem.W.Frag} {mg : Str → Option Value} {base : Heap} {f g1 g2 g3 : Addr} {fd d1 d2 d3 : FuncData}
theorem ok_abody {n k : Nat} (O : Own mg) (men : mg "enumerate" = none) (F : Fun K "add_body" "add_body" sABody f fd) (GB : FnOk P w K mg base CX0 k g1 d1 ["body", "at", "behind"] spBeg) (bB : Binds K d1 ["body", "at", "behind"] []) (kB : PySem.W.keepIn K (.ref g1) = true) (mB : mg "begin_of" = some (.ref g1))
    (GS : FnOk P w K mg base CX0 k g2 d2 ["step"] (spSSz n)) (bS : Binds K d2 ["step"] []) (kS : PySem.W.keepIn K (.ref g2) = true) (mS : mg "step_size" = some (.ref g2))
    (GA : FnOk P w K mg base CX0 k g3 d3 psAdd (spAS n)) (bA : Binds K d3 psAdd []) (kA : PySem.W.keepIn K (.ref g3) = true) (mA : mg "add_step" = some (.ref g3)) :
    FnOk P w K mg base CX0 (k + 1) f fd psAB (spAB n) := by
  refine F.ok scAB (fun vs H Q E h => ?_) (fun cdv A outer s H vs Q E hr h => ?_)
  · obtain ⟨a, c, j, b, ps, xs, ws, rs, rfl, _⟩ := h
    rfl
  obtain ⟨a, c, j, b, ps, xs, ws, rs, rfl, hF, ⟨us, hc, hu⟩, hd, ho, hlen, hz, q⟩ := h
  have hs : sizeLine = 16777216 := sizeLine_eq
  have tupsOf : ∀ {Hc : Hp}, Kept a H Hc → Tups H Hc := fun k => hF.tups k
  refine ⟨_, pss_one (ps_for PassesOwn.never rfl (pi_enumT rfl men (pa_cons (pv 1) pa_nil)) (pg_tup rfl (pgs_cons (pg_name (i := 3) scAB.nd rfl (Or.inl rfl)) (pgs_cons (pg_name (i := 4) scAB.nd rfl (Or.inl rfl)) pgs_nil)))
    (pss_cons (ps_set (i := 5) scAB.nd rfl (Or.inl rfl) (pe_op op_add (pe_callB call_len_seq rfl O.len PySem.boot_len (pa_cons (pv 0) pa_nil)) (pe_call GS hr rfl mS kS bS .nil pass0 (pa_cons (pv 4) pa_nil))))
    (pss_one (ps_expr (pe_call GA hr rfl mA kA bA .nil pass0 (pa_cons (pv 0) (pa_cons (pv 4) (pa_cons (pe_call GB hr rfl mB kB bB .nil pass0 (pa_cons (pe_slice sl_tup (pv 1) (po_some (pe_op op_add (pv 3) pe_int)) po_none) (pa_cons (pv 5) (pa_cons (pv 2) pa_nil)))) pa_nil)))))))), ?_⟩
  refine ⟨_, rfl, c, us, rfl, SqT.of hc, ?_⟩
  refine for_it (walk_enumT (K := K) (a := c) (xs := us)) (fun i σ Hc => ∃ (x y z : Option V) (r : Bd) (ps2 : List Pl), σ = [some (.ref a), some (.ref c), some (.int j), x, y, z] ∧ Kept a H Hc ∧ FoundAt Hc a ps2 ∧ BdL Hc (us.drop i) r ∧ r.dp ≤ n ∧ r.ok xs ws rs ∧ ps2.length + r.sz ≤ 1000 ∧ addB ps2 j r = addB ps j b) ?_ ?_ ?_ ?_
  · exact ⟨_, _, _, b, ps, rfl, .refl, hF, hu, hd, ho, hz, rfl⟩
  · rintro i σ Hc _ ⟨x, y, z, r, ps2, _, k2, _⟩
    exact SqT.of (tupsOf k2 _ _ hc)
  · rintro i x σ Hc H' hi ⟨o1, o2, o3, r, ps2, rfl, k2, hF2, hr2, hd2, ho2, hz2, he⟩ ⟨T, x1, st, rfl, hT, rfl, hx1, hst⟩
    cases hx1
    have dr : us.drop i = st :: us.drop (i + 1) := by
      rw [List.getElem?_eq_some_iff] at hst
      obtain ⟨lt, e⟩ := hst
      rw [← e]
      exact List.drop_eq_getElem_cons lt
    rw [dr] at hr2
    cases r with
    | nil =>
      unfold BdL at hr2
      cases hr2
    | cons sg r =>
      unfold BdL at hr2
      obtain ⟨v, us2, e2, hsg, hr2⟩ := hr2
      cases e2
      unfold Bd.dp at hd2
      unfold Bd.ok at ho2
      unfold Bd.sz at hz2
      rw [addB_cons] at he
      have s1 := same_new hT (.tup [.int (i : Nat), st])
      refine ⟨T, _, rfl, SqT.of upd_same, rfl, _, _, rfl, _, _, rfl, rfl, ?_⟩
      have F1 := hF2.keep s1
      have k1 : Kept a H _ := k2.trans (Kept.of s1)
      have g1 := SgAt.keep (Same.tups s1) sg hsg
      have r1 := BdL.keep (Same.tups s1) r hr2
      generalize upd Hc T (.tup [.int (i : Nat), st]) = H1 at *
      obtain ⟨vs, ha, hp⟩ := id F1
      have hl := paired_len hp
      refine ⟨_, rfl, a, _, rfl, .inl (SqL.of ha), _, rfl, st, sg, xs, ws, rs, rfl, g1, by omega, ho2.1, fun H2 s2 => ⟨_, _, rfl, rfl, ?_⟩⟩
      rw [hl]
      have c2 := s2 _ _ (tupsOf k1 _ _ hc)
      refine ⟨_, rfl, _, rfl, _, rfl, _, rfl, _, _, rfl, rfl, _, rfl, c, us, rfl, SqT.of c2, ?_, fun p3 n3 => ?_⟩
      · rw [show ((i : Int) + 1) = ((i + 1 : Nat) : Int) by omega, HT.sIx_nat]
        omega
      rw [show ((i : Int) + 1) = ((i + 1 : Nat) : Int) by omega, cut_from]
      have s3 := s2.trans (same_new n3 (.tup (us.drop (i + 1))))
      refine ⟨_, rfl, _, rfl, p3, us.drop (i + 1), _, _, rfl, upd_same, ?_⟩
      rw [beg_eq (BdL.keep (Same.tups s3) r r1)]
      refine ⟨a, st, _, sg, ps2, xs, ws, rs, rfl, F1.keep s3, SgAt.keep (Same.tups s3) sg g1, by omega, ho2.1, by omega, fun H4 k4 F4 => ?_⟩
      refine ⟨_, _, _, r, _, rfl, k1.trans ((Kept.of s3).trans k4), F4, BdL.keep ((F1.keep s3).tups k4) r (BdL.keep (Same.tups s3) r r1), by omega, ho2.2, by rw [addS_len]; omega, he⟩
  · rintro σ Hc ⟨x, y, z, r, ps2, rfl, k2, hF2, hr2, hd2, ho2, hz2, he⟩
    rw [List.drop_length] at hr2
    cases r with
    | nil =>
      rw [addB_nil] at he
      rw [← he] at q
      exact q Hc k2 hF2
    | cons sg r =>
      unfold BdL at hr2
      obtain ⟨v, us2, e2, _⟩ := hr2
      cases e2
end
end Any
namespace Any
open L2 PySem PySem.Spec PyProof.Rows LamX NdefX
/-! ### defs by their names -/
section
variable (P : Program) (w : World) (K : PySem.W.Frag) (mg : Str → Option Value) (base : Heap)
/-- the name x of the module holds this def -/
def Nd (x : Str) (st : Stmt) (ps : List Str) : Prop := ∃ f fd, mg x = some (.ref f) ∧ Fun K x x st f fd ∧ Binds K fd ps []
/-- .. one that keeps this promise -/
def Df (k : Nat) (x : Str) (ps : List Str) (sp : Sp) : Prop := ∃ f fd, mg x = some (.ref f) ∧ PySem.W.keepIn K (.ref f) = true ∧ FnOk P w K mg base CX0 k f fd ps sp ∧ Binds K fd ps []
/-- .. where no repr is under way -/
def DfG (k : Nat) (x : Str) (ps : List Str) (sp : Sp) : Prop := ∃ f fd, mg x = some (.ref f) ∧ PySem.W.keepIn K (.ref f) = true ∧ FnG P w K mg base CX0 k f fd ps sp ∧ Binds K fd ps []
/-- a method of the class at C -/
def Mf (C : Addr) (k : Nat) (m : Str) (ps : List Str) (sp : Sp) : Prop := ∃ f fd, Meth K C m f ∧ FnOk P w K mg base CX0 k f fd ps sp ∧ Binds K fd ps []
end
section
variable {X : Cx} {k : Nat} {x m : Str} {C : Addr} {ps : List Str} {sp : Sp} {p pos apos : Pos} {e o : Expr} {es : List Expr} {t : TA} {ta : TE}
theorem pe_D (D : Df X.prog X.w X.K X.mg X.base k x ps sp) (hr : Room k X.A) (hg : Gl X x) (ha : PA X (e :: es) t) (hdb : (x == ("__debug__" : Str)) = false := by decide)
    (he : starEach (e :: es) X.env = (false, eval e X.env) :: starEach es X.env := by rfl) (hpl : (backTo pos (starEach es X.env)).any (·.1) = false := by rfl) : PE X (.Call (.Name x p) (e :: es) [] pos) (tCall sp [] E0 t) := by
  obtain ⟨f, fd, hm, hk, F, hb⟩ := D
  exact pe_call F hr hg hm hk hb .nil pass0 ha hdb he hpl
theorem pe_DG (D : DfG X.prog X.w X.K X.mg X.base k x ps sp) (hG : X.A.guards = some []) (hr : Room k X.A) (hg : Gl X x) (ha : PA X (e :: es) t) (hdb : (x == ("__debug__" : Str)) = false := by decide)
    (he : starEach (e :: es) X.env = (false, eval e X.env) :: starEach es X.env := by rfl) (hpl : (backTo pos (starEach es X.env)).any (·.1) = false := by rfl) : PE X (.Call (.Name x p) (e :: es) [] pos) (tCall sp [] E0 t) := by
  obtain ⟨f, fd, hm, hk, F, hb⟩ := D
  exact pe_callG F hG hr hg hm hk hb .nil pass0 ha hdb he hpl
theorem pe_M {pl : Sem Bool} (D : Mf X.prog X.w X.K X.mg X.base C k m ps sp) (c : Cls X.K C) (he : PE X o ta) (hr : Room k X.A) (ha : PA X (e :: es) t)
    (hst : starEach (e :: es) X.env = (false, eval e X.env) :: starEach es X.env := by rfl) (hpl : (backTo pos (starEach es X.env)).any (·.1) = false := by rfl)
    (ht : eval (.Call (.Attribute o m apos) (e :: es) [] pos) X.env = (do
      let ov ← eval o X.env
      standAt apos.atName
      let (f, first) ← holding [ov] (getMethod ov m pl)
      callWith pos f first (backTo pos (starEach (e :: es) X.env)) (backToKw pos (keywordEach [] X.env))) := by rfl) :
    PE X (.Call (.Attribute o m apos) (e :: es) [] pos) (tMeth C m sp [] E0 ta t) := by
  obtain ⟨f, fd, hm, F, hb⟩ := D
  exact pe_meth he c hm F hr hb .nil pass0 ha hst hpl ht
end
section
variable {P : Program} {w : World} {K : PySem.W.Frag} {mg : Str → Option Value} {base : Heap}
theorem Df.mono {j k : Nat} {x : Str} {ps : List Str} {sp : Sp} (D : Df P w K mg base j x ps sp) (h : j ≤ k) : Df P w K mg base k x ps sp := by
  obtain ⟨f, fd, hm, hk, F, hb⟩ := D
  exact ⟨f, fd, hm, hk, F.mono h, hb⟩
end
theorem itD {c A B : Prop} [Decidable c] (h1 : c → A) (h2 : ¬ c → B) : if decide c = true then A else B := ite2 (fun z => h1 (of_decide_eq_true z)) fun z => h2 fun q => z (decide_eq_true q)
theorem itN {c A B : Prop} [Decidable c] (h1 : ¬ c → A) (h2 : c → B) : if (!decide c) = true then A else B := by
  by_cases h : c
  · rw [decide_eq_true h]
    exact itF rfl (h2 h)
  · rw [decide_eq_false h]
    exact itT rfl (h1 h)
theorem itEq {i j : Int} {A B : Prop} (h1 : i = j → A) (h2 : i ≠ j → B) : if decide (V.int i = V.int j) = true then A else B := itD (fun z => h1 (V.int.inj z)) fun z => h2 fun q => z (by rw [q])
theorem itNe {i j : Int} {A B : Prop} (h1 : i ≠ j → A) (h2 : i = j → B) : if (!decide (V.int i = V.int j)) = true then A else B := itN (fun z => h1 fun q => z (by rw [q])) fun z => h2 (V.int.inj z)
theorem kept_same {l : Addr} {H H1 H2 : Hp} (s : Same H H1) (n : H l = none) (k : Kept l H1 H2) : Same H H2 := fun a o h => k a o (ne_of_none h n) (s a o h)
mutual
theorem Sg.sz_tot : ∀ s : Sg, s.sz ≤ 3 * s.tot
  | .ifs _ a b => by
    have h1 := a.sz_tot
    have h2 := b.sz_tot
    unfold Sg.sz Sg.tot
    omega
  | .fors _ _ a => by
    have h1 := a.sz_tot
    unfold Sg.sz Sg.tot
    omega
  | .call _ _ _ => by unfold Sg.sz Sg.tot; omega
  | .set _ _ => by unfold Sg.sz Sg.tot; omega
  | .say _ _ => by unfold Sg.sz Sg.tot; omega
  | .hear _ => by unfold Sg.sz Sg.tot; omega
theorem Bd.sz_tot : ∀ b : Bd, b.sz ≤ 3 * b.tot
  | .nil => by unfold Bd.sz; omega
  | .cons s b => by
    have h1 := s.sz_tot
    have h2 := b.sz_tot
    unfold Bd.sz Bd.tot
    omega
end
section
variable {P : Program} {w : World} {K : PySem.W.Frag} {mg : Str → Option Value} {base : Heap}
/-- the places of bodies that stand within one another n deep -/
theorem all_ab (O : Own mg) (men : mg "enumerate" = none) (NB : Nd K mg "add_body" sABody psAB) (NS : Nd K mg "add_step" sAStep psAdd) (NI : Nd K mg "add_if" sAIf psAdd) (NF : Nd K mg "add_for" sAFor psAdd) (NC : Nd K mg "add_call" sACall psAdd)
    (NG : Nd K mg "begin_of" sBeg ["body", "at", "behind"]) (NZ : Nd K mg "body_size" sBSz ["body"]) (NY : Nd K mg "step_size" sSSz ["step"]) (n : Nat) :
    Df P w K mg base (3 * n + 2) "add_body" psAB (spAB n) ∧ Df P w K mg base (2 * n + 1) "body_size" ["body"] (spBSz n) ∧ Df P w K mg base 1 "begin_of" ["body", "at", "behind"] spBeg := by
  obtain ⟨fB, dB, mB, FB, bB⟩ := NB
  obtain ⟨fS, dS, mS, FS, bS⟩ := NS
  obtain ⟨fI, dI, mI, FI, bI⟩ := NI
  obtain ⟨fF, dF, mF, FF, bF⟩ := NF
  obtain ⟨fC, dC, mC, FC, bC⟩ := NC
  obtain ⟨fG, dG, mG, FG, bG⟩ := NG
  obtain ⟨fZ, dZ, mZ, FZ, bZ⟩ := NZ
  obtain ⟨fY, dY, mY, FY, bY⟩ := NY
  have SZ : ∀ n, FnOk P w K mg base CX0 (2 * n) fY dY ["step"] (spSSz n) := all_ssz O FY bY mY FZ bZ mZ
  have BZ : ∀ n, FnOk P w K mg base CX0 (2 * n + 1) fZ dZ ["body"] (spBSz n) := fun n => ok_bsz O FZ (SZ n) bY FY.kp mY
  have BG : FnOk P w K mg base CX0 1 fG dG ["body", "at", "behind"] spBeg := ok_beg O FG
  have AC : FnOk P w K mg base CX0 1 fC dC psAdd spACall := ok_acall O FC
  have body : ∀ n, FnOk P w K mg base CX0 (3 * n + 1) fS dS psAdd (spAS n) → FnOk P w K mg base CX0 (3 * n + 2) fB dB psAB (spAB n) := fun n h =>
    ok_abody O men FB (BG.mono (by omega)) bG FG.kp mG ((SZ n).mono (by omega)) bY FY.kp mY h bS FS.kp mS
  have step : ∀ n, FnOk P w K mg base CX0 (3 * n + 1) fS dS psAdd (spAS n) := fun n => by
    induction n with
    | zero => exact no_ab
    | succ n ih =>
      have b := body n ih
      have i := ok_aif O FI (BG.mono (show 1 ≤ 3 * n + 2 by omega)) bG FG.kp mG ((BZ n).mono (show 2 * n + 1 ≤ 3 * n + 2 by omega)) bZ FZ.kp mZ b bB FB.kp mB
      have f := ok_afor O FF (BG.mono (show 1 ≤ 3 * n + 2 by omega)) bG FG.kp mG b bB FB.kp mB
      exact (ok_astep FS i bI FI.kp mI f bF FF.kp mF (AC.mono (show 1 ≤ 3 * n + 2 + 1 by omega)) bC FC.kp mC).mono (by omega)
  exact ⟨⟨fB, dB, mB, FB.kp, body n (step n), bB⟩, ⟨fZ, dZ, mZ, FZ.kp, BZ n, bZ⟩, ⟨fG, dG, mG, FG.kp, BG, bG⟩⟩
end
/-! ### room_places -/
def Rm.behind (r : Rm) : Int := if r.above = "" then 0 else r.body.sz + 1
/-- what a room's places are (point 9) -/
def Rm.places (r : Rm) : List Pl :=
  let ps := addB [.home (begI r.body 1 r.behind)] r.behind r.body
  if r.above = "" then ps else match r.told with
    | some (b, e) => ps ++ [.tell b e (r.behind + 1)] ++ [.told 0]
    | none => ps
/-- what is asked of a room whose places are laid -/
structure Rm.lays (r : Rm) : Prop where
  ok : ∃ xs ws rs, r.body.ok xs ws rs
  len : r.body.len ≤ 12
  dp : r.body.dp ≤ 4
  sz : r.body.sz ≤ 900
  told : r.above ≠ "" → ∃ i e, r.told = some (i, e)
def spRP (C : Addr) : Sp := fun vs H Q _ => ∃ x r, vs = [.ref x] ∧ RmAt C H x r ∧ r.lays ∧ ∀ p H', H p = none → Same H H' → FoundAt H' p r.places → Q (.ref p) H'
abbrev sRP : Stmt := top 14
abbrev nmRP : List Str := ["room", "many", "behind", "found", "bound", "expression"]
theorem scRP : FnScope nmRP ["room"] (defScope sRP) := ⟨rfl, rfl, rfl, by decide +kernel, rfl, by decide +kernel, by decide +kernel⟩
section
variable {P : Program} {w : World} {K : PySem.W.Frag} {mg : Str → Option Value} {base : Heap} {f C : Addr} {fd : FuncData}
theorem ok_rp (T : RoomC K C) (F : Fun K "room_places" "room_places" sRP f fd) (DB : Df P w K mg base 14 "add_body" psAB (spAB 4)) (DZ : Df P w K mg base 9 "body_size" ["body"] (spBSz 4)) (DG : Df P w K mg base 1 "begin_of" ["body", "at", "behind"] spBeg) :
    FnOk P w K mg base CX0 15 f fd ["room"] (spRP C) := by
  refine F.ok scRP (fun vs H Q E h => ?_) (fun cdv A outer s H vs Q E hr h => ?_)
  · obtain ⟨x, r, rfl, _⟩ := h
    rfl
  obtain ⟨x, r, rfl, hx, ⟨⟨xs, ws, rs, ho⟩, hl, hd, hz, ht⟩, q⟩ := h
  obtain ⟨dx, n, a, b, s', k, t, p, y, h1, h2⟩ := id hx
  have ha := h2.above
  subst ha
  obtain ⟨c, rfl, hc⟩ := h2.body
  have hs : sizeLine = 16777216 := sizeLine_eq
  have hr9 := hr.mono (show 9 ≤ 14 by decide)
  have hr1 := hr.mono (show 1 ≤ 14 by decide)
  obtain ⟨t1, ht1, leaf⟩ : ∃ t1, PSs (cxOf CX0 P w K mg base nmRP "room_places" (defScope sRP) f cdv A outer s H E).nox ((defBody sRP).drop 2) t1 ∧
      ∀ (m : V) (H1 : Hp), Same H H1 → t1 { nx := fun _ H' => Q .non H', rt := Q } [some (.ref x), some m, some (.int r.behind), none, none, none] H1 := by
    refine ⟨_, pss_cons (ps_set (i := 3) scRP.nd rfl (Or.inl rfl) (pe_lst (pa_cons (pe_tup (pa_cons pe_str (pa_cons (pe_D DG hr1 rfl (pa_cons (pe_fld (pv 0) rfl) (pa_cons pe_int (pa_cons (pv 2) pa_nil)))) pa_nil))) pa_nil)))
      (pss_cons (ps_expr (pe_D DB hr rfl (pa_cons (pv 3) (pa_cons (pe_fld (pv 0) rfl) (pa_cons (pv 2) pa_nil)))))
      (pss_cons (ps_if (pt_cmpR op_ne (pe_fld (pv 0) rfl) pe_str (nomark _))
        (pss_cons (ps_asg (pe_fld (pv 0) rfl) (pg_tup rfl (pgs_cons (pg_name (i := 4) scRP.nd rfl (Or.inl rfl)) (pgs_cons (pg_name (i := 5) scRP.nd rfl (Or.inl rfl)) pgs_nil))))
        (pss_cons (ps_expr (pe_bm PySem.F.plainAttrs_list PySem.F.slot_list_append PySem.F.type_list_append mt_append (pv 3) (pa_cons (pe_tup (pa_cons pe_str (pa_cons (pv 4) (pa_cons (pv 5) (pa_cons (pe_op op_add (pv 2) pe_int) pa_nil))))) pa_nil)))
        (pss_one (ps_expr (pe_bm PySem.F.plainAttrs_list PySem.F.slot_list_append PySem.F.type_list_append mt_append (pv 3) (pa_cons (pe_tup (pa_cons pe_str (pa_cons pe_int pa_nil))) pa_nil)))))) pss_nil)
      (pss_one (ps_ret (pv 3))))), ?_⟩
    intro m H1 s1
    obtain ⟨us, e1, e2⟩ := hc.keep (Same.tups s1)
    refine ⟨_, rfl, x, C, dx, _, _, rfl, s1 _ _ h1, T.cl, T.n8, rf_body, _, rfl, c, us, _, _, rfl, e1, ?_⟩
    rw [beg_eq e2]
    refine ⟨(by show 2 ≤ sizeLine; omega), fun p2 n2 => ⟨(by show 1 ≤ sizeLine; omega), fun p3 n3 => ?_⟩⟩
    have s2 := same_new n2 (.tup [.str "home", .int (begI r.body 1 r.behind)])
    have s3 := s1.trans (s2.trans (same_new n3 (.lst [.ref p2])))
    have f3 : FoundAt (upd (upd H1 p2 (.tup [.str "home", .int (begI r.body 1 r.behind)])) p3 (.lst [.ref p2])) p3 [.home (begI r.body 1 r.behind)] := ⟨[.ref p2], upd_same, .cons (.home (same_new n3 _ _ _ upd_same)) .nil⟩
    have np3 : H p3 = none := s1.free (s2.free n3)
    clear s2
    generalize upd (upd H1 p2 (.tup [.str "home", .int (begI r.body 1 r.behind)])) p3 (.lst [.ref p2]) = H3 at *
    refine ⟨_, rfl, _, rfl, x, C, dx, _, _, rfl, s3 _ _ h1, T.cl, T.n8, rf_body, _, rfl, p3, c, r.behind, r.body, _, xs, ws, rs, rfl, f3, hc.keep (Same.tups s3), hd, ho, hl, (by show 1 + r.body.sz ≤ 1000; omega), fun H4 k4 f4 => ?_⟩
    have s4 := kept_same s3 np3 k4
    refine ⟨_, rfl, x, C, dx, _, _, rfl, s4 _ _ h1, T.cl, T.n2, rf_above, rfl, _, rfl, itN (fun c1 => ?_) (fun c1 => ?_)⟩
    · have c1 : r.above ≠ "" := fun z => c1 (by rw [z])
      obtain ⟨i, e, et⟩ := ht c1
      have h2t := h2.told
      rw [et] at h2t
      obtain ⟨u, v, rfl, hu, hv⟩ := h2t
      refine ⟨_, rfl, x, C, dx, _, _, rfl, s4 _ _ h1, T.cl, T.n6, rf_told, u, _, rfl, SqT.of (s4 _ _ hu), rfl, _, _, rfl, _, _, rfl, rfl, ?_⟩
      obtain ⟨vs, hv4, hp4⟩ := f4
      have l4 := paired_len hp4
      rw [addB_len, List.length_singleton] at l4
      refine ⟨_, rfl, .inl ⟨rfl, _, SqL.of hv4⟩, _, rfl, _, rfl, _, rfl, _, _, rfl, rfl, (by show 4 ≤ sizeLine; omega), fun p5 n5 => ?_⟩
      have s5 := same_new n5 (.tup [.str "tell", .int i, v, .int (r.behind + 1)])
      refine ⟨p3, _, _, rfl, rfl, s5 _ _ hv4, by omega, ?_⟩
      have f5 := FoundAt.more (s5 _ _ hv4) (paired_imp (fun _ _ z => z.keep (Same.tups s5)) hp4) (.tell upd_same (hv.keep (Same.tups (s4.trans s5))))
      have k5 : Kept p3 H4 _ := (Kept.of s5).trans (Kept.put (b := p3) (.lst (vs ++ [.ref p5])))
      generalize upd (upd H4 p5 (.tup [.str "tell", .int i, v, .int (r.behind + 1)])) p3 (.lst (vs ++ [.ref p5])) = H5 at *
      obtain ⟨v5, hv5, hp5⟩ := f5
      have l5 := paired_len hp5
      rw [List.length_append, addB_len, List.length_singleton, List.length_singleton] at l5
      refine ⟨_, rfl, .inl ⟨rfl, _, SqL.of hv5⟩, (by show 2 ≤ sizeLine; omega), fun p6 n6 => ?_⟩
      have s6 := same_new n6 (.tup [.str "told", .int 0])
      refine ⟨p3, _, _, rfl, rfl, s6 _ _ hv5, by omega, ?_⟩
      have f6 := FoundAt.more (s6 _ _ hv5) (paired_imp (fun _ _ z => z.keep (Same.tups s6)) hp5) (.told upd_same)
      refine ⟨_, rfl, q p3 _ np3 (kept_same s4 np3 (k5.trans ((Kept.of s6).trans (Kept.put _)))) ?_⟩
      unfold Rm.places
      rw [if_neg c1, et]
      exact f6
    · have c1 : r.above = "" := V.str.inj c1
      refine ⟨_, rfl, q p3 H4 np3 s4 ?_⟩
      unfold Rm.places
      rw [if_pos c1]
      exact f4
  refine ⟨_, pss_cons (ps_set (i := 1) scRP.nd rfl (Or.inl rfl) (pe_D DZ hr9 rfl (pa_cons (pe_fld (pv 0) rfl) pa_nil)))
    (pss_cons (ps_set (i := 2) scRP.nd rfl (Or.inl rfl) (pe_ifExp (pt_cmpR op_eq (pe_fld (pv 0) rfl) pe_str (nomark _)) pe_int (pe_op op_add (pv 1) pe_int))) ht1), ?_⟩
  refine ⟨_, rfl, x, C, dx, _, _, rfl, h1, T.cl, T.n8, rf_body, c, r.body, xs, ws, rs, rfl, hc, hd, ho, hl, fun H1 s1 => ?_⟩
  refine ⟨_, rfl, x, C, dx, _, _, rfl, s1 _ _ h1, T.cl, T.n2, rf_above, rfl, _, rfl, itD (fun c1 => ?_) (fun c1 => ?_)⟩
  · have e0 : r.behind = 0 := if_pos (V.str.inj c1)
    have z := leaf (.int r.body.sz) H1 s1
    rw [e0] at z
    exact z
  · have e0 : r.behind = r.body.sz + 1 := if_neg fun z => c1 (by rw [z])
    have z := leaf (.int r.body.sz) H1 s1
    rw [e0] at z
    exact ⟨_, rfl, _, _, rfl, rfl, z⟩
end
end Any
set_option maxHeartbeats 4000000
namespace Any
open L2 PySem PySem.Spec PyProof.Rows
/-! ### own exceptions straight over one of Python's own classes -/
/-- what is asked of that class: its name, how it is made, how it is begun, its mro -/
structure Over (B nw ini : String) (T : List Value) : Prop where
  facts : PySem.ExcBaseFacts B nw ini T
  pass : ∀ self, refuseLoop self "__setattr__" T = pure ()
  obj : T.contains (.type "object") = true
abbrev tLookup : List Value := [.type "LookupError", .type "Exception", .type "BaseException", .type "object"]
abbrev tRuntime : List Value := [.type "RuntimeError", .type "Exception", .type "BaseException", .type "object"]
abbrev tValue : List Value := [.type "ValueError", .type "Exception", .type "BaseException", .type "object"]
theorem over_lookup : Over "LookupError" "LookupError.__new__" "LookupError.__init__" tLookup := ⟨PySem.F.excBase_LookupError, fun self => by kernel_rfl, by decide +kernel⟩
theorem over_runtime : Over "RuntimeError" "RuntimeError.__new__" "RuntimeError.__init__" tRuntime := ⟨PySem.F.excBase_RuntimeError, fun self => by kernel_rfl, by decide +kernel⟩
theorem over_value : Over "ValueError" "ValueError.__new__" "ValueError.__init__" tValue := ⟨PySem.F.excBase_ValueError, fun self => by kernel_rfl, by decide +kernel⟩
section
open Builtin Builtin.ObjectAttr
variable {pr : Program} {wo : World} {Ar : Around} {R : Result → Shared → Prop} {h : Heap} {gs : Array GenState} {dr : Drawn} {n : Nat} {os : OsState} {K : PySem.W.Frag} {y : Str} {u : Tok} {v : Value} {e C dx : Addr} {vs : Array Value} {cd : ClassData} {B nw ini : String} {T : List Value} {m : Str → Option Value} {ys : List Str}
theorem Over.ne (O : Over B nw ini T) (z : Value) : (z :: T).isEmpty = false := rfl
theorem oset_first (O : Over B nw ini T) (X : K.In h) (he : h.get? e = some { cls := .ref C, data := .fields vs }) (hc : PySem.W.clsIn K C = some cd) (hm : cd.mro = .ref C :: T) (hd : cd.hasDict = true) (hn : PySem.W.findIn K (.ref C) y = some none)
    (q : ∀ h' u' dx, (∀ b o, b ≠ e → h.get? b = some o → h'.get? b = some o) → h.objs.size ≤ dx → dx ≠ e → h'.get? e = some { cls := .ref C, dict := some dx, data := .fields vs } →
      h'.Ns1 dx (fun z => if z = y then some v else none) → R (.ok (.ret .none)) ⟨h', gs, dr, u', os⟩) :
    codeAny (model pr wo) Ar (.call (.builtin "object.__setattr__") ⟨[.ref e, .str y u, v], []⟩) R ⟨h, gs, dr, n, os⟩ := by
  have J : PySem.W.InstAt h e { cls := .ref C, data := .fields vs } C none := ⟨he, rfl, rfl, trivial⟩
  have S := PySem.F.store_object
  have isO : (.ref C :: T : List Value).contains (.type "object") = true := by rw [List.contains_cons, O.obj, Bool.or_true]
  have apart : e ≠ h.objs.size := Nat.ne_of_lt (Heap.lt_size he)
  have sb : PySem.W.Looks (model pr wo) h (isInstance (.ref e) (.type "object")) true :=
    J.type.andThen (PySem.W.looks_mroIn X (by unfold PySem.W.mroIn; rw [hc, Option.bind_some, hm, if_neg (by rw [O.ne]; decide), isO]))
  refine codeAny_call_builtin S.slot.plain S.entry (@PySem.W.check_slot (model pr wo) _ _ ⟨h, gs, dr, n, os⟩ "object.__setattr__" "object" "__setattr__" (.ref e) [.str y u, v] [] _ S.kind S.split sb (S.args (.ref e) (.str y u) v) ?_)
  have lm : PySem.W.Looks (model pr wo) h (mroOf (.ref C)) cd.mro := (PySem.W.looks_clsIn X hc).andThen .now
  have ls : PySem.W.Looks (model pr wo) h (storeTaker? none) none := .now
  have lc : PySem.W.Looks (model pr wo) h (classData C) cd := PySem.W.looks_clsIn X hc
  rw [PySem.W.osa_eq, refuse_eq]
  refine wpAny_bind (wpAny_bind (J.type.at (wpAny_bind (lm.at ?_))))
  rw [hm, refuseLoop_ref, O.pass]
  refine wpAny_pure (wpAny_bind (J.type.at (wpAny_bind ((PySem.W.looks_findIn X hn).at (wpAny_bind (ls.at ?_))))))
  show wpAny _ _ (storeInOwnDict (.ref e) (.ref C) (.str y u) y v false) _ _ _
  obtain ⟨_, _, _, _, _, hd', _, _, _, _, _⟩ := cd
  dsimp only at hd
  subst hd
  unfold storeInOwnDict ownDictForStores
  repeat (first
    | with_reducible refine PySem.HandSPX.store_in_new ?_ ?_
    | with_reducible refine wpAny_loadPart_at he ?_
    | with_reducible refine lc.at ?_
    | wp_step)
  · exact ⟨_, #[], _, (Heap.get?_update_ne _ _ _ _ apart.symm).trans (Heap.get?_push_at rfl rfl), rfl, fun z hz => absurd hz (by simp), fun _ => rfl⟩
  · intro h' u' hn' hs
    have he2 : (h.push { cls := .type "dict", data := .dict #[] }).get? e = some { cls := .ref C, data := .fields vs } := Heap.get?_push_of_some _ he
    refine q h' u' h.objs.size (fun b o hb ho => ?_) (Nat.le_refl _) apart.symm ?_ hn'
    · exact (hs.2 b (Nat.ne_of_lt (Heap.lt_size ho))).trans ((Heap.get?_update_ne _ _ _ _ hb).trans (Heap.get?_push_of_some _ ho))
    · exact (hs.2 e apart).trans (Heap.get?_update_self _ he2 rfl)
theorem oset_next (O : Over B nw ini T) (X : K.In h) (he : h.get? e = some { cls := .ref C, dict := some dx, data := .fields vs }) (hx : h.Ns1 dx m) (hw : Within m ys) (hz : ys.length ≤ 1000) (hc : PySem.W.clsIn K C = some cd) (hm : cd.mro = .ref C :: T) (hd : cd.hasDict = true)
    (hn : PySem.W.findIn K (.ref C) y = some none) (q : ∀ h' u', (∀ b o, b ≠ dx → h.get? b = some o → h'.get? b = some o) → h'.Ns1 dx (fun z => if z = y then some v else m z) → R (.ok (.ret .none)) ⟨h', gs, dr, u', os⟩) :
    codeAny (model pr wo) Ar (.call (.builtin "object.__setattr__") ⟨[.ref e, .str y u, v], []⟩) R ⟨h, gs, dr, n, os⟩ := by
  obtain ⟨oD, _, _, hoD, _, _⟩ := hx.count hw
  have J : PySem.W.InstAt h e { cls := .ref C, dict := some dx, data := .fields vs } C (some oD) := ⟨he, rfl, rfl, hoD⟩
  have S := PySem.F.store_object
  have isO : (.ref C :: T : List Value).contains (.type "object") = true := by rw [List.contains_cons, O.obj, Bool.or_true]
  have sb : PySem.W.Looks (model pr wo) h (isInstance (.ref e) (.type "object")) true :=
    J.type.andThen (PySem.W.looks_mroIn X (by unfold PySem.W.mroIn; rw [hc, Option.bind_some, hm, if_neg (by rw [O.ne]; decide), isO]))
  refine codeAny_call_builtin S.slot.plain S.entry (@PySem.W.check_slot (model pr wo) _ _ ⟨h, gs, dr, n, os⟩ "object.__setattr__" "object" "__setattr__" (.ref e) [.str y u, v] [] _ S.kind S.split sb (S.args (.ref e) (.str y u) v) ?_)
  have lm : PySem.W.Looks (model pr wo) h (mroOf (.ref C)) cd.mro := (PySem.W.looks_clsIn X hc).andThen .now
  have ls : PySem.W.Looks (model pr wo) h (storeTaker? none) none := .now
  have lc : PySem.W.Looks (model pr wo) h (classData C) cd := PySem.W.looks_clsIn X hc
  rw [PySem.W.osa_eq, refuse_eq]
  refine wpAny_bind (wpAny_bind (J.type.at (wpAny_bind (lm.at ?_))))
  rw [hm, refuseLoop_ref, O.pass]
  refine wpAny_pure (wpAny_bind (J.type.at (wpAny_bind ((PySem.W.looks_findIn X hn).at (wpAny_bind (ls.at ?_))))))
  show wpAny _ _ (storeInOwnDict (.ref e) (.ref C) (.str y u) y v false) _ _ _
  obtain ⟨_, _, _, _, _, hd', _, _, _, _, _⟩ := cd
  dsimp only at hd
  subst hd
  unfold storeInOwnDict ownDictForStores
  repeat (first
    | with_reducible refine PySem.OEX.store_in_old hx hw hz ?_
    | with_reducible refine wpAny_loadPart_at he ?_
    | with_reducible refine lc.at ?_
    | wp_step)
  intro h' u' hn' hs
  exact q h' u' (fun b o hb ho => (hs.2 b hb).trans ho) hn'
end
/-- what the written part says of an own exception's class -/
structure OxC (K : PySem.W.Frag) (C : Addr) (B nw ini : String) (T : List Value) : Prop where
  over : Over B nw ini T
  cls : ∃ nm q N bs sn sub ab col dd k0 k1 k2 k3 k5, K.lookup C = some (excClassObj nm q C N bs T true sn sub ab col dd k0 k1 k2 k3 k5 nw)
  sa : PySem.W.findIn K (.ref C) "__setattr__" = some (some (.builtin "object.__setattr__"))
  exC : PySem.W.subIn K (.ref C) (.type "BaseException") = some true
  tyC : PySem.W.typeIn K (.ref C) = some (.type "type")
  kC : PySem.W.keepIn K (.ref C) = true
section
variable {K : PySem.W.Frag} {C : Addr} {B nw ini : String} {T : List Value}
theorem OxC.data (Z : OxC K C B nw ini T) : ∃ cd, PySem.W.clsIn K C = some cd ∧ cd.mro = .ref C :: T ∧ cd.hasDict = true := by
  obtain ⟨nm, q, N, bs, sn, sub, ab, col, dd, k0, k1, k2, k3, k5, hC⟩ := Z.cls
  refine ⟨{ name := nm, bases := bs, mro := .ref C :: T, ns := N, qualname := q, hasDict := true, slotNames := sn, subclasses := sub, abstract := ab, collection := col, hasDel := false }, ?_, rfl, rfl⟩
  unfold PySem.W.clsIn
  rw [hC] <;> rfl
end
section
variable {X : Cx} {pins : List (Addr × Obj)} {σ : L2.St} {H : Hp} {s : Shared} {a C dx : Addr} {f : Str} {y : V} {u : Value} {fs : List (Str × V)} {Q : Unit → Shared → Prop} {E : Value → Shared → Prop} {A : Around} {B nw ini : String} {T : List Value}
/-- self.f = y, the first of its fields -/
theorem xset_first (Z : OxC X.K C B nw ini T) (I : Inv X pins σ H s) (e : H a = some (exo a C none)) (hno : PySem.W.findIn X.K (.ref C) f = some none) (ry : RelV y u)
    (h : ∀ dx s', H dx = none → dx ≠ a → Inv X pins σ (upd (upd H dx (exd dx [(f, y)])) a (exo a C (some dx))) s' → Q () s') : wpAny (model X.prog X.w) A (setAttr (.ref a) f u) Q E s := by
  obtain ⟨cd, hcl, hm, hd⟩ := Z.data
  obtain ⟨t1, ho⟩ := exo_at I.hok e
  obtain ⟨hp, g, d, t, os⟩ := s
  refine PySem.W.set_plain I.kIn (ox := { cls := .ref C, dict := none, data := .fields #[.ref t1, .none, .none, .none, .bool false, .none] }) (od := none) ⟨ho, rfl, rfl, trivial⟩ Z.sa ?_
  refine oset_first Z.over I.kIn ho hcl hm hd hno (fun h' tk' dx k dn dne hx hn => ?_)
  have nD : H dx = none := I.hok.fresh dn
  have lo : ∀ {b : Addr} {o : Obj}, hp.get? b = some o → b ≠ dx := fun {b o} q => Nat.ne_of_lt (Nat.lt_of_lt_of_le (Heap.lt_size q) dn)
  have off : ∀ {b : Addr}, H b = none → b ≠ a := fun {b} n z => by rw [z, e] at n; cases n
  have U : Un X.fs [] H (upd (upd H dx (exd dx [(f, y)])) a (exo a C (some dx))) hp h' :=
    ⟨fun b o q n _ _ => k b o (off n) q, fun b o q n _ _ => ⟨o.slots, k b o (off n) q⟩, fun b o q n _ => by rw [upd_ne (off n), upd_ne (lo q)]; exact n,
     fun b o q _ => by
      by_cases hb : b = a
      · exact ⟨_, by rw [hb]; exact hx⟩
      · exact ⟨o, k b o hb q⟩,
     fun b xs q => by rw [upd_ne (at_ne e q exo_tup), upd_ne (ne_of_none q nD)]; exact q,
     fun b o v q => by rw [upd_ne (at_ne e q exo_frz), upd_ne (ne_of_none q nD)]; exact q,
     fun b ps q => ⟨#[], by rw [upd_ne (at_ne e q exo_tbl), upd_ne (ne_of_none q nD), q]; simp⟩⟩
  refine h dx _ nD dne (I.un (t' := tk') U fun b o q => ?_)
  by_cases hb : b = a
  · subst hb
    rw [upd_same] at q
    cases q
    exact exo_ok hx
  rw [upd_ne hb] at q
  by_cases hd2 : b = dx
  · subst hd2
    rw [upd_same] at q
    cases q
    exact exd_ok hn (relO_put (fs := []) ry fun g => True.intro)
  rw [upd_ne hd2] at q
  refine (I.hok b o q).stay (fun c v hc z => k c v ?_ z) (fun c hc => by rw [upd_ne (at_ne e hc exo_own), upd_ne (ne_of_none hc nD)]; exact hc) (fun c xs hc => by rw [upd_ne (at_ne e hc exo_tup), upd_ne (ne_of_none hc nD)]; exact hc)
  rcases hc with hc | hc
  · rw [hc]; exact hb
  · exact at_ne e hc exo_own
/-- .. a further one -/
theorem xset_next (Z : OxC X.K C B nw ini T) (I : Inv X pins σ H s) (e : H a = some (exo a C (some dx))) (ed : H dx = some (exd dx fs)) (hl : fs.length ≤ 900) (hno : PySem.W.findIn X.K (.ref C) f = some none) (ry : RelV y u)
    (h : ∀ s', Inv X pins σ (upd H dx (exd dx ((f, y) :: fs))) s' → Q () s') : wpAny (model X.prog X.w) A (setAttr (.ref a) f u) Q E s := by
  obtain ⟨cd, hcl, hm, hd⟩ := Z.data
  obtain ⟨t1, ho⟩ := exo_at I.hok e
  obtain ⟨mA, hns, rel⟩ := exd_at I.hok ed
  have hw := within_of rel
  obtain ⟨hp, g, d, t, os⟩ := s
  obtain ⟨oD, _, _, hoD, _, _⟩ := hns.count hw
  refine PySem.W.set_plain I.kIn (ox := { cls := .ref C, dict := some dx, data := .fields #[.ref t1, .none, .none, .none, .bool false, .none] }) (od := some oD) ⟨ho, rfl, rfl, hoD⟩ Z.sa ?_
  refine oset_next Z.over I.kIn ho hns hw (by rw [List.length_map]; omega) hcl hm hd hno (fun h' tk' k hn => ?_)
  have th : ∃ o, h'.get? dx = some o := hn.imp fun o ⟨_, _, e', _⟩ => e'
  exact h _ (I.write (t' := tk') (x := dx) (e := dx) (o := exd dx ((f, y) :: fs)) (by rw [ed]; exact True.intro) (.inl rfl) k th (exd_ok hn (relO_put ry rel)))
/-- B.__init__(self, ..): nothing of it is told -/
theorem xinit_run {us : List Value} {Q : Value → Shared → Prop} (Z : OxC X.K C B nw ini T) (I : Inv X pins σ H s) (e : H a = some (exo a C none)) (hl : us.length ≤ sizeLine) (h : ∀ s', Inv X pins σ H s' → Q .none s') :
    wpAny (model X.prog X.w) A (call (.builtin ini) (.ref a :: us)) Q E s := by
  obtain ⟨nm, q, N, bs, sn, sub, ab, col, dd, k0, k1, k2, k3, k5, hC⟩ := Z.cls
  obtain ⟨t1, ho⟩ := exo_at I.hok e
  obtain ⟨hp, g, d, t, os⟩ := s
  refine wpAny_call (PySem.HandSPX.init_base Z.over.facts (fun _ => rfl) (I.kIn _ _ hC) ho hl fun h' t2 k hx => ?_)
  have J := I.write (t' := t) (x := a) (e := a) (o := exo a C none) (by rw [e]; exact True.intro) (.inl rfl) k ⟨_, hx⟩ (exo_ok hx)
  rw [show upd H a (exo a C none) = H from funext fun b => by
    by_cases hb : b = a
    · rw [hb, upd_same, e]
    · rw [upd_ne hb]] at J
  exact h _ J
end
/-! ### readings and rules -/
def tXi (K : PySem.W.Frag) (B nw ini : String) (T : List Value) (ta : TA) : TE := fun σ H Q => ta σ H fun vs H1 => ∃ (a C : Addr) (ws : List V), vs = .ref a :: ws ∧ ws.length ≤ 1000 ∧ OxC K C B nw ini T ∧ H1 a = some (exo a C none) ∧ Q .non H1
def tXs (K : PySem.W.Frag) (B nw ini : String) (T : List Value) (f : Str) (to te : TE) : TS := fun D σ H => te σ H fun y H1 => to σ H1 fun x H2 => ∃ a C : Addr, x = .ref a ∧ OxC K C B nw ini T ∧ PySem.W.findIn K (.ref C) f = some none ∧
  ((H2 a = some (exo a C none) ∧ ∀ dx, H2 dx = none → dx ≠ a → D.nx σ (upd (upd H2 dx (exd dx [(f, y)])) a (exo a C (some dx)))) ∨
    ∃ (dx : Addr) (fs : List (Str × V)), H2 a = some (exo a C (some dx)) ∧ H2 dx = some (exd dx fs) ∧ fs.length ≤ 900 ∧ D.nx σ (upd H2 dx (exd dx ((f, y) :: fs))))
section
variable {X : Cx} {o e : Expr} {es : List Expr} {to te : TE} {ta : TA} {f : Str} {p p' p1 p2 pos : Pos} {B nw ini : String} {T : List Value}
theorem pe_xinit {pl : Sem Bool} {Bs : Str} (hg : Gl X Bs) (hm : X.mg Bs = none) (vV : PySem.W.findCls X.K (.type B) (.type "type") "__init__" = some (.val (.builtin ini))) (ha : PA X (e :: es) ta)
    (hc : eval (.Call (.Attribute (.Name Bs p1) "__init__" p2) (e :: es) [] pos) X.env = (do
      let ov ← eval (.Name Bs p1) X.env
      standAt p2.atName
      let (f, first) ← holding [ov] (getMethod ov "__init__" pl)
      callWith pos f first (backTo pos (starEach (e :: es) X.env)) (backToKw pos (keywordEach [] X.env))) := by rfl)
    (he : starEach (e :: es) X.env = (false, eval e X.env) :: starEach es X.env := by rfl) (hpl : (backTo pos (starEach es X.env)).any (·.1) = false := by rfl)
    (hB : bootBuiltins Bs = some (.type B) := by decide +kernel) (hn1 : Bs ≠ "__name__" := by decide) (hn2 : (Bs == ("__debug__" : Str)) = false := by decide) (hty : typeOf (.type B) = pure (.type "type") := by kernel_rfl)
    (hst : Manifest.isStub B = false := by decide +kernel) (hhi : PySem.W.handedIn (.builtin ini) = true := by decide +kernel) :
    PE X (.Call (.Attribute (.Name Bs p1) "__init__" p2) (e :: es) [] pos) (tXi X.K B nw ini T ta) := by
  refine ⟨fun pins s σ H Q I h => ?_⟩
  refine PySem.W.methodCall_KW (ld_blt I hg hm hB ?_ hn1 hn2) hc
  obtain ⟨m, fr⟩ := I.fr
  refine PySem.W.method_type fr I.ok.mod.kin hty hst vV hhi ?_
  show wpAny _ _ (callWith pos (Value.builtin ini) [] (backTo pos (starEach (e :: es) X.env)) []) _ _ _
  refine PyProof.Rows.callWith_method1 (thn (ha.run pos pins _ σ H _ (I.tok _) h) fun us s1 ⟨vs, H1, I1, r1, a, C, ws, ev, hl, Z, ea, q⟩ => ?_) he hpl
  subst ev
  cases r1 with
  | @cons _ z0 _ zs rz rr =>
    obtain rfl : z0 = Value.ref a := rz
    exact xinit_run Z I1 ea (by rw [← Paired.length rr, sizeLine_eq]; omega) fun s' J => ⟨.non, H1, J, rfl, q⟩
theorem ps_xset (ho : PE X o to) (he : PE X e te) (hs : swapsWith e (some (.Attribute o f p')) pos.line X.env = pure false := by rfl) : PS X (.Assign [.Attribute o f p'] e pos) (tXs X.K B nw ini T f to te) := by
  refine ⟨fun pins s σ H D I h => ?_⟩
  refine plainObj_wpAny_Assign_Attribute (thn (he.run pins s σ H _ I h) fun v s1 ⟨y, H1, I1, r1, q1⟩ => thn (ho.run pins s1 σ H1 _ I1 q1) fun u s2 ⟨x, H2, I2, r2, a, C, ex, Z, hno, q⟩ => ?_) hs
  subst ex
  obtain rfl : u = Value.ref a := r2
  exact q.elim (fun ⟨ea, q⟩ => xset_first Z I2 ea hno r1 fun dx s' n ne J => ⟨σ, _, J, q dx n ne⟩) fun ⟨dx, fs, ea, ed, hl, q⟩ => xset_next Z I2 ea ed hl hno r1 fun s' J => ⟨σ, _, J, q⟩
theorem pmk_xex {CX : CXT} {x : Str} {C fI : Addr} {k : Nat} {fd : FuncData} {ps : List Str} {sp : Sp} (Z : OxC X.K C B nw ini T) (iC : PySem.W.findIn X.K (.ref C) "__init__" = some (some (.ref fI))) (tI : PySem.W.typeIn X.K (.ref fI) = some (.type "function"))
    (hG : X.A.guards = some []) (F1 : FnG X.prog X.w X.K X.mg X.base CX k fI fd ps sp) (hr : Room (k + 1) X.A) (hb : Binds X.K fd ps []) (hx : Passes CX X (fun _ _ _ => False)) (hg : Gl X x) (hm : X.mg x = some (.ref C)) (ha : PA X (e :: es) ta)
    (hdb : (x == ("__debug__" : Str)) = false := by decide) (he : starEach (e :: es) X.env = (false, eval e X.env) :: starEach es X.env := by rfl) (hpl : (backTo pos (starEach es X.env)).any (·.1) = false := by rfl) :
    PMk X (.Call (.Name x p) (e :: es) [] pos) (tMkO C sp [] ta) := by
  intro pins s σ H Q I h
  obtain ⟨nm, q, N, bs, sn, sub, ab, col, dd, k0, k1, k2, k3, k5, hC⟩ := Z.cls
  refine wpAny_Call_Name_kw (ld_glob I hg hm ?_ hdb)
  refine PySem.W.callWith_K (h₀ := X.base) I.ok.mod.kin Z.kC (thn (ha.run pos pins s σ H _ I h) fun us s1 ⟨vs, H1, I1, r1, hz, q1⟩ => ⟨I1.kIn, ?_⟩) he hpl
  show wpAny _ _ (call (.ref C) us) _ _ _
  obtain ⟨hp, g, dr, tk, os⟩ := s1
  have le1 : hp.objs.size ≤ hp.objs.size + 1 := Nat.le_succ _
  have free1 : H1 (hp.objs.size + 1) = none := I1.hok.fresh le1
  have hq := q1 (hp.objs.size + 1) free1
  have keep1 : ∀ b o, hp.get? b = some o → ((hp.push (PySem.W.kdv_tup us)).push (PySem.HandSPX.excO C hp.objs.size)).get? b = some o := fun b o z => Heap.get?_push_of_some _ (Heap.get?_push_of_some _ z)
  have at1 : ((hp.push (PySem.W.kdv_tup us)).push (PySem.HandSPX.excO C hp.objs.size)).get? (hp.objs.size + 1) = some (PySem.HandSPX.excO C hp.objs.size) := by heap_get
  have I2 : Inv X pins σ (upd H1 (hp.objs.size + 1) (exo (hp.objs.size + 1) C none)) ⟨(hp.push (PySem.W.kdv_tup us)).push (PySem.HandSPX.excO C hp.objs.size), g, dr, tk, os⟩ :=
    I1.laid (t' := tk) (a := hp.objs.size + 1) (o := exo (hp.objs.size + 1) C none) (h' := (hp.push (PySem.W.kdv_tup us)).push (PySem.HandSPX.excO C hp.objs.size)) keep1 le1 (exo_ok at1)
  have r2 : Vals (V.ref (hp.objs.size + 1) :: (vs ++ [])) (Value.ref (hp.objs.size + 1) :: us ++ []) := .cons rfl (r1.append .nil)
  have hl : (Value.ref (hp.objs.size + 1) :: us ++ []).length = ps.length := r2.length.symm.trans (F1.len _ _ _ _ hq)
  refine wpAny_call (PySem.HandSPX.call_own Z.over.facts (fun _ => rfl) (I1.kIn _ _ hC) (PySem.W.looks_findIn I1.kIn iC) (fun self => PySem.W.bind_fn I1.kIn self tI) (by rw [← Paired.length r1, sizeLine_eq]; omega)
    (codeAny_mono (F1.go _ X.stack _ _ ⟨Value.ref (hp.objs.size + 1) :: us, []⟩ (Value.ref (hp.objs.size + 1) :: us ++ []) _ _ (fun _ _ _ => False) hG (hr.make C us []) (I2.env0.make C us []) (hb _ (Value.ref (hp.objs.size + 1) :: us) I2.kIn hl) r2 hq) fun r s' hq' => ?_))
  cases r with
  | error er => exact hx pins σ _ _ er s' I2 hq'
  | ok fl =>
    cases fl with
    | ret z =>
      obtain ⟨v, H2, os2, bare2, un2, hok2, rv, ev, d, fs, ea, ed, hd1, q2⟩ := hq'
      subst ev
      obtain ⟨h2, g2, d2, t2, os'⟩ := s'
      exact ⟨rv, mk_end (raises_own Z.exC Z.tyC) I1 le1 keep1 un2 hok2 os2 bare2 ea ed hd1 q2⟩
    | next => exact False.elim hq'
    | brk => exact False.elim hq'
    | cont => exact False.elim hq'
end
/-! ### {x!r} of any thing -/
/-- z is the text that repr tells of x -/
inductive Shown (K : PySem.W.Frag) (H : Hp) : V → Str → Prop
  | str (y : Str) : Shown K H (.str y) (reprText y)
  | int (i : Int) (h : i.natAbs.log2 < 1920) : Shown K H (.int i) (toString i)
  | bl (b : Bool) : Shown K H (.bl b) (if b then "True" else "False")
  | non : Shown K H .non "None"
  | dat {a : Addr} {d : PyData} (h : Shows K H a d) (h1 : d.showable = true) (h2 : d.depth ≤ 60) : Shown K H (.ref a) d.shown
section
variable {X : Cx} {e : Expr} {te : TE} {pos : Pos}
def tFmtA (K : PySem.W.Frag) (te : TE) : TE := fun σ H Q => te σ H fun x H1 => ∃ z : Str, Shown K H1 x z ∧ z.length ≤ sizeLine ∧ Q (.str z) H1
theorem shows_reads {pins : List (Addr × Obj)} {σ : L2.St} {H : Hp} {s : Shared} {a : Addr} {d : PyData} (I : Inv X pins σ H s) (h : Shows X.K H a d) : ∃ as, Reads s.heap (.ref a) d as ∧ (d.hasDict = true → sysModules ∉ as) := by
  cases h with
  | seq h1 h2 =>
    obtain ⟨as, q1⟩ := Dp.reads I d _ _ h1 rfl
    exact ⟨as, q1, fun z => by rw [h2] at z; cases z⟩
  | dct h1 h2 =>
    obtain ⟨_, ns, vs, kv, o, es, ep, e1, e2, e3, _, e5, _⟩ := I.hok a _ h1
    obtain ⟨q1, q2⟩ := dct_reads (h := s.heap) h2 kv e5
    refine ⟨_, Reads.dict e1 e2.1 e3 q1 q2, fun _ z => ?_⟩
    simp at z
    rw [← z] at ns
    simp at ns
theorem pe_fmtA (hG : X.A.guards = some []) (hu : X.A.units + 70 < cLine) (he : PE X e te) : PE X (.FormattedValue e 114 none pos) (tFmtA X.K te) := by
  refine ⟨fun pins s σ H Q I h => ?_⟩
  refine wpAny_FormattedValue_repr (thn (he.run pins s σ H _ I h) fun v s1 hv => ?_)
  obtain ⟨x, H1, I1, r1, z, hs, hz, q⟩ := hv
  cases hs with
  | str y =>
    obtain ⟨t, rfl⟩ := r1
    exact pyReprObj_str (wpAny_formatField_str ⟨.str _, H1, I1.tok _, ⟨_, rfl⟩, q⟩ ⟨.str _, H1, I1.tok _, ⟨_, rfl⟩, q⟩ hz) hz
  | int i hi =>
    obtain ⟨t, rfl⟩ := r1
    exact pyReprObj_int hi (wpAny_formatField_str ⟨.str _, H1, I1.tok _, ⟨_, rfl⟩, q⟩ ⟨.str _, H1, I1.tok _, ⟨_, rfl⟩, q⟩ hz)
  | bl b =>
    cases r1
    refine pyReprObj_bool (wpAny_formatField_str ⟨.str _, H1, I1.tok _, ⟨_, rfl⟩, q⟩ ⟨.str _, H1, I1.tok _, ⟨_, rfl⟩, q⟩ hz)
  | non =>
    cases r1
    exact pyReprObj_none (wpAny_formatField_str ⟨.str _, H1, I1.tok _, ⟨_, rfl⟩, q⟩ ⟨.str _, H1, I1.tok _, ⟨_, rfl⟩, q⟩ hz)
  | dat h h1 h2 =>
    cases r1
    obtain ⟨as, rd, sm⟩ := shows_reads I1 h
    refine pyReprObj_of_reads rd h1 sm hG (by omega) (fun _ _ e => e) (fun h' u tk hk => ?_) hz
    have J := I1.kept (t' := tk) hk
    exact wpAny_formatField_str ⟨.str _, H1, J, ⟨_, rfl⟩, q⟩ ⟨.str _, H1, J.tok _, ⟨_, rfl⟩, q⟩ hz
end
end Any
namespace Any
open L2 PySem PySem.Spec PyProof.Rows
/-! ### defs that may raise, where no repr is under way -/
section
variable {P : Program} {w : World} {K : PySem.W.Frag} {mg : Str → Option Value} {base : Heap}
theorem fun_gX {x ql : Str} {st : Stmt} {f : Addr} {fd : FuncData} {N ps : List Str} {k : Nat} {sp : Sp} (F : Fun K x ql st f fd) (S : FnScope N ps (defScope st)) (ln : ∀ vs H Q E, sp vs H Q E → vs.length = ps.length)
    (hb : ∀ (cv : Value) (A : Around) (out : List Env) (s : Shared) (H : Hp) (vs : List V) (Q : VK) (E : XK), A.guards = some [] → Room k (A.deeper (envOfC ql (defScope st) s.heap.objs.size f cv)) → sp vs H Q E →
      ∃ t, PSs (cxOf (L2.CX P w) P w K mg base N ql (defScope st) f cv A out s H E) (defBody st) t ∧ t ⟨fun _ H' => Q .non H', Q, fun _ _ => False, fun _ _ => False⟩ (L2.start N vs) H) : FnG P w K mg base (L2.CX P w) (k + 1) f fd ps sp := by
  obtain ⟨_, _, _, _, _, _, cv, _, _, rfl, lk, hc⟩ := F.ex
  exact fn_g lk hc S ln fun A out s H vs Q E hg hr hs => hb cv A out s H vs Q E hg hr hs
end
section
variable {X : Cx} {C : CXT} {k : Nat} {f D : Addr} {fd : FuncData} {ps : List Str} {sp : Sp} {E : XK} {m : Str} {p pos apos : Pos} {o e : Expr} {es : List Expr} {t : TA} {ta : TE}
theorem run_fnG {pins : List (Addr × Obj)} {σ : L2.St} {H : Hp} {s : Shared} {us : List Value} {vs : List V} {Q : VK} (F : FnG X.prog X.w X.K X.mg X.base C k f fd ps sp) (hG : X.A.guards = some []) (hr : Room k X.A) (hb : Binds X.K fd ps []) (hx : Passes C X E)
    (I : Inv X pins σ H s) (rv : Vals vs us) (q : sp vs H Q E) : wpAny (model X.prog X.w) X.A (call (.ref f) us) (EP X pins σ Q) X.xe s := by
  have hl : us.length = ps.length := rv.length.symm.trans (F.len _ _ _ _ q)
  have bi := hb s us I.kIn (by rw [List.append_nil]; exact hl)
  rw [List.append_nil] at bi
  refine wpAny_call (codeAny_mono (F.go X.A X.stack s H ⟨us, []⟩ us vs Q E hG hr I.env0 bi rv q) ?_)
  rintro (err | fl) s' hq
  · exact hx pins σ H s err s' I hq
  · cases fl with
    | ret u => exact I.after hq
    | next => cases hq
    | brk => cases hq
    | cont => cases hq
theorem pe_methG {pl : Sem Bool} (he : PE X o ta) (c : Cls X.K D) (hm : Meth X.K D m f) (F : FnG X.prog X.w X.K X.mg X.base C k f fd ps sp) (hG : X.A.guards = some []) (hr : Room k X.A) (hb : Binds X.K fd ps []) (hx : Passes C X E) (ha : PA X (e :: es) t)
    (hst : starEach (e :: es) X.env = (false, eval e X.env) :: starEach es X.env := by rfl) (hpl : (backTo pos (starEach es X.env)).any (·.1) = false := by rfl)
    (ht : eval (.Call (.Attribute o m apos) (e :: es) [] pos) X.env = (do
      let ov ← eval o X.env
      standAt apos.atName
      let (f, first) ← holding [ov] (getMethod ov m pl)
      callWith pos f first (backTo pos (starEach (e :: es) X.env)) (backToKw pos (keywordEach [] X.env))) := by rfl) :
    PE X (.Call (.Attribute o m apos) (e :: es) [] pos) (tMeth D m sp [] E ta t) := by
  refine ⟨fun pins s σ H Q I h => ?_⟩
  refine PySem.W.methodCall_KW (pl := pl) (thn (he.run pins s σ H _ I h) fun u s1 ⟨x, H1, I1, rx, a, dx, fs, ex, ea, l, q⟩ => ?_) ht
  subst ex
  obtain rfl : u = Value.ref a := rx
  refine getmeth_ok I1 ea c hm l ?_
  refine PySem.W.callWith_K (first := [.ref a]) (h₀ := X.base) I.ok.mod.kin hm.kp (thn (ha.run pos pins s1 σ H1 _ I1 q) fun us s2 ⟨vs, H2, I2, r, q2⟩ => ⟨I2.kIn, ?_⟩) hst hpl
  have q2 : sp (V.ref a :: (vs ++ [])) H2 Q E := q2
  rw [List.append_nil] at q2
  exact run_fnG (us := .ref a :: us) (vs := .ref a :: vs) F hG hr hb hx I2 (.cons rfl r) q2
theorem pe_callGX {x : Str} (F : FnG X.prog X.w X.K X.mg X.base C k f fd ps sp) (hG : X.A.guards = some []) (hr : Room k X.A) (hg : Gl X x) (hm : X.mg x = some (.ref f)) (hk : PySem.W.keepIn X.K (.ref f) = true) (hb : Binds X.K fd ps []) (hx : Passes C X E) (ha : PA X (e :: es) t)
    (h1 : (x == ("__debug__" : Str)) = false := by decide) (h2 : starEach (e :: es) X.env = (false, eval e X.env) :: starEach es X.env := by rfl) (h3 : (backTo pos (starEach es X.env)).any (·.1) = false := by rfl) :
    PE X (.Call (.Name x p) (e :: es) [] pos) (tCall sp [] E t) := pe_callG F hG hr hg hm hk hb .nil hx ha h1 h2 h3
end
/-- C's __init__ puts what it is given into its field f -/
def spX1 (C : Addr) (f : Str) (ok : Hp → V → Prop) : Sp := fun vs H Q _ => ∃ a y, vs = [.ref a, y] ∧ ok H y ∧ H a = some (exo a C none) ∧
  ∀ dx, H dx = none → dx ≠ a → Q .non (upd (upd H dx (exd dx [(f, y)])) a (exo a C (some dx)))
/-- what comes of raise C(y) -/
theorem x1_made {C : Addr} {f : Str} {ok : Hp → V → Prop} {H : Hp} {y : V} {E : XK} (hy : ∀ H', Same H H' → ok H' y) (h : ∀ d H', Same H H' → H' d = some (.xd [(f, y)]) → E (.ref C) (some d) H') :
    ([y] : List V).length ≤ 1000 ∧ ∀ a, H a = none → spX1 C f ok (.ref a :: ([y] ++ [])) (upd H a (exo a C none))
      (fun v H2 => v = .non ∧ ∃ (d : Addr) (fs : List (Str × V)), H2 a = some (exo a C (some d)) ∧ H2 d = some (exd d fs) ∧ H d = none ∧ E (.ref C) (some d) (upd (del H2 a) d (.xd fs))) (fun _ _ _ => False) := by
  refine ⟨by show 1 ≤ 1000; decide, fun a ha => ⟨a, y, rfl, hy _ (fun b u q => by rw [upd_ne (ne_of_none q ha)]; exact q), upd_same, fun dx h1 h2 => ⟨rfl, dx, [(f, y)], upd_same, ?_, ?_, ?_⟩⟩⟩
  · rw [upd_ne h2]
    exact upd_same
  · rw [upd_ne h2] at h1
    exact h1
  · refine h dx _ (fun b o hb => ?_) upd_same
    have hbd : b ≠ dx := by
      rw [upd_ne h2] at h1
      exact ne_of_none hb h1
    have hba : b ≠ a := ne_of_none hb ha
    rw [upd_ne hbd, del_ne hba, upd_ne hba, upd_ne hbd, upd_ne hba]
    exact hb
/-- things whose text is not long -/
def Small (K : PySem.W.Frag) (H : Hp) (y : V) : Prop := ∃ z : Str, Shown K H y z ∧ z.length ≤ 2000
end Any
namespace Any
open L2 PySem PySem.Spec PyProof.Rows LamX NdefX
/-! ### NoRoom, room_of, places -/
abbrev sNR : Stmt := inClass (top 25) 0
theorem scNR : FnScope ["self", "name"] ["self", "name"] (defScope sNR) := ⟨rfl, rfl, rfl, by decide +kernel, rfl, by decide +kernel, by decide +kernel⟩
structure NoRoomC (K : PySem.W.Frag) (mg : Str → Option Value) (CN : Addr) : Prop where
  ox : OxC K CN "LookupError" "LookupError.__new__" "LookupError.__init__" tLookup
  no : PySem.W.findIn K (.ref CN) "name" = some none
  xf : XfC K CN
  ex : ExcC K CN
  le : PySem.W.kitOne K (.ref CN) (.type "LookupError") = some true
  me : PySem.W.exmOne K (.ref CN) (.ref CN) = some true
  mL : mg "LookupError" = none
  vL : PySem.W.findCls K (.type "LookupError") (.type "type") "__init__" = some (.val (.builtin "LookupError.__init__"))
  mN : mg "NoRoom" = some (.ref CN)
section
variable {P : Program} {w : World} {K : PySem.W.Frag} {mg : Str → Option Value} {base : Heap} {f C D CN : Addr} {fd : FuncData}
theorem ok_noroom (Z : NoRoomC K mg CN) (F : Fun K "__init__" "NoRoom.__init__" sNR f fd) : FnG P w K mg base CX0 1 f fd ["self", "name"] (spX1 CN "name" (Small K)) := by
  refine fun_g F scNR (fun vs H Q E h => ?_) (fun cdv A outer s H vs Q E hG hr h => ?_)
  · obtain ⟨a, y, rfl, _⟩ := h
    rfl
  obtain ⟨a, y, rfl, ⟨z, hz, hl⟩, ha, q⟩ := h
  have hG' : (A.deeper (envOfC "NoRoom.__init__" (defScope sNR) s.heap.objs.size f cdv)).guards = some [] := hG
  have hu : (A.deeper (envOfC "NoRoom.__init__" (defScope sNR) s.heap.objs.size f cdv)).units + 70 < cLine := by have := hr.un; omega
  have hs : sizeLine = 16777216 := sizeLine_eq
  refine ⟨_, PSs.nox (pss_cons (ps_expr (pe_xinit (Bs := "LookupError") (nw := "LookupError.__new__") (T := tLookup) rfl Z.mL Z.vL (pa_cons (pv 0) (pa_cons (pe_joined (.cons pe_str (.cons (pe_fmtA hG' hu (pv 1)) .nil))) pa_nil)))) (pss_one (ps_xset (B := "LookupError") (nw := "LookupError.__new__") (ini := "LookupError.__init__") (T := tLookup) (pv 0) (pv 1)))), ?_⟩
  have c0 : (Str.empty : Str).length = 0 := rfl
  have c1 : ("no room of the program is called " : Str).length = 33 := by decide +kernel
  refine ⟨_, rfl, ?_⟩
  refine ⟨_, rfl, by rw [Str.length_append, c0, c1]; omega, _, rfl, z, hz, by omega, ?_⟩
  refine ⟨_, rfl, by rw [Str.length_append, Str.length_append, c0, c1]; omega, ?_⟩
  refine ⟨a, CN, _, rfl, by show 1 ≤ 1000; decide, Z.ox, ha, ?_⟩
  exact ⟨_, rfl, _, rfl, a, CN, rfl, Z.ox, Z.no, .inl ⟨ha, fun dx h1 h2 => q dx h1 h2⟩⟩
end
/-- a program that holds these rooms -/
def HeldAt (D : Addr) (H : Hp) (x R : Addr) : Prop := ∃ dx v, H x = some (.ins D dx [("held", .ref R), ("drawn", v)])
theorem HeldAt.keep {D : Addr} {H H' : Hp} {x R : Addr} (h : HeldAt D H x R) (s : Same H H') : HeldAt D H' x R := by
  obtain ⟨dx, v, h1⟩ := h
  exact ⟨dx, v, s _ _ h1⟩
theorem pf_held {a b : V} : ([("held", a), ("drawn", b)] : List (Str × V)).lookup ("held" : Str) = some a := lk_hit
theorem pf_none {a b : V} {x : Str} (h1 : (x == ("held" : Str)) = false) (h2 : (x == ("drawn" : Str)) = false) : ([("held", a), ("drawn", b)] : List (Str × V)).lookup x = none := (lk_skip h1).trans ((lk_skip h2).trans rfl)
abbrev sRO : Stmt := inClass (top 63) 2
abbrev sPlaces : Stmt := top 13
theorem scRO : FnScope ["self", "name", "room"] ["self", "name"] (defScope sRO) := ⟨rfl, rfl, rfl, by decide +kernel, rfl, by decide +kernel, by decide +kernel⟩
theorem scPlaces : FnScope ["program", "name"] ["program", "name"] (defScope sPlaces) := ⟨rfl, rfl, rfl, by decide +kernel, rfl, by decide +kernel, by decide +kernel⟩
def spRO (C D : Addr) : Sp := fun vs H Q _ => ∃ (x R : Addr) (n : Str) (rs : List Rm) (i : Nat) (r : Rm), vs = [.ref x, .str n] ∧ HeldAt D H x R ∧ RsAt C H R rs ∧ rs[i]? = some r ∧ r.name = n ∧ (∀ j r', j < i → rs[j]? = some r' → r'.name ≠ n) ∧
  ∀ a, RmAt C H a r → Q (.ref a) H
/-- .. of a thing that is no room's name -/
def spROX (K : PySem.W.Frag) (C D CN : Addr) : Sp := fun vs H _ E => ∃ (x R : Addr) (v : V) (d : PyData) (rs : List Rm), vs = [.ref x, v] ∧ HeldAt D H x R ∧ RsAt C H R rs ∧ Dp K H v d ∧ SeqAt.shaped d = true ∧ (∀ r ∈ rs, SeqAt.shaped (.str r.name) = true ∧ PyData.eqv (.str r.name) d = false) ∧
  (∀ H', Same H H' → Small K H' v) ∧ ∀ b H', Same H H' → H' b = some (.xd [("name", v)]) → E (.ref CN) (some b) H'
def spPls (C D : Addr) : Sp := fun vs H Q _ => ∃ (x R : Addr) (n : Str) (rs : List Rm) (i : Nat) (r : Rm), vs = [.ref x, .str n] ∧ HeldAt D H x R ∧ RsAt C H R rs ∧ rs[i]? = some r ∧ r.name = n ∧ (∀ j r', j < i → rs[j]? = some r' → r'.name ≠ n) ∧ r.lays ∧
  ∀ p H', H p = none → Same H H' → FoundAt H' p r.places → Q (.ref p) H'
/-- what is known of Program's held -/
structure HeldC (K : PySem.W.Frag) (D : Addr) : Prop where
  cl : Cls K D
  held : NoAttr K D "held"
section
variable {P : Program} {w : World} {K : PySem.W.Frag} {mg : Str → Option Value} {base : Heap} {f C D CN nf : Addr} {fd nd : FuncData}
theorem ok_ro (T : RoomC K C) (TP : HeldC K D) (F : Fun K "room_of" "Program.room_of" sRO f fd) : FnOk P w K mg base CX0 1 f fd ["self", "name"] (spRO C D) := by
  refine F.ok scRO (fun vs H Q E h => ?_) (fun cdv A outer s H vs Q E hr h => ?_)
  · obtain ⟨x, R, n, rs, i, r, rfl, _⟩ := h
    rfl
  obtain ⟨x, R, n, rs, i, r, rfl, ⟨dx, v, hx⟩, ⟨as, hR, hp⟩, hi, hn, hno, q⟩ := h
  have hl := paired_len hp
  have hlt : i < rs.length := (List.getElem?_eq_some_iff.mp hi).1
  refine ⟨_, pss_cons (ps_for PassesOwn.never rfl (pi_tup (pe_fld (pv 0) rfl)) (pg_name (i := 2) scRO.nd rfl (Or.inl rfl)) (pss_one (ps_if (pt_cmpR op_eq (pe_fld (pv 2) rfl) (pv 1) (nomark _)) (pss_one (ps_ret (pv 2))) pss_nil))) (pss_one ps_never), ?_⟩
  refine ⟨_, rfl, x, D, dx, _, _, rfl, hx, TP.cl, TP.held, pf_held, R, rfl, ⟨_, SqT.of hR⟩, ?_⟩
  refine for_tup (K := K) (a := R) (xs := as.map V.ref) (fun j σ Hc => ∃ y, σ = [some (.ref x), some (.str n), y] ∧ Hc = H ∧ j ≤ i) ⟨_, rfl, rfl, Nat.zero_le _⟩ ?_ ?_ ?_
  · rintro j σ Hc _ ⟨y, rfl, rfl, _⟩
    exact SqT.of hR
  · rintro j z σ Hc hz ⟨y, rfl, rfl, hj⟩
    obtain ⟨e, he, rfl⟩ := refs_at hz
    obtain ⟨r', hr', hat⟩ := paired_get hp he
    obtain ⟨dx', n', a', b', s'', k', t', p', y', h1', h2'⟩ := id hat
    have hn' := h2'.name
    subst hn'
    refine ⟨_, rfl, e, C, dx', _, _, rfl, h1', T.cl, T.n1, rf_name, _, rfl, rfl, _, rfl, itD (fun c => ?_) (fun c => ?_)⟩
    · have c := V.str.inj c
      by_cases hji : j = i
      · subst hji
        rw [hi] at hr'
        cases hr'
        exact ⟨_, rfl, q e hat⟩
      · exact absurd c (hno j r' (by omega) hr')
    · refine ⟨_, rfl, rfl, ?_⟩
      by_cases hji : j = i
      · subst hji
        rw [hi] at hr'
        cases hr'
        exact absurd (by rw [hn]) c
      · omega
  · rintro σ Hc ⟨y, rfl, rfl, hj⟩
    rw [List.length_map] at hj
    omega
theorem ok_rox (T : RoomC K C) (TP : HeldC K D) (Z : NoRoomC K mg CN) (iN : PySem.W.findIn K (.ref CN) "__init__" = some (some (.ref nf))) (tN : PySem.W.typeIn K (.ref nf) = some (.type "function")) (GN : FnG P w K mg base CX0 1 nf nd ["self", "name"] (spX1 CN "name" (Small K))) (bN : Binds K nd ["self", "name"] [])
    (F : Fun K "room_of" "Program.room_of" sRO f fd) : FnG P w K mg base (L2.CX P w) 3 f fd ["self", "name"] (spROX K C D CN) := by
  refine fun_gX F scRO (fun vs H Q E h => ?_) (fun cdv A outer s H vs Q E hG hr h => ?_)
  · obtain ⟨x, R, v, d, rs, rfl, _⟩ := h
    rfl
  obtain ⟨x, R, v, d, rs, rfl, ⟨dx, v2, hx⟩, ⟨as, hR, hp⟩, hd, hsh, hne, hsm, q⟩ := h
  have hG' : (A.deeper (envOfC "Program.room_of" (defScope sRO) s.heap.objs.size f cdv)).guards = some [] := hG
  let X := cxOf (L2.CX P w) P w K mg base ["self", "name", "room"] "Program.room_of" (defScope sRO) f cdv A outer s H E
  have tk : Takes X (fun cls d _ H => E cls d H) := takes_of rfl rfl rfl rfl
  have hr2 : Room 2 X.A := hr
  refine ⟨_, pss_cons (ps_for (passes_of rfl) rfl (pi_tup (pe_fld (pv 0) rfl)) (pg_name (i := 2) scRO.nd rfl (Or.inl rfl)) (pss_one (ps_if (pt_cmpR (op_eqD hr.units) (pe_fld (pv 2) rfl) (pv 1) (nomark _)) (pss_one (ps_ret (pv 2))) pss_nil)))
    (pss_one (ps_raise rfl tk (pmk_xex Z.ox iN tN hG' GN hr2 bN pass0 rfl Z.mN (pa_cons (pv 1) pa_nil)))), ?_⟩
  refine ⟨_, rfl, x, D, dx, _, _, rfl, hx, TP.cl, TP.held, pf_held, R, rfl, ⟨_, SqT.of hR⟩, ?_⟩
  refine for_tup (K := K) (a := R) (xs := as.map V.ref) (fun j σ Hc => ∃ y, σ = [some (.ref x), some v, y] ∧ Hc = H) ⟨_, rfl, rfl⟩ ?_ ?_ ?_
  · rintro j σ Hc _ ⟨y, rfl, rfl⟩
    exact SqT.of hR
  · rintro j z σ Hc hz ⟨y, rfl, rfl⟩
    obtain ⟨e, he, rfl⟩ := refs_at hz
    obtain ⟨r', hr', hat⟩ := paired_get hp he
    obtain ⟨dx', n', a', b', s'', k', t', p', y', h1', h2'⟩ := id hat
    have hn' := h2'.name
    subst hn'
    refine ⟨_, rfl, e, C, dx', _, _, rfl, h1', T.cl, T.n1, rf_name, _, rfl, _, _, .str _, hd, (hne r' (List.mem_of_getElem? hr')).1, hsh, _, rfl, ?_⟩
    exact itF (hne r' (List.mem_of_getElem? hr')).2 ⟨_, rfl, rfl⟩
  · rintro σ Hc ⟨y, rfl, rfl⟩
    exact ⟨_, rfl, x1_made hsm q⟩
theorem ok_places (TP : HeldC K D) (F : Fun K "places" "places" sPlaces f fd) (D1 : Df P w K mg base 15 "room_places" ["room"] (spRP C)) (D2 : Mf P w K mg base D 1 "room_of" ["self", "name"] (spRO C D)) : FnOk P w K mg base CX0 16 f fd ["program", "name"] (spPls C D) := by
  refine F.ok scPlaces (fun vs H Q E h => ?_) (fun cdv A outer s H vs Q E hr h => ?_)
  · obtain ⟨x, R, n, rs, i, r, rfl, _⟩ := h
    rfl
  obtain ⟨x, R, n, rs, i, r, rfl, hx, hR, hi, hn, hno, hy, q⟩ := h
  obtain ⟨dx, v, hx'⟩ := id hx
  refine ⟨_, pss_one (ps_ret (pe_D D1 hr rfl (pa_cons (pe_M D2 TP.cl (pv 0) (hr.mono (by decide)) (pa_cons (pv 1) pa_nil)) pa_nil))), ?_⟩
  refine ⟨_, rfl, x, dx, _, rfl, hx', pf_none (by decide +kernel) (by decide +kernel), _, rfl, x, R, n, rs, i, r, rfl, hx, hR, hi, hn, hno, fun a ha => ?_⟩
  exact ⟨a, r, rfl, ha, hy, q⟩
theorem ok_placesX {df : Addr} {dd : FuncData} (TP : HeldC K D) (F : Fun K "places" "places" sPlaces f fd) (D1 : Df P w K mg base 15 "room_places" ["room"] (spRP C)) (hm : Meth K D "room_of" df) (G : FnG P w K mg base (L2.CX P w) 3 df dd ["self", "name"] (spROX K C D CN)) (bG : Binds K dd ["self", "name"] []) :
    FnG P w K mg base (L2.CX P w) 16 f fd ["program", "name"] (spROX K C D CN) := by
  refine fun_gX F scPlaces (fun vs H Q E h => ?_) (fun cdv A outer s H vs Q E hG hr h => ?_)
  · obtain ⟨x, R, v, d, rs, rfl, _⟩ := h
    rfl
  obtain ⟨x, R, v, d, rs, rfl, hx, r⟩ := h
  obtain ⟨dx, v2, hx'⟩ := id hx
  let X := cxOf (L2.CX P w) P w K mg base ["program", "name"] "places" (defScope sPlaces) f cdv A outer s H E
  have tk : Takes X (fun cls d _ H => E cls d H) := takes_of rfl rfl rfl rfl
  have hG' : X.A.guards = some [] := hG
  have hr' : Room 15 X.A := hr
  refine ⟨_, pss_one (ps_ret (pe_D D1 hr' rfl (pa_cons (pe_methG (X := X) (E := E) (pv 0) TP.cl hm G hG' (hr'.mono (by decide)) bG (passes_call tk fun cls d σ H h => h) (pa_cons (pv 1) pa_nil)) pa_nil))), ?_⟩
  exact ⟨_, rfl, x, dx, _, rfl, hx', pf_none (by decide +kernel) (by decide +kernel), _, rfl, x, R, v, d, rs, rfl, hx, r⟩
end
end Any
namespace Any
open L2 PySem PySem.Spec PyProof.Rows LamX NdefX
/-! ### _law_steps -/
def Bd.of : List Sg → Bd
  | [] => .nil
  | s :: r => .cons s (Bd.of r)
theorem of_at {H : Hp} : ∀ {vs : List V} {l : List Sg}, Paired (SgAt H) vs l → BdL H vs (Bd.of l)
  | _, _, .nil => by
    unfold Bd.of BdL
    rfl
  | _, _, .cons r t => by
    unfold Bd.of BdL
    exact ⟨_, _, rfl, r, of_at t⟩
theorem of_ok {xs ws rs : List Str} : ∀ {l : List Sg}, (∀ s ∈ l, s.ok xs ws rs) → (Bd.of l).ok xs ws rs
  | [], _ => by
    unfold Bd.of Bd.ok
    trivial
  | s :: r, h => by
    unfold Bd.of Bd.ok
    exact ⟨h s (List.mem_cons_self ..), of_ok fun t ht => h t (List.mem_cons_of_mem _ ht)⟩
theorem of_len : ∀ l : List Sg, (Bd.of l).len = l.length
  | [] => rfl
  | s :: r => by
    unfold Bd.of Bd.len
    rw [of_len r]
    rfl
theorem of_dp {k : Nat} : ∀ {l : List Sg}, (∀ s ∈ l, s.dp ≤ k) → (Bd.of l).dp ≤ k
  | [], _ => by
    unfold Bd.of Bd.dp
    omega
  | s :: r, h => by
    unfold Bd.of Bd.dp
    have h1 := h s (List.mem_cons_self ..)
    have h2 := of_dp (l := r) fun t ht => h t (List.mem_cons_of_mem _ ht)
    omega
theorem of_tot : ∀ l : List Sg, (Bd.of l).tot = (l.map Sg.tot).sum
  | [] => by
    unfold Bd.of Bd.tot
    rfl
  | s :: r => by
    unfold Bd.of Bd.tot
    rw [of_tot r, List.map_cons, List.sum_cons]
/-- how often a bag is asked, at most -/
def cs : Nat → Nat
  | 0 => 1000
  | n + 1 => 10 * cs n
/-- how many steps in all, at most -/
def inn : Nat → Nat
  | 0 => 0
  | 1 => 2
  | _ => 6
def rr : Nat → Nat
  | 2 => 4
  | _ => 2
def tt (d : Nat) : Nat := rr d + 2 * inn d
/-- what one turn asks of a bag, at most -/
def itc : Nat → Nat
  | 0 => 403
  | n + 1 => 403 + 2 * cs n
theorem itc_fits {d r : Nat} (h : d ≤ 2) (k : r ≤ rr d) : 2 + r * itc d ≤ cs d := by
  have : d = 0 ∨ d = 1 ∨ d = 2 := by omega
  rcases this with rfl | rfl | rfl
  · have k : r ≤ 2 := k
    show 2 + r * 403 ≤ 1000
    omega
  · have k : r ≤ 2 := k
    show 2 + r * 2403 ≤ 10000
    omega
  · have k : r ≤ 4 := k
    show 2 + r * 20403 ≤ 100000
    omega
/-- the list of boxes or rooms, by their names -/
structure StepsOk (d a : Nat) (xs rs : List Str) (bd : Bd) : Prop where
  ok : bd.ok xs (wsOf a) rs
  len : bd.len ≤ rr d
  dp : bd.dp ≤ d + 1
  tot : bd.tot ≤ tt d
def spSteps (n : Nat) : Sp := fun vs H Q _ => ∃ (b l bn : Addr) (d m a : Nat) (xs rs : List Str), vs = [.ref b, .ref l, .int a, .ref bn, .int d] ∧ a ≤ 1 ∧ d < n ∧ d ≤ 2 ∧ Bag H b m ∧ m + cs d < 2 ^ 40 ∧ H l = some (.lst (xs.map V.str)) ∧ l ≠ b ∧ 1 ≤ xs.length ∧ xs.length ≤ 8 ∧
  H bn = some (.lst (rs.map V.str)) ∧ bn ≠ b ∧ rs.length ≤ 8 ∧ (∀ r ∈ rs, PyData.strOk r = true) ∧ ∀ (p : Addr) (bd : Bd) (H' : Hp), Kept b H H' → Bag H' b (m + cs d) → BdAt H' p bd → StepsOk d a xs rs bd → Q (.ref p) H'
abbrev sSteps : Stmt := top 86
abbrev psSt : List Str := ["_law_bag_here", "_law_names", "_law_asks", "_law_beneath", "_law_deep"]
abbrev nmSt : List Str := ["_law_bag_here", "_law_names", "_law_asks", "_law_beneath", "_law_deep", "_law_found", "_law_spot", "_law_k", "_law_sort", "_law_box", "_law_term", "_law_inner", "_law_other", "_law_test_here"]
theorem scSt : FnScope nmSt psSt (defScope sSteps) := ⟨rfl, rfl, rfl, by decide +kernel, rfl, by decide +kernel, by decide +kernel⟩
theorem turns_at {d : Nat} (h : d ≤ 2) : ∃ n : Int, atI [V.int 3, V.int 3, V.int 5] (d : Int) = some (.int n) ∧ 1 ≤ n ∧ n ≤ 5 ∧ n = rr d + 1 := by
  have : d = 0 ∨ d = 1 ∨ d = 2 := by omega
  rcases this with rfl | rfl | rfl
  · exact ⟨3, rfl, by decide, by decide, rfl⟩
  · exact ⟨3, rfl, by decide, by decide, rfl⟩
  · exact ⟨5, rfl, by decide, by decide, rfl⟩
theorem strs_data {K : PySem.W.Frag} {H : Hp} : ∀ xs : List Str, DpAll K H (xs.map V.str) (xs.map PyData.str)
  | [] => .nil
  | x :: r => .cons (.str x) (strs_data r)
end Any
namespace Any
open L2 PySem PySem.Spec PyProof.Rows LamX NdefX
def elBody : Stmt → List Stmt
  | .If _ _ b _ => b
  | _ => []
def forBody : Stmt → List Stmt
  | .For _ _ b _ _ => b
  | _ => []
def stAt (l : List Stmt) (i : Nat) : Stmt := l.getD i (.Pass ⟨0, 0, 0, 0⟩)
theorem shaped_strs : ∀ rs : List Str, (∀ r ∈ rs, PyData.strOk r = true) → PyData.canLayAll0 (rs.map PyData.str) = true ∧ PyData.depthAll (rs.map PyData.str) = 0
  | [], _ => ⟨rfl, rfl⟩
  | x :: r, h => by
    obtain ⟨h1, h2⟩ := shaped_strs r fun y hy => h y (List.mem_cons_of_mem _ hy)
    have h3 := h x (List.mem_cons_self ..)
    refine ⟨?_, ?_⟩
    · show (PyData.strOk x && PyData.canLayAll0 (r.map PyData.str)) = true
      rw [h1, h3]
      rfl
    · show max 0 (PyData.depthAll (r.map PyData.str)) = 0
      rw [h2]
      rfl
theorem shaped_lst {rs : List Str} (h : ∀ r ∈ rs, PyData.strOk r = true) : SeqAt.shaped (.list (rs.map PyData.str)) = true := by
  obtain ⟨h1, h2⟩ := shaped_strs rs h
  unfold SeqAt.shaped
  show (PyData.canLayAll0 (rs.map PyData.str) && decide (PyData.depthAll (rs.map PyData.str) + 1 ≤ 64)) = true
  rw [h1, h2]
  rfl
theorem eqv_nil (rs : List Str) : PyData.eqv (.list (rs.map PyData.str)) (.list []) = decide (rs = []) := by
  cases rs with
  | nil => rfl
  | cons x r => rfl
theorem inn_tt {e : Nat} (h : e + 1 ≤ 2) : inn (e + 1) = tt e := by
  have : e = 0 ∨ e = 1 := by omega
  rcases this with rfl | rfl <;> rfl
theorem rr_le (e : Nat) : rr e ≤ 4 := by
  unfold rr
  split <;> omega
theorem itc_lo (d : Nat) : 403 ≤ itc d := by
  cases d with
  | zero => exact Nat.le_refl _
  | succ n => exact Nat.le_add_right _ _
theorem in45 {s : Int} (h : inV (.int s) [.int 4, .int 5] = true) : s = 4 ∨ s = 5 := by
  have h : ((4 : Int) == s || ((5 : Int) == s || false)) = true := h
  simp at h
  omega
theorem cs_lo (d : Nat) : 1000 ≤ cs d := by
  cases d with
  | zero => exact Nat.le_refl _
  | succ n =>
    have := cs_lo n
    show 1000 ≤ 10 * cs n
    omega
theorem strs_mem {xs : List Str} {v : V} (h : v ∈ xs.map V.str) : ∃ x ∈ xs, v = .str x := by
  obtain ⟨x, h1, h2⟩ := List.mem_map.mp h
  exact ⟨x, h1, h2.symm⟩
section
variable {P : Program} {w : World} {K : PySem.W.Frag} {mg : Str → Option Value} {base : Heap} {f : Addr} {fd : FuncData}
theorem no_steps {k : Nat} : FnOk P w K mg base CX0 k f fd psSt (spSteps 0) := by
  have no : ∀ vs H Q E, ¬ spSteps 0 vs H Q E := fun vs H Q E h => by
    obtain ⟨b, l, bn, d, m, a, xs, rs, _, _, hd, _⟩ := h
    omega
  exact ⟨fun vs H Q E h => absurd h (no vs H Q E), fun A outer s H args us vs Q E _ _ _ _ h => absurd h (no vs H Q E)⟩
set_option maxHeartbeats 1000000 in
theorem ok_steps {n : Nat} (mr : mg "range" = none) (mt : mg "tuple" = none) (F : Fun K "_law_steps" "_law_steps" sSteps f fd) (DT : Df P w K mg base 1 "_law_take" ["_law_bag_here", "_law_many"] spTake) (DO : Df P w K mg base 2 "_law_of" ["_law_bag_here", "_law_some"] spOf)
    (DX : Df P w K mg base 9 "_law_expr" psE (spExpr 7)) (DS : Df P w K mg base 17 "_law_test" psE (spTest 8)) (DG : Df P w K mg base (n + 18) "_law_steps" psSt (spSteps n)) : FnOk P w K mg base CX0 (n + 19) f fd psSt (spSteps (n + 1)) := by
  refine F.ok scSt (fun vs H Q E h => ?_) (fun cdv A outer s H vs Q E hr h => ?_)
  · obtain ⟨b, l, bn, d, m, a, xs, rs, rfl, _⟩ := h
    rfl
  obtain ⟨b, l, bn, d, m, as, xs, rs, rfl, has, hd, hd2, hB, hm, hl, hlb, hx1, hx8, hbn, hbb, hr8, hro, q⟩ := h
  have hr1 := hr.mono (show 1 ≤ n + 18 by omega)
  have hr2 := hr.mono (show 2 ≤ n + 18 by omega)
  have hr9 := hr.mono (show 9 ≤ n + 18 by omega)
  have hr17 := hr.mono (show 17 ≤ n + 18 by omega)
  have hs : sizeLine = 16777216 := sizeLine_eq
  have c2 : ce 2 = 35 := rfl
  have hcs := cs_lo d
  have c3 : ce 3 = 75 := rfl
  have tc3 : ct 3 = 365 := rfl
  -- a set, a hear or a say
  obtain ⟨t3, ht3, leaf3⟩ : ∃ t3, PSs (cxOf CX0 P w K mg base nmSt "_law_steps" (defScope sSteps) f cdv A outer s H E).nox (elBody (stAt (elBody (stAt (forBody (stAt (defBody sSteps) 1)) 1)) 0)) t3 ∧
      ∀ (D : Ends) (H6 : Hp) (L : Addr) (z6 z7 z11 z12 z13 : Option V) (srt : Int) (xb : Str) (ve : V) (e : Ex) (M : Nat) (vs : List V), 0 ≤ srt → srt < 10 → xb ∈ xs → ExAt H6 ve e → e.right xs (wsOf as) → Bag H6 b M → M + 76 ≤ m + cs d → Kept b H H6 → L ≠ b → H6 L = some (.lst vs) →
        (∀ v sg H9, Kept b H6 H9 → Bag H9 b (M + 76) → SgAt H9 v sg → sg.ok xs (wsOf as) rs → sg.dp ≤ d + 1 → sg.tot ≤ 1 → H9 L = some (.lst vs) ∧ vs.length < sizeLine ∧
          D.nx [some (.ref b), some (.ref l), some (.int as), some (.ref bn), some (.int d), some (.ref L), z6, z7, some (.int srt), some (.str xb), some ve, z11, z12, z13] (upd H9 L (.lst (vs ++ [v])))) →
        t3 D [some (.ref b), some (.ref l), some (.int as), some (.ref bn), some (.int d), some (.ref L), z6, z7, some (.int srt), some (.str xb), some ve, z11, z12, z13] H6 := by
    refine ⟨_, (pss_one (ps_if (pt_cmpR op_in_seq (pv 8) (pe_tup (pa_cons pe_int (pa_cons pe_int pa_nil))) (by rfl))
            (pss_one (ps_expr (pe_bm PySem.F.plainAttrs_list PySem.F.slot_list_append PySem.F.type_list_append mt_append (pv 5) (pa_cons (pe_ix ix_list (pe_lst (pa_cons (pe_tup (pa_cons pe_str (pa_cons (pv 9) pa_nil))) (pa_cons (pe_tup (pa_cons pe_str (pa_cons (pv 9) (pa_cons (pv 10) pa_nil)))) pa_nil))) (pe_op op_sub (pv 8) pe_int) (fun _ _ => rfl)) pa_nil))))
            (pss_one (ps_expr (pe_bm PySem.F.plainAttrs_list PySem.F.slot_list_append PySem.F.type_list_append mt_append (pv 5) (pa_cons (pe_tup (pa_cons pe_str (pa_cons (pv 9) (pa_cons (pe_D DX hr9 rfl (pa_cons (pv 0) (pa_cons (pv 1) (pa_cons (pv 2) (pa_cons pe_int pa_nil))))) pa_nil)))) pa_nil)))))), ?_⟩
    intro D H6 L z6 z7 z11 z12 z13 srt xb ve e M vs s0 s1 hxb he her B6 hM k6 hLb eL fin
    refine ⟨_, rfl, (by show 2 ≤ sizeLine; omega), fun p np => ⟨p, _, rfl, .inr (SqT.of upd_same), rfl, rfl, inV (.int srt) [.int 4, .int 5], rfl, ?_⟩⟩
    have sp := same_new np (.tup [.int 4, .int 5])
    cases e45 : inV (.int srt) [.int 4, .int 5] with
    | true =>
      refine itT rfl ⟨_, rfl, .inl ⟨rfl, _, SqL.of (sp _ _ eL)⟩, ?_⟩
      refine ⟨_, rfl, (by show 2 ≤ sizeLine; omega), fun p1 n1 => ⟨_, rfl, _, rfl, (by show 3 ≤ sizeLine; omega), fun p2 n2 => ⟨(by show 2 ≤ sizeLine; omega), fun p4 n4 => ?_⟩⟩⟩
      have s1' := same_new n1 (.tup [.str "hear", .str xb])
      have s2' := same_new n2 (.tup [.str "say", .str xb, ve])
      have s4' := same_new n4 (.lst [.ref p1, .ref p2])
      have sA := sp.trans (s1'.trans (s2'.trans s4'))
      have a1 := s4' _ _ (s2' _ _ (@upd_same (upd H6 p (.tup [.int 4, .int 5])) p1 (.tup [.str "hear", .str xb])))
      have a2 := s4' _ _ (@upd_same (upd (upd H6 p (.tup [.int 4, .int 5])) p1 (.tup [.str "hear", .str xb])) p2 (.tup [.str "say", .str xb, ve]))
      rcases in45 e45 with rfl | rfl
      · obtain ⟨f1, f2, f3⟩ := fin (.ref p1) (.hear xb) _ (.of sA) ((B6.keep sA).more (by omega)) (by unfold SgAt; exact ⟨p1, rfl, a1⟩) (by unfold Sg.ok; exact hxb) (by unfold Sg.dp; omega) (by unfold Sg.tot; omega)
        exact ⟨_, rfl, _, _, rfl, rfl, p4, _, _, _, rfl, rfl, SqL.of upd_same, rfl, L, vs, _, rfl, rfl, f1, f2, f3⟩
      · obtain ⟨f1, f2, f3⟩ := fin (.ref p2) (.say xb e) _ (.of sA) ((B6.keep sA).more (by omega)) (by unfold SgAt; exact ⟨p2, ve, rfl, a2, he.keep (Same.tups sA)⟩) (by unfold Sg.ok; exact ⟨hxb, her⟩) (by unfold Sg.dp; omega) (by unfold Sg.tot; omega)
        exact ⟨_, rfl, _, _, rfl, rfl, p4, _, _, _, rfl, rfl, SqL.of upd_same, rfl, L, vs, _, rfl, rfl, f1, f2, f3⟩
    | false =>
      refine itF rfl ⟨_, rfl, .inl ⟨rfl, _, SqL.of (sp _ _ eL)⟩, ?_⟩
      refine ⟨_, rfl, _, rfl, _, rfl, _, rfl, b, l, 3, M, xs, as, rfl, has, by decide, B6.keep sp, by omega, sp _ _ (k6 _ _ hlb hl), hlb, hx8, fun v2 e2 H8 k8 B8 b1 b2 b3 => ⟨(by show 3 ≤ sizeLine; omega), fun p5 n5 => ?_⟩⟩
      have s5 := same_new n5 (.tup [.str "set", .str xb, v2])
      obtain ⟨f1, f2, f3⟩ := fin (.ref p5) (.set xb e2) _ ((Kept.of sp).trans (k8.trans (.of s5))) ((B8.keep s5).more (by omega)) (by unfold SgAt; exact ⟨p5, v2, rfl, upd_same, b1.keep (Same.tups s5)⟩)
        (by unfold Sg.ok; exact ⟨hxb, Ex.right_of b3 (by have : max 3 1 = 3 := rfl; omega)⟩) (by unfold Sg.dp; omega) (by unfold Sg.tot; omega)
      exact ⟨L, vs, _, rfl, rfl, f1, f2, f3⟩
  obtain ⟨t2, ht2, leaf⟩ : ∃ t2, PSs (cxOf CX0 P w K mg base nmSt "_law_steps" (defScope sSteps) f cdv A outer s H E).nox (elBody (stAt (forBody (stAt (defBody sSteps) 1)) 1)) t2 ∧
      ∀ (D : Ends) (H6 : Hp) (L : Addr) (z6 z7 z11 z12 z13 : Option V) (srt : Int) (xb : Str) (ve : V) (e : Ex) (M : Nat) (vs : List V), 0 ≤ srt → srt < 10 → xb ∈ xs → ExAt H6 ve e → e.right xs (wsOf as) → Bag H6 b M → M + 76 ≤ m + cs d → Kept b H H6 → L ≠ b → H6 L = some (.lst vs) →
        (∀ v sg H9, Kept b H6 H9 → Bag H9 b (M + 76) → SgAt H9 v sg → sg.ok xs (wsOf as) rs → sg.dp ≤ d + 1 → sg.tot ≤ 1 → H9 L = some (.lst vs) ∧ vs.length < sizeLine ∧
          D.nx [some (.ref b), some (.ref l), some (.int as), some (.ref bn), some (.int d), some (.ref L), z6, z7, some (.int srt), some (.str xb), some ve, z11, z12, z13] (upd H9 L (.lst (vs ++ [v])))) →
        t2 D [some (.ref b), some (.ref l), some (.int as), some (.ref bn), some (.int d), some (.ref L), z6, z7, some (.int srt), some (.str xb), some ve, z11, z12, z13] H6 := by
    refine ⟨_, (pss_one (ps_if (PW.pt (pw_and (pt_cmpR op_gt (pv 8) pe_int (nomark _)) (pw_and1 (pt_cmpR (op_neD hr.units) (pv 3) (pe_lst pa_nil) (nomark _)))))
          (pss_one (ps_expr (pe_bm PySem.F.plainAttrs_list PySem.F.slot_list_append PySem.F.type_list_append mt_append (pv 5) (pa_cons (pe_tup (pa_cons pe_str (pa_cons (pv 9) (pa_cons (pe_D DO hr2 rfl (pa_cons (pv 0) (pa_cons (pv 3) pa_nil))) (pa_cons (pv 10) pa_nil))))) pa_nil)))) ht3)), ?_⟩
    intro D H6 L z6 z7 z11 z12 z13 srt xb ve e M vs s0 s1 hxb he her B6 hM k6 hLb eL fin
    refine ⟨_, rfl, _, _, rfl, rfl, _, rfl, itD (fun c => ?_) (fun c => itF rfl (leaf3 D H6 L z6 z7 z11 z12 z13 srt xb ve e M vs s0 s1 hxb he her B6 hM k6 hLb eL fin))⟩
    refine ⟨_, rfl, (by show 0 ≤ sizeLine; omega), fun p np => ?_⟩
    have sp := same_new np (.lst [])
    refine ⟨.list (rs.map PyData.str), .list [], .lst (SqL.of (sp _ _ (k6 _ _ hbb hbn))) (strs_data rs), .lst (SqL.of upd_same) .nil, shaped_lst hro, rfl, _, rfl, ?_⟩
    rw [eqv_nil]
    refine itN (fun c2 => ?_) (fun c2 => ?_)
    · have hr1' : 1 ≤ rs.length := by
        cases rs with
        | nil => exact absurd rfl c2
        | cons x r => exact Nat.le_add_left 1 _
      refine ⟨_, rfl, .inl ⟨rfl, _, SqL.of (sp _ _ eL)⟩, ?_⟩
      refine ⟨_, rfl, _, rfl, _, rfl, b, bn, rs.map V.str, M, rfl, B6.keep sp, by omega, sp _ _ (k6 _ _ hbb hbn), hbb, by rw [List.length_map]; exact hr1', by rw [List.length_map]; omega, fun vr H8 k8 B8 hvr => ⟨_, rfl, (by show 4 ≤ sizeLine; omega), fun p5 n5 => ?_⟩⟩
      obtain ⟨xr, hxr, rfl⟩ := strs_mem hvr
      have s5 := same_new n5 (.tup [.str "call", .str xb, .str xr, ve])
      have t8 : Tups H6 _ := B6.tups ((Kept.of sp).trans (k8.trans (.of s5)))
      obtain ⟨f1, f2, f3⟩ := fin (.ref p5) (.call xb xr e) _ ((Kept.of sp).trans (k8.trans (.of s5))) ((B8.keep s5).more (by omega)) (by unfold SgAt; exact ⟨p5, ve, rfl, upd_same, he.keep t8⟩)
        (by unfold Sg.ok; exact ⟨hxb, hxr, her⟩) (by unfold Sg.dp; omega) (by unfold Sg.tot; omega)
      exact ⟨L, vs, _, rfl, rfl, f1, f2, f3⟩
    · exact leaf3 D _ L z6 z7 z11 z12 z13 srt xb ve e M vs s0 s1 hxb (he.keep (Same.tups sp)) her (B6.keep sp) hM (k6.trans (.of sp)) hLb (sp _ _ eL) (fun v sg H9 k9 => fin v sg H9 ((Kept.of sp).trans k9))
  refine ⟨_, pss_cons (ps_par (i := 5) (j := 6) (by rfl) scSt.nd rfl rfl (by decide) rfl rfl (pa_cons (pe_lst pa_nil) (pa_cons (pe_D DT hr1 rfl (pa_cons (pv 0) (pa_cons pe_int pa_nil))) pa_nil)) (by rfl))
    (pss_cons (ps_for PassesOwn.never rfl (pi_range1 rfl mr (pa_cons (pe_D DT hr1 rfl (pa_cons (pv 0) (pa_cons (pe_ix ix_list (pe_lst (pa_cons pe_int (pa_cons pe_int (pa_cons pe_int pa_nil)))) (pv 4) (fun _ _ => rfl)) pa_nil))) pa_nil)) (pg_name (i := 7) scSt.nd rfl (Or.inl rfl))
      (pss_cons (ps_par3 (i := 8) (j := 9) (l := 10) (by rfl) scSt.nd rfl rfl rfl (by decide) (by decide) (by decide) rfl rfl rfl (pa_cons (pe_D DT hr1 rfl (pa_cons (pv 0) (pa_cons pe_int pa_nil))) (pa_cons (pe_D DO hr2 rfl (pa_cons (pv 0) (pa_cons (pv 1) pa_nil))) (pa_cons (pe_D DX hr9 rfl (pa_cons (pv 0) (pa_cons (pv 1) (pa_cons (pv 2) (pa_cons pe_int pa_nil))))) pa_nil))) (by rfl))
      (pss_one (ps_if (PW.pt (pw_and (pt_cmpR op_eq (pv 7) (pv 6) (nomark _)) (pw_and (pt_cmpR op_gt (pv 4) pe_int (nomark _)) (pw_and1 (pt_cmpR op_gt (pv 8) pe_int (nomark _))))))
        (pss_cons (ps_set (i := 11) scSt.nd rfl (Or.inl rfl) (pe_D DG hr rfl (pa_cons (pv 0) (pa_cons (pv 1) (pa_cons (pv 2) (pa_cons (pv 3) (pa_cons (pe_op op_sub (pv 4) pe_int) pa_nil)))))))
        (pss_cons (ps_set (i := 12) scSt.nd rfl (Or.inl rfl) (pe_D DG hr rfl (pa_cons (pv 0) (pa_cons (pv 1) (pa_cons (pv 2) (pa_cons (pv 3) (pa_cons (pe_op op_sub (pv 4) pe_int) pa_nil)))))))
        (pss_cons (ps_set (i := 13) scSt.nd rfl (Or.inl rfl) (pe_D DS hr17 rfl (pa_cons (pv 0) (pa_cons (pv 1) (pa_cons (pv 2) (pa_cons pe_int pa_nil))))))
        (pss_one (ps_expr (pe_bm PySem.F.plainAttrs_list PySem.F.slot_list_append PySem.F.type_list_append mt_append (pv 5) (pa_cons (pe_ix ix_list (pe_lst (pa_cons (pe_tup (pa_cons pe_str (pa_cons (pv 13) (pa_cons (pv 11) (pa_cons (pv 12) pa_nil)))))
          (pa_cons (pe_tup (pa_cons pe_str (pa_cons (pv 10) (pa_cons (pe_op op_add pe_int (pe_D DT hr1 rfl (pa_cons (pv 0) (pa_cons pe_int pa_nil)))) (pa_cons (pv 11) pa_nil))))) pa_nil))) (pe_op op_mod (pv 8) pe_int) (fun _ _ => rfl)) pa_nil)))))))
        ht2))))
    (pss_one (ps_ret (pe_callTy call_tuple_of rfl mt (by decide +kernel) (pa_cons (pv 5) pa_nil))))), ?_⟩
  refine ⟨(by show 0 ≤ sizeLine; omega), fun L nL => ⟨_, rfl, b, 3, m, rfl, hB.keep (same_new nL _), by omega, by decide, by decide, fun spot H1 k1 B1 sp0 sp3 => ⟨_, _, rfl, ?_⟩⟩⟩
  have bL : L ≠ b := hB.ne nL
  have eL1 : H1 L = some (.lst []) := k1 _ _ bL upd_same
  have k1 : Kept b H H1 := (Kept.new nL _).trans k1
  obtain ⟨tn, etn, tn1, tn5, etr⟩ := turns_at hd2
  refine ⟨_, rfl, (by show 3 ≤ sizeLine; omega), fun p3 n3 => ⟨_, rfl, p3, _, _, _, rfl, rfl, SqL.of upd_same, etn, ?_⟩⟩
  refine ⟨b, tn, m + 1, rfl, B1.keep (same_new n3 _), by omega, tn1, by omega, fun cnt H2 k2 B2 c0 c1 => ⟨cnt, rfl, by omega, by omega, ?_⟩⟩
  have k2 := (Kept.new n3 _).trans k2
  have eL2 : H2 L = some (.lst []) := k2 _ _ bL eL1
  have k2 : Kept b H H2 := k1.trans k2
  let Pv : Nat → L2.St → Hp → Prop := fun i σ Hc => ∃ (ss : List Sg) (vs : List V) (y7 y8 y9 y10 y11 y12 y13 : Option V),
    σ = [some (.ref b), some (.ref l), some (.int as), some (.ref bn), some (.int d), some (.ref L), some (.int spot), y7, y8, y9, y10, y11, y12, y13] ∧ Hc L = some (.lst vs) ∧ Paired (SgAt Hc) vs ss ∧ ss.length = i ∧
    (∀ sg ∈ ss, sg.ok xs (wsOf as) rs ∧ sg.dp ≤ d + 1) ∧ (ss.map Sg.tot).sum ≤ i + (if spot < i then 2 * inn d else 0) ∧ Bag Hc b (m + 2 + i * itc d) ∧ Kept b H Hc
  refine for_range (lo := 0) Pv ⟨[], [], none, none, none, none, none, none, none, rfl, eL2, .nil, rfl, (fun sg hg => by cases hg), Nat.zero_le _, B2.more (by omega), k2⟩ ?_ ?_
  · rintro i σ Hc hi ⟨ss, vs, y7, y8, y9, y10, y11, y12, y13, rfl, eL, hp, hlen, hok, htot, B3, k3⟩
    have hit := itc_fits (d := d) (r := i + 1) hd2 (by omega)
    rw [Nat.succ_mul] at hit
    have hlo := itc_lo d
    have hrr := rr_le d
    have hvs := paired_len hp
    -- one step more
    have fin : ∀ (v : V) (sg : Sg) (H9 : Hp), Kept b Hc H9 → Bag H9 b (m + 2 + i * itc d + itc d) → SgAt H9 v sg → sg.ok xs (wsOf as) rs → sg.dp ≤ d + 1 → sg.tot ≤ 1 + (if (0 : Int) + i = spot then 2 * inn d else 0) →
        H9 L = some (.lst vs) ∧ vs.length < sizeLine ∧ ∀ y7 y8 y9 y10 y11 y12 y13 : Option V, Pv (i + 1) [some (.ref b), some (.ref l), some (.int as), some (.ref bn), some (.int d), some (.ref L), some (.int spot), y7, y8, y9, y10, y11, y12, y13] (upd H9 L (.lst (vs ++ [v]))) := by
      intro v sg H9 k9 B9 hv o1 o2 o3
      have eL9 := k9 _ _ bL eL
      have t9 := B3.tups k9
      have tL : Tups H9 (upd H9 L (.lst (vs ++ [v]))) := fun a' ts ha => by
        rw [upd_ne (ne_of ha eL9 (by intro z; cases z))]
        exact ha
      refine ⟨eL9, by omega, fun z7 z8 z9 z10 z11 z12 z13 => ⟨ss ++ [sg], vs ++ [v], z7, z8, z9, z10, z11, z12, z13, rfl, upd_same, ?_, by rw [List.length_append, hlen]; rfl, fun g hg => ?_, ?_, ?_, ?_⟩⟩
      · exact paired_snoc (paired_imp (fun _ _ z => SgAt.keep tL _ (SgAt.keep t9 _ z)) hp) (SgAt.keep tL _ hv)
      · rcases List.mem_append.mp hg with hg | hg
        · exact hok g hg
        · rw [List.mem_singleton.mp hg]
          exact ⟨o1, o2⟩
      · rw [List.map_append, List.sum_append]
        show _ + (sg.tot + 0) ≤ _
        by_cases z : (0 : Int) + i = spot
        · rw [if_pos z] at o3
          rw [if_neg (by omega)] at htot
          rw [if_pos (by omega)]
          omega
        · rw [if_neg z] at o3
          by_cases z2 : spot < i
          · rw [if_pos z2] at htot
            rw [if_pos (by omega)]
            omega
          · rw [if_neg z2] at htot
            rw [if_neg (by omega)]
            omega
      · exact (B9.off bL _).more (by rw [Nat.succ_mul]; omega)
      · intro a' o' na ha
        rw [upd_ne (fun z => by rw [z, nL] at ha; cases ha)]
        exact k9 _ _ na (k3 _ _ na ha)
    generalize eN : i * itc d = N at *
    refine ⟨_, rfl, b, 10, m + 2 + N, rfl, B3, by omega, by decide, by decide, fun srt H4 k4 B4 s0 s1 => ?_⟩
    refine ⟨_, rfl, _, rfl, b, l, xs.map V.str, m + 2 + N + 1, rfl, B4, by omega, (k3.trans k4) _ _ hlb hl, hlb, by rw [List.length_map]; exact hx1, by rw [List.length_map]; omega, fun vb H5 k5 B5 hvb => ?_⟩
    obtain ⟨xb, hxb, rfl⟩ := strs_mem hvb
    refine ⟨_, rfl, _, rfl, _, rfl, b, l, 2, m + 2 + N + 1 + 1, xs, as, rfl, has, by decide, B5, by omega, (k3.trans (k4.trans k5)) _ _ hlb hl, hlb, hx8, fun ve ex0 H6 k6 B6 a1 a2 a3 => ⟨_, _, _, rfl, ?_⟩⟩
    rw [c2] at B6
    have her : ex0.right xs (wsOf as) := Ex.right_of a3 (by have : max 2 1 = 2 := rfl; omega)
    have kc6 : Kept b Hc H6 := k4.trans (k5.trans k6)
    have k6' : Kept b H H6 := k3.trans kc6
    have go : ∀ (D : Ends) (z6 z7 z11 z12 z13 : Option V), z6 = some (.int spot) → D.nx = Pv (i + 1) → t2 D [some (.ref b), some (.ref l), some (.int as), some (.ref bn), some (.int d), some (.ref L), z6, z7, some (.int srt), some (.str xb), some ve, z11, z12, z13] H6 := by
      intro D z6 z7 z11 z12 z13 e6 eD
      refine leaf D H6 L z6 z7 z11 z12 z13 srt xb ve ex0 (m + 2 + N + 1 + 1 + 35) vs s0 s1 hxb a1 her B6 (by omega) k6' bL (kc6 _ _ bL eL) (fun v sg H9 k9 B9 g1 g2 g3 g4 => ?_)
      obtain ⟨f1, f2, f3⟩ := fin v sg H9 (kc6.trans k9) (B9.more (by omega)) g1 g2 g3 (by omega)
      refine ⟨f1, f2, ?_⟩
      rw [eD, e6]
      exact f3 _ _ _ _ _ _ _
    refine ⟨_, rfl, _, rfl, rfl, _, rfl, itEq (fun e1 => ?_) (fun e1 => itF rfl (go _ _ _ _ _ _ rfl rfl))⟩
    refine ⟨_, rfl, _, _, rfl, rfl, _, rfl, itD (fun e2 => ?_) (fun e2 => itF rfl (go _ _ _ _ _ _ rfl rfl))⟩
    refine ⟨_, rfl, _, _, rfl, rfl, _, rfl, itD (fun e3 => ?_) (fun e3 => go _ _ _ _ _ _ rfl rfl)⟩
    obtain ⟨g, hg⟩ : ∃ g, d = g + 1 := ⟨d - 1, by omega⟩
    have hg1 : (d : Int) - 1 = (g : Int) := by omega
    have hig : itc d = 403 + 2 * cs g := by rw [hg]; rfl
    have hint : inn d = tt g := by rw [hg]; exact inn_tt (by omega)
    have htg : tt g ≤ 100 := by
      have := rr_le g
      unfold tt inn
      split <;> omega
    have hrg := rr_le g
    refine ⟨_, rfl, _, rfl, _, rfl, _, rfl, _, rfl, _, _, rfl, rfl, b, l, bn, g, m + 2 + N + 1 + 1 + 35, as, xs, rs, (by rw [← hg1]; rfl), has, by omega, by omega, B6, by omega, k6' _ _ hlb hl, hlb, hx1, hx8, k6' _ _ hbb hbn, hbb, hr8, hro, fun pA bA H7 k7 B7 atA okA => ?_⟩
    have k7' := k6'.trans k7
    refine ⟨_, rfl, _, rfl, _, rfl, _, rfl, _, rfl, _, _, rfl, rfl, b, l, bn, g, m + 2 + N + 1 + 1 + 35 + cs g, as, xs, rs, (by rw [← hg1]; rfl), has, by omega, by omega, B7, by omega, k7' _ _ hlb hl, hlb, hx1, hx8, k7' _ _ hbb hbn, hbb, hr8, hro, fun pB bB H8 k8 B8 atB okB => ?_⟩
    have k8' := k7'.trans k8
    refine ⟨_, rfl, _, rfl, _, rfl, b, l, 3, m + 2 + N + 1 + 1 + 35 + cs g + cs g, xs, as, rfl, has, by decide, by decide, by decide, B8, by omega, k8' _ _ hlb hl, hlb, hx8, fun vt tst H9 k9 B9 q1 q2 q3 => ?_⟩
    rw [tc3] at B9
    have k9' := k8'.trans k9
    have kc9 : Kept b Hc H9 := kc6.trans (k7.trans (k8.trans k9))
    have atA := (atA.keep (B7.tups k8)).keep (B8.tups k9)
    have atB := atB.keep (B8.tups k9)
    have a1 := ((a1.keep (B6.tups k7)).keep (B7.tups k8)).keep (B8.tups k9)
    have eL9 := kc9 _ _ bL eL
    refine ⟨_, rfl, .inl ⟨rfl, _, SqL.of eL9⟩, ?_⟩
    refine ⟨_, rfl, _, rfl, _, rfl, (by show 4 ≤ sizeLine; omega), fun p1 n1 => ?_⟩
    have s1' := same_new n1 (.tup [.str "if", vt, .ref pA, .ref pB])
    refine ⟨_, rfl, _, rfl, b, 3, m + 2 + N + 1 + 1 + 35 + cs g + cs g + 365, rfl, B9.keep s1', by omega, by decide, by decide, fun dm H10 k10 B10 dm0 dm3 => ⟨_, _, rfl, rfl, _, rfl, (by show 4 ≤ sizeLine; omega), fun p2 n2 => ⟨(by show 2 ≤ sizeLine; omega), fun p4 n4 => ?_⟩⟩⟩
    have s2' := same_new n2 (.tup [.str "for", ve, .int (1 + dm), .ref pA])
    have s4' := same_new n4 (.lst [.ref p1, .ref p2])
    have b1 : p1 ≠ b := B9.ne n1
    have e1' := s4' _ _ (s2' _ _ (k10 _ _ b1 (@upd_same H9 p1 (.tup [.str "if", vt, .ref pA, .ref pB]))))
    have e2' := s4' _ _ (@upd_same H10 p2 (.tup [.str "for", ve, .int (1 + dm), .ref pA]))
    have kA : Kept b H9 _ := (Kept.of s1').trans (k10.trans (.of (s2'.trans s4')))
    have tA : Tups H9 _ := B9.tups kA
    have BA := ((B10.keep s2').keep s4').more (show m + 2 + N + 1 + 1 + 35 + cs g + cs g + 365 + 1 ≤ m + 2 + N + itc d by omega)
    refine ⟨_, rfl, _, _, rfl, rfl, (by show (0 : Int) < 2; decide), ?_⟩
    obtain ⟨usA, uA1, uA2⟩ := atA.keep tA
    obtain ⟨usB, uB1, uB2⟩ := atB.keep tA
    have m0 : 0 ≤ srt % 2 := Int.emod_nonneg _ (by decide)
    have m1 : srt % 2 < 2 := Int.emod_lt_of_pos _ (by decide)
    rcases two_ix (x := V.ref p1) (y := V.ref p2) m0 m1 with e | e
    · obtain ⟨f1, f2, f3⟩ := fin (.ref p1) (.ifs tst bA bB) _ (kc9.trans kA) BA (by unfold SgAt; exact ⟨p1, vt, pA, pB, usA, usB, rfl, e1', q1.keep tA, uA1, uA2, uB1, uB2⟩)
        (by unfold Sg.ok; exact ⟨Ts.right_of q3 (by have : max 3 2 = 3 := rfl; omega), ⟨okA.ok, by have := okA.len; omega⟩, ⟨okB.ok, by have := okB.len; omega⟩⟩) (by have h1 := okA.dp; have h2 := okB.dp; unfold Sg.dp; omega)
        (by have h1 := okA.tot; have h2 := okB.tot; rw [if_pos e1]; unfold Sg.tot; omega)
      exact ⟨p4, _, _, _, rfl, rfl, SqL.of upd_same, e, L, vs, _, rfl, rfl, f1, f2, f3 _ _ _ _ _ _ _⟩
    · obtain ⟨f1, f2, f3⟩ := fin (.ref p2) (Sg.fors ex0 (1 + dm) bA) _ (kc9.trans kA) BA (by unfold SgAt; exact ⟨p2, ve, pA, usA, rfl, e2', a1.keep tA, uA1, uA2⟩)
        (by unfold Sg.ok; exact ⟨her, ⟨by omega, by omega⟩, ⟨okA.ok, by have := okA.len; omega⟩⟩) (by have h1 := okA.dp; unfold Sg.dp; omega)
        (by have h1 := okA.tot; rw [if_pos e1]; unfold Sg.tot; omega)
      exact ⟨p4, _, _, _, rfl, rfl, SqL.of upd_same, e, L, vs, _, rfl, rfl, f1, f2, f3 _ _ _ _ _ _ _⟩
  · rintro σ Hc ⟨ss, vs, y7, y8, y9, y10, y11, y12, y13, rfl, eL, hp, hlen, hok, htot, B3, k3⟩
    have hit := itc_fits (d := d) (r := cnt.toNat) hd2 (by omega)
    have hrr := rr_le d
    refine ⟨_, rfl, L, _, rfl, .inl ⟨SqL.of eL, fun p np => ?_⟩⟩
    have sp := same_new np (.tup vs)
    refine q p (Bd.of ss) _ (k3.trans (.of sp)) ((B3.keep sp).more (by omega)) ⟨vs, upd_same, of_at (paired_imp (fun _ _ z => SgAt.keep (Same.tups sp) _ z) hp)⟩ ⟨of_ok fun sg hg => (hok sg hg).1, by rw [of_len]; omega, of_dp fun sg hg => (hok sg hg).2, ?_⟩
    rw [of_tot]
    unfold tt
    split at htot <;> omega
/-- steps that stand within one another n deep -/
theorem all_steps_ {n : Nat} (mr : mg "range" = none) (mt : mg "tuple" = none) (N : Nd K mg "_law_steps" sSteps psSt) (DT : Df P w K mg base 1 "_law_take" ["_law_bag_here", "_law_many"] spTake) (DO : Df P w K mg base 2 "_law_of" ["_law_bag_here", "_law_some"] spOf)
    (DX : Df P w K mg base 9 "_law_expr" psE (spExpr 7)) (DS : Df P w K mg base 17 "_law_test" psE (spTest 8)) : Df P w K mg base (n + 18) "_law_steps" psSt (spSteps n) := by
  obtain ⟨f, fd, hm, F, hb⟩ := N
  induction n with
  | zero => exact ⟨f, fd, hm, F.kp, no_steps, hb⟩
  | succ n ih => exact ⟨f, fd, hm, F.kp, ok_steps mr mt F DT DO DX DS ih, hb⟩
end
end Any
set_option pp.maxSteps 600
namespace Any
open L2 PySem PySem.Spec PyProof.Rows LamX NdefX
/-! ### _law_group -/
def CrL (H : Hp) (C : Addr) (cr : List (Str × Int × Int)) : Prop := ∃ as : List Addr, H C = some (.lst (as.map V.ref)) ∧ Paired (fun (a : Addr) (x : Str × Int × Int) => H a = some (.tup [.str x.1, .int x.2.1, .int x.2.2])) as cr
def TsL (H : Hp) (S : Addr) (ts : List Ts) : Prop := ∃ vs, H S = some (.lst vs) ∧ Paired (TsAt H) vs ts
def SgL (H : Hp) (L : Addr) (ss : List Sg) : Prop := ∃ vs, H L = some (.lst vs) ∧ Paired (SgAt H) vs ss
/-- names of rooms, each with a number -/
def LowsAt (H : Hp) (l : Addr) (ls : List (Str × Int)) : Prop := ∃ as : List Addr, H l = some (.lst (as.map V.ref)) ∧ Paired (fun (a : Addr) (x : Str × Int) => H a = some (.tup [.str x.1, .int x.2])) as ls
theorem CrL.keep {H H' : Hp} (s : Same H H') {C : Addr} {cr : List (Str × Int × Int)} (h : CrL H C cr) : CrL H' C cr := by
  obtain ⟨as, h1, h2⟩ := h
  exact ⟨as, s _ _ h1, paired_imp (fun _ _ z => s _ _ z) h2⟩
theorem TsL.keep {H H' : Hp} (s : Same H H') {C : Addr} {ts : List Ts} (h : TsL H C ts) : TsL H' C ts := by
  obtain ⟨vs, h1, h2⟩ := h
  exact ⟨vs, s _ _ h1, paired_imp (fun _ _ z => z.keep (Same.tups s)) h2⟩
theorem SgL.keep {H H' : Hp} (s : Same H H') {C : Addr} {ss : List Sg} (h : SgL H C ss) : SgL H' C ss := by
  obtain ⟨vs, h1, h2⟩ := h
  exact ⟨vs, s _ _ h1, paired_imp (fun _ g z => SgAt.keep (Same.tups s) g z) h2⟩
/-- what a group is like, of these names -/
structure GrpOk (names : List Str) (a : Nat) (rs : List Str) (cr : List (Str × Int × Int)) (ts : List Ts) (ss : List Sg) : Prop where
  one : 1 ≤ cr.length
  nm : cr.map (·.1) = names.take cr.length
  crate : ∀ c ∈ cr, (1 ≤ c.2.1 ∧ c.2.1 ≤ 40) ∧ (0 ≤ c.2.2 ∧ c.2.2 ≤ c.2.1 - 1)
  tl : ts.length ≤ 1
  tr : ∀ t ∈ ts, ∀ xs : List Str, (∀ x ∈ names, x ∈ xs) → t.right xs []
  tv : ∀ t ∈ ts, ∀ kvs : List (Str × Int), (∀ c ∈ cr, look kvs c.1 = some c.2.2) → t.val kvs 0 0 = true
  sl : ss.length ≤ 1
  so : ∀ s ∈ ss, (∀ xs : List Str, (∀ x ∈ names, x ∈ xs) → s.ok xs (wsOf a) rs) ∧ s.dp ≤ 1 ∧ s.tot ≤ 1
def spGroup : Sp := fun vs H Q _ => ∃ (b l lw : Addr) (m a : Nat) (lots : Int) (xs : List Str) (ls : List (Str × Int)), vs = [.ref b, .ref l, .int a, .ref lw, .int lots] ∧ a ≤ 1 ∧ Bag H b m ∧ m + 200 < 2 ^ 40 ∧ H l = some (.lst (xs.map V.str)) ∧ l ≠ b ∧ 1 ≤ xs.length ∧ xs.length ≤ 8 ∧
  LowsAt H lw ls ∧ lw ≠ b ∧ ls.length ≤ 8 ∧ (∀ z ∈ ls, PyData.strOk z.1 = true) ∧
  ∀ (p C S L : Addr) (cr : List (Str × Int × Int)) (ts : List Ts) (ss : List Sg) (H' : Hp), Kept b H H' → Bag H' b (m + 200) → H' p = some (.tup [.ref C, .ref S, .ref L]) → CrL H' C cr → TsL H' S ts → SgL H' L ss → GrpOk xs a (ls.map (·.1)) cr ts ss → Q (.ref p) H'
abbrev sGroup : Stmt := top 87
abbrev psGr : List Str := ["_law_bag_here", "_law_names", "_law_asks", "_law_lows", "_law_lots"]
abbrev nmGr0 : List Str := ["_law_bag_here", "_law_names", "_law_asks", "_law_lows", "_law_lots", "_law_sort", "_law_most", "_law_term", "_law_first", "_law_one", "_law_least", "_law_fits", "_law_last", "_law_other", "_law_crates"]
abbrev nmGr : List Str := ["_law_bag_here", "_law_names", "_law_asks", "_law_lows", "_law_lots", "_law_sort", "_law_most", "_law_term", "_law_first", "_law_one", "_law_least", "_law_fits", "_law_last", "_law_other", "_law_crates", "_law_name", "_law_bound"]
theorem scGr : FnScope nmGr psGr (defScope sGroup) := ⟨rfl, rfl, rfl, by decide +kernel, rfl, by decide +kernel, by decide +kernel⟩
theorem Ex.fit_more {xs ys ws : List Str} (h : ∀ x ∈ xs, x ∈ ys) : ∀ {e : Ex}, e.fit xs ws → e.fit ys ws
  | .num _, z => z
  | .box x, z => h x z
  | .asked, z => z
  | .told, z => z
  | .op _ l r, z => ⟨Ex.fit_more h (e := l) z.1, Ex.fit_more h (e := r) z.2⟩
theorem fits_fm (m : Int) : ∀ ls : List (Str × Int), ∃ ns : List Str, (ls.map fun z => if 0 < z.2 ∧ z.2 ≤ m then some (V.str z.1) else none).filterMap id = ns.map V.str ∧ (∀ x ∈ ns, x ∈ ls.map (·.1)) ∧ ns.length ≤ ls.length
  | [] => ⟨[], rfl, (fun x h => h), Nat.le_refl _⟩
  | z :: r => by
    obtain ⟨ns, h1, h2, h3⟩ := fits_fm m r
    by_cases c : 0 < z.2 ∧ z.2 ≤ m
    · refine ⟨z.1 :: ns, ?_, fun x hx => ?_, Nat.succ_le_succ h3⟩
      · rw [List.map_cons, List.filterMap_cons, if_pos c, h1]
        rfl
      · rcases List.mem_cons.mp hx with e | hx
        · rw [e]
          exact List.mem_cons_self ..
        · exact List.mem_cons_of_mem _ (h2 x hx)
    · refine ⟨ns, ?_, fun x hx => List.mem_cons_of_mem _ (h2 x hx), Nat.le_succ_of_le h3⟩
      rw [List.map_cons, List.filterMap_cons, if_neg c, h1]
      rfl
theorem cut_any (xs : List V) (i : Nat) : cutV xs none (some (i : Int)) = xs.take i := by
  unfold cutV
  rw [HT.sIx_none, HT.sIx_nat, List.drop_zero, Nat.sub_zero]
  by_cases h : i ≤ xs.length
  · rw [Nat.min_eq_left h]
  · rw [Nat.min_eq_right (by omega), List.take_of_length_le (Nat.le_refl _), List.take_of_length_le (by omega)]
theorem int37 (lots : Int) : ∃ z : Int, atI [V.int 3, V.int 7] (if decide (lots > 2) = true then 1 else 0) = some (.int z) ∧ 3 ≤ z ∧ z ≤ 7 := by
  by_cases h : lots > 2
  · rw [decide_eq_true h]
    exact ⟨7, rfl, by decide, by decide⟩
  · rw [decide_eq_false h]
    exact ⟨3, rfl, by decide, by decide⟩
section
variable {P : Program} {w : World} {K : PySem.W.Frag} {mg : Str → Option Value} {base : Heap} {f : Addr} {fd : FuncData}
set_option maxHeartbeats 10000000 in
theorem ok_group (O : Own mg) (F : Fun K "_law_group" "_law_group" sGroup f fd) (DT : Df P w K mg base 1 "_law_take" ["_law_bag_here", "_law_many"] spTake) (DO : Df P w K mg base 2 "_law_of" ["_law_bag_here", "_law_some"] spOf)
    (DX : Df P w K mg base 9 "_law_expr" psE (spExpr 7)) : FnOk P w K mg base CX0 10 f fd psGr spGroup := by
  refine F.ok scGr (fun vs H Q E h => ?_) (fun cdv A outer s H vs Q E hr h => ?_)
  · obtain ⟨b, l, lw, m, a, lots, xs, ls, rfl, _⟩ := h
    rfl
  obtain ⟨b, l, lw, m, as, lots, xs, ls, rfl, has, hB, hm, hl, hlb, hx1, hx8, ⟨ws, hw, hp⟩, hwb, hw8, hwo, q⟩ := h
  have hr1 := hr.mono (show 1 ≤ 9 by omega)
  have hr2 := hr.mono (show 2 ≤ 9 by omega)
  have hs : sizeLine = 16777216 := sizeLine_eq
  have c2 : ce 2 = 35 := rfl
  obtain ⟨n0, rest, rfl⟩ : ∃ n0 rest, xs = n0 :: rest := by
    cases xs with
    | nil => simp at hx1
    | cons x r => exact ⟨x, r, rfl⟩
  obtain ⟨tR, htR, leafR⟩ : ∃ tR, PSs (cxOf CX0 P w K mg base nmGr "_law_group" (defScope sGroup) f cdv A outer s H E).nox ((ifBody (stAt (defBody sGroup) 3)).drop 4) tR ∧
      ∀ (D : Ends) (H9 : Hp) (srt most frst : Int) (ve : V) (po : Addr) (z11 z13 z14 z15 z16 : Option V) (lv : V) (sg : Sg) (M : Nat), D.rt = Q → Kept b H H9 → Bag H9 b M → M + 1 ≤ m + 200 → 0 ≤ frst → frst < most → 2 ≤ most → most ≤ 9 → H9 po = some (.tup [.str "box", .str n0]) → SgAt H9 lv sg →
        ((∀ xs : List Str, (∀ x ∈ n0 :: rest, x ∈ xs) → sg.ok xs (wsOf as) (ls.map (·.1))) ∧ sg.dp ≤ 1 ∧ sg.tot ≤ 1) →
        tR D [some (.ref b), some (.ref l), some (.int as), some (.ref lw), some (.int lots), some (.int srt), some (.int most), some ve, some (.int frst), some (.ref po), some (.int (frst + 1)), z11, some lv, z13, z14, z15, z16] H9 := by
    refine ⟨_, (pss_one (ps_ret (pe_tup (pa_cons (pe_lst (pa_cons (pe_tup (pa_cons (pe_ix ix_list (pv 1) pe_int (fun _ _ => rfl)) (pa_cons (pv 6) (pa_cons (pe_D DT hr1 rfl (pa_cons (pv 0) (pa_cons (pv 10) pa_nil))) pa_nil)))) pa_nil))
        (pa_cons (pe_lst (pa_cons (pe_tup (pa_cons pe_str (pa_cons (pv 9) (pa_cons (pe_tup (pa_cons pe_str (pa_cons (pv 10) pa_nil))) pa_nil)))) pa_nil)) (pa_cons (pe_lst (pa_cons (pv 12) pa_nil)) pa_nil)))))), ?_⟩
    intro D H9 srt most frst ve po z11 z13 z14 z15 z16 lv sg M eD k9 B9 hM f0 f1 m2 m8 epo hlv hsg
    refine ⟨_, rfl, l, _, _, _, rfl, rfl, SqL.of (k9 _ _ hlb hl), atI_nat (j := 0) rfl, _, rfl, _, rfl, _, rfl, b, frst + 1, M, rfl, B9, by omega, by omega, by omega, fun d H10 k10 B10 d0 d1 => ?_⟩
    refine ⟨(by show 3 ≤ sizeLine; omega), fun p1 n1 => ⟨(by show 1 ≤ sizeLine; omega), fun p2 n2 => ⟨_, rfl, _, rfl, (by show 2 ≤ sizeLine; omega), fun p3 n3 => ⟨(by show 3 ≤ sizeLine; omega), fun p4 n4 => ⟨(by show 1 ≤ sizeLine; omega), fun p5 n5 => ⟨_, rfl, (by show 1 ≤ sizeLine; omega), fun p6 n6 => ⟨(by show 3 ≤ sizeLine; omega), fun p7 n7 => ?_⟩⟩⟩⟩⟩⟩⟩
    rw [eD]
    have s1 := same_new n1 (.tup [.str n0, .int most, .int d])
    have s2 := same_new n2 (.lst [.ref p1])
    have s3 := same_new n3 (.tup [.str "number", .int (frst + 1)])
    have s4 := same_new n4 (.tup [.str "below", .ref po, .ref p3])
    have s5 := same_new n5 (.lst [.ref p4])
    have s6 := same_new n6 (.lst [lv])
    have s7 := same_new n7 (.tup [.ref p2, .ref p5, .ref p6])
    have s67 := s6.trans s7
    have s57 := s5.trans s67
    have s47 := s4.trans s57
    have s37 := s3.trans s47
    have s27 := s2.trans s37
    have s17 := s1.trans s27
    have e1 := s27 p1 _ upd_same
    have e2 := s37 p2 _ upd_same
    have e3 := s47 p3 _ upd_same
    have e4 := s57 p4 _ upd_same
    have e5 := s67 p5 _ upd_same
    have e6 := s7 p6 _ upd_same
    have t10 := B9.tups k10
    have epo := s17 _ _ (t10 _ _ epo)
    refine q p7 p2 p5 p6 [(n0, most, d)] [.bel (.box n0) (.num (frst + 1))] [sg] _ (k9.trans (k10.trans (.of s17))) ((B10.keep s17).more (by omega)) upd_same ⟨[p1], e2, .cons e1 .nil⟩ ⟨[.ref p4], e5, .cons (.bel e4 (.box epo) (.num e3)) .nil⟩ ⟨[lv], e6, .cons (SgAt.keep (Same.tups s17) _ (SgAt.keep t10 _ hlv)) .nil⟩ ?_
    refine ⟨Nat.le_refl _, rfl, fun c hc => ?_, Nat.le_refl _, fun t ht xs hxs => ?_, fun t ht kvs hk => ?_, Nat.le_refl _, fun g hg => ?_⟩
    · rw [List.mem_singleton.mp hc]
      exact ⟨⟨by show 1 ≤ most; omega, by show most ≤ 40; omega⟩, d0, by show d ≤ most - 1; omega⟩
    · rw [List.mem_singleton.mp ht]
      exact Ts.right_of ⟨hxs n0 (List.mem_cons_self ..), (by show 0 ≤ frst + 1; omega), (by show frst + 1 ≤ 999; omega)⟩ (by show max 1 1 + 1 ≤ 4; decide)
    · rw [List.mem_singleton.mp ht]
      have z := hk (n0, most, d) (List.mem_singleton.mpr rfl)
      show decide ((look kvs n0).getD 0 < frst + 1) = true
      rw [z]
      exact decide_eq_true d1
    · rw [List.mem_singleton.mp hg]
      exact hsg
  obtain ⟨tS, htS, leafS⟩ : ∃ tS, PSs (cxOf CX0 P w K mg base nmGr "_law_group" (defScope sGroup) f cdv A outer s H E).nox (ifBody (stAt (defBody sGroup) 4)) tS ∧
      ∀ (D : Ends) (H9 : Hp) (srt most frst : Int) (v7 v9 : V) (z10 z11 z12 z13 z14 z15 z16 : Option V) (M : Nat), D.rt = Q → Kept b H H9 → Bag H9 b M → M ≤ m + 200 → 0 ≤ frst → frst < most → 2 ≤ most → most ≤ 9 →
        tS D [some (.ref b), some (.ref l), some (.int as), some (.ref lw), some (.int lots), some (.int srt), some (.int most), some v7, some (.int frst), some v9, z10, z11, z12, z13, z14, z15, z16] H9 := by
    refine ⟨_, (pss_one (ps_ret (pe_tup (pa_cons (pe_lst (pa_cons (pe_tup (pa_cons (pe_ix ix_list (pv 1) pe_int (fun _ _ => rfl)) (pa_cons (pv 6) (pa_cons (pv 8) pa_nil)))) pa_nil)) (pa_cons (pe_lst pa_nil) (pa_cons (pe_lst pa_nil) pa_nil)))))), ?_⟩
    intro D H9 srt most frst v7 v9 z10 z11 z12 z13 z14 z15 z16 M eD k9 B9 hM f0 f1 m2 m8
    refine ⟨_, rfl, l, _, _, _, rfl, rfl, SqL.of (k9 _ _ hlb hl), atI_nat (j := 0) rfl, _, rfl, _, rfl, (by show 3 ≤ sizeLine; omega), fun p1 n1 => ⟨(by show 1 ≤ sizeLine; omega), fun p2 n2 => ⟨(by show 0 ≤ sizeLine; omega), fun p5 n5 => ⟨(by show 0 ≤ sizeLine; omega), fun p6 n6 => ⟨(by show 3 ≤ sizeLine; omega), fun p7 n7 => ?_⟩⟩⟩⟩⟩
    rw [eD]
    have s1 := same_new n1 (.tup [.str n0, .int most, .int frst])
    have s2 := same_new n2 (.lst [.ref p1])
    have s5 := same_new n5 (.lst [])
    have s6 := same_new n6 (.lst [])
    have s7 := same_new n7 (.tup [.ref p2, .ref p5, .ref p6])
    have s67 := s6.trans s7
    have s57 := s5.trans s67
    have s27 := s2.trans s57
    have s17 := s1.trans s27
    have e1 := s27 p1 _ upd_same
    have e2 := s57 p2 _ upd_same
    have e5 := s67 p5 _ upd_same
    have e6 := s7 p6 _ upd_same
    refine q p7 p2 p5 p6 [(n0, most, frst)] [] [] _ (k9.trans (.of s17)) ((B9.keep s17).more (by omega)) upd_same ⟨[p1], e2, .cons e1 .nil⟩ ⟨[], e5, .nil⟩ ⟨[], e6, .nil⟩ ?_
    refine ⟨Nat.le_refl _, rfl, fun c hc => ?_, Nat.zero_le _, (fun t ht => by cases ht), (fun t ht => by cases ht), Nat.zero_le _, (fun g hg => by cases hg)⟩
    rw [List.mem_singleton.mp hc]
    exact ⟨⟨by show 1 ≤ most; omega, by show most ≤ 40; omega⟩, f0, by show frst ≤ most - 1; omega⟩
  refine ⟨_, pss_cons (ps_par (i := 5) (j := 6) (by rfl) scGr.nd rfl rfl (by decide) rfl rfl (pa_cons (pe_D DT hr1 rfl (pa_cons (pv 0) (pa_cons pe_int pa_nil))) (pa_cons (pe_op op_add pe_int (pe_D DT hr1 rfl (pa_cons (pv 0) (pa_cons (pe_ix ix_list (pe_lst (pa_cons pe_int (pa_cons pe_int pa_nil))) (pe_callTy call_int1 rfl O.int (by decide +kernel) (pa_cons (pe_cmpR op_gt (pv 4) pe_int (nomark _)) pa_nil)) (fun _ _ => rfl)) pa_nil)))) pa_nil)) (by rfl))
    (pss_cons (ps_set (i := 7) scGr.nd rfl (Or.inl rfl) (pe_D DX hr rfl (pa_cons (pv 0) (pa_cons (pe_slice sl_list (pv 1) po_none (po_some pe_int)) (pa_cons (pv 2) (pa_cons pe_int pa_nil))))))
    (pss_cons (ps_par (i := 8) (j := 9) (by rfl) scGr.nd rfl rfl (by decide) rfl rfl (pa_cons (pe_D DT hr1 rfl (pa_cons (pv 0) (pa_cons (pv 6) pa_nil))) (pa_cons (pe_tup (pa_cons pe_str (pa_cons (pe_ix ix_list (pv 1) pe_int (fun _ _ => rfl)) pa_nil))) pa_nil)) (by rfl))
    (pss_cons (ps_if (pt_cmpR op_lt (pv 5) pe_int (nomark _))
      (pss_cons (ps_set (i := 10) scGr.nd rfl (Or.inr rfl) (pe_op op_add (pv 8) pe_int))
      (pss_cons (ps_setLc (i := 11) (own := [("_law_name", 15), ("_law_bound", 16)]) (g := gTup K 2 (gCons (gName 15) (gCons (gName 16) gNil))) (by rfl) scGr.nd rfl rfl (sw_true rfl rfl rfl (by decide +kernel)) (pi_list (pv 3)) (blkOk_by (N := nmGr) (sc := defScope sGroup) (by decide +kernel))
          (fun _ _ _ _ _ => pg_tup rfl (pgs_cons (pg_name (i := 15) scGr.nd rfl (Or.inl rfl)) (pgs_cons (pg_name (i := 16) scGr.nd rfl (Or.inl rfl)) pgs_nil))) (fun _ _ _ _ _ => pts_one (pt_chain op_lt op_le pe_int (pv 16) (pv 10))) (fun _ _ _ _ _ => pv 15))
      (pss_cons (ps_set (i := 12) scGr.nd rfl (Or.inl rfl) (pe_tup (pa_cons pe_str (pa_cons (pe_ix ix_list (pv 1) pe_int (fun _ _ => rfl)) (pa_cons (pe_tup (pa_cons pe_str (pa_cons (pv 7) (pa_cons (pe_tup (pa_cons pe_str (pa_cons (pv 10) pa_nil))) pa_nil)))) pa_nil)))))
      (pss_cons (ps_if (PW.pt (pw_and (pt_cmpR (op_neD hr.units) (pv 11) (pe_lst pa_nil) (nomark _)) (pw_and1 (pt_cmpR op_eq (pv 5) pe_int (nomark _)))))
        (pss_one (ps_set (i := 12) scGr.nd rfl (Or.inl rfl) (pe_tup (pa_cons pe_str (pa_cons (pe_ix ix_list (pv 1) pe_int (fun _ _ => rfl)) (pa_cons (pe_D DO hr2 rfl (pa_cons (pv 0) (pa_cons (pv 11) pa_nil))) (pa_cons (pv 7) pa_nil))))))) pss_nil)
      htR)))) pss_nil)
    (pss_cons (ps_if (PW.pt (pw_or (pt_cmpR op_eq (pv 5) pe_int (nomark _)) (pw_or1 (pt_cmpR op_lt (pe_callB call_len_seq rfl O.len PySem.boot_len (pa_cons (pv 1) pa_nil)) pe_int (nomark _)))))
      htS pss_nil)
    (pss_cons (ps_asg (pe_tup (pa_cons (pe_tup (pa_cons pe_str (pa_cons (pe_ix ix_list (pv 1) pe_int (fun _ _ => rfl)) pa_nil))) (pa_cons (pe_op op_sub (pv 6) pe_int) pa_nil))) (pg_tup rfl (pgs_cons (pg_name (i := 13) scGr.nd rfl (Or.inl rfl)) (pgs_cons (pg_name (i := 10) scGr.nd rfl (Or.inr rfl)) pgs_nil))))
    (pss_cons (ps_if (pt_cmpR op_eq (pv 5) pe_int (nomark _))
      (pss_one (ps_ret (pe_tup (pa_cons (pe_lst (pa_cons (pe_tup (pa_cons (pe_ix ix_list (pv 1) pe_int (fun _ _ => rfl)) (pa_cons (pv 6) (pa_cons (pv 8) pa_nil)))) (pa_cons (pe_tup (pa_cons (pe_ix ix_list (pv 1) pe_int (fun _ _ => rfl)) (pa_cons (pv 6) (pa_cons (pv 8) pa_nil)))) pa_nil)))
        (pa_cons (pe_lst (pa_cons (pe_tup (pa_cons pe_str (pa_cons (pv 9) (pa_cons (pv 13) pa_nil)))) pa_nil)) (pa_cons (pe_lst (pa_cons (pe_tup (pa_cons pe_str (pa_cons (pe_ix ix_list (pv 1) pe_int (fun _ _ => rfl)) (pa_cons (pv 9) pa_nil)))) pa_nil)) pa_nil)))))) pss_nil)
    (pss_cons (ps_set (i := 14) scGr.nd rfl (Or.inl rfl) (pe_lst (pa_cons (pe_tup (pa_cons (pe_ix ix_list (pv 1) pe_int (fun _ _ => rfl)) (pa_cons (pv 6) (pa_cons (pv 8) pa_nil)))) (pa_cons (pe_tup (pa_cons (pe_ix ix_list (pv 1) pe_int (fun _ _ => rfl)) (pa_cons (pv 6) (pa_cons (pe_op op_sub (pv 10) (pv 8)) pa_nil)))) pa_nil))))
    (pss_cons (ps_set (i := 12) scGr.nd rfl (Or.inl rfl) (pe_tup (pa_cons pe_str (pa_cons (pe_ix ix_list (pv 1) pe_int (fun _ _ => rfl)) (pa_cons (pe_tup (pa_cons pe_str (pa_cons (pe_tup (pa_cons pe_str (pa_cons (pv 10) pa_nil))) (pa_cons (pv 9) pa_nil)))) pa_nil)))))
    (pss_one (ps_ret (pe_tup (pa_cons (pv 14) (pa_cons (pe_lst (pa_cons (pe_tup (pa_cons pe_str (pa_cons (pe_tup (pa_cons pe_str (pa_cons (pv 9) (pa_cons (pv 13) pa_nil)))) (pa_cons (pe_tup (pa_cons pe_str (pa_cons (pv 10) pa_nil))) pa_nil)))) pa_nil)) (pa_cons (pe_lst (pa_cons (pv 12) pa_nil)) pa_nil)))))))))))))), ?_⟩
  obtain ⟨z, ez, z3, z7⟩ := int37 lots
  refine ⟨_, rfl, b, 5, m, rfl, hB, by omega, by decide, by decide, fun srt H1 k1 B1 s0 s5 => ?_⟩
  refine ⟨_, rfl, (by show 2 ≤ sizeLine; omega), fun p2 n2 => ⟨_, rfl, _, _, rfl, rfl, .inr ⟨_, rfl, p2, _, _, _, rfl, rfl, SqL.of upd_same, ez, b, z, m + 1, rfl, B1.keep (same_new n2 _), by omega, by omega, by omega, fun d2 H2 k2 B2 d20 d21 => ⟨_, _, rfl, rfl, _, _, rfl, ?_⟩⟩⟩⟩
  have k2 : Kept b H H2 := k1.trans ((Kept.new n2 _).trans k2)
  have m2 : 2 ≤ 2 + d2 := by omega
  have m8 : 2 + d2 ≤ 9 := by omega
  refine ⟨_, rfl, _, rfl, 2, rfl, l, _, rfl, SqL.of (k2 _ _ hlb hl), fun p3 n3 => ?_⟩
  have ecut : cutV ((n0 :: rest).map V.str) none (some 2) = ((n0 :: rest).take 2).map V.str := by
    rw [List.map_take]
    exact cut_any _ 2
  have sp3 := same_new n3 (.lst (cutV ((n0 :: rest).map V.str) none (some 2)))
  refine ⟨_, rfl, b, p3, 2, m + 1 + 1, (n0 :: rest).take 2, as, rfl, has, by decide, B2.keep sp3, by omega, by rw [upd_same, ecut], B2.ne n3, by rw [List.length_take]; omega, fun ve ex0 H3 k3 B3 a1 a2 a3 => ?_⟩
  rw [c2] at B3
  have k3 : Kept b H H3 := k2.trans ((Kept.of sp3).trans k3)
  have a2 : ex0.deep ≤ 2 := a2
  have hfit : ∀ ys : List Str, (∀ x ∈ n0 :: rest, x ∈ ys) → ex0.fit ys (wsOf as) := fun ys hys => Ex.fit_more (fun x hx => hys x (List.mem_of_mem_take hx)) a3
  refine ⟨_, rfl, _, rfl, b, (2 + d2), m + 1 + 1 + 35, rfl, B3, by omega, by omega, by omega, fun frst H4 k4 B4 f0 f1 => ?_⟩
  have k4' : Kept b H H4 := k3.trans k4
  refine ⟨_, rfl, l, _, _, _, rfl, rfl, SqL.of (k4' _ _ hlb hl), atI_nat (j := 0) rfl, (by show 2 ≤ sizeLine; omega), fun po no => ⟨_, _, rfl, ?_⟩⟩
  have so := same_new no (.tup [.str "box", .str n0])
  have k5 : Kept b H _ := k4'.trans (.of so)
  have B5 := B4.keep so
  have epo := @upd_same H4 po (.tup [.str "box", .str n0])
  have a1 := (a1.keep (B3.tups k4)).keep (Same.tups so)
  generalize upd H4 po (.tup [.str "box", .str n0]) = H5 at *
  refine ⟨_, rfl, _, _, rfl, rfl, _, rfl, itD (fun c1 => ?_) (fun c1 => ?_)⟩
  · -- a saying of one box
    refine ⟨_, rfl, _, _, rfl, rfl, ?_⟩
    have hw5 := k5 _ _ hwb hw
    have tw5 : Tups H H5 := hB.tups k5
    have hlp := paired_len hp
    refine ⟨_, rfl, lw, rfl, ⟨_, SqL.of hw5⟩, fun D nD => ?_⟩
    refine turns_list (K := K) (a := lw) (xs := ws.map V.ref) (ls.map fun z => if 0 < z.2 ∧ z.2 ≤ frst + 1 then some (V.str z.1) else none) nD (fun Hc sm => SqL.of (sm _ _ hw5)) (by rw [List.length_map, List.length_map]; exact hlp.symm) (by rw [List.length_map]; omega) ?_ ?_
    · intro i v o Hc Y N hv ho sm hY hN
      obtain ⟨e, he, rfl⟩ := refs_at hv
      obtain ⟨zz, hzz, hat⟩ := paired_get hp he
      rw [List.getElem?_map, hzz] at ho
      have ho : o = if 0 < zz.2 ∧ zz.2 ≤ frst + 1 then some (V.str zz.1) else none := (Option.some.inj ho).symm
      refine ⟨e, _, rfl, SqT.of (sm _ _ (tw5 _ _ hat)), rfl, _, _, rfl, _, _, rfl, rfl, rfl, _, rfl, _, _, rfl, rfl, _, rfl, itD (fun c2 => ⟨_, rfl, _, _, rfl, rfl, _, rfl, itD (fun c3 => ?_) (fun c3 => ?_)⟩) (fun c2 => ⟨_, rfl, itF rfl ?_⟩)⟩
      · rw [if_pos ⟨c2, c3⟩] at ho
        exact ⟨_, rfl, hY _ ho Hc same_refl⟩
      · rw [if_neg (fun z => c3 z.2)] at ho
        exact hN ho Hc same_refl
      · rw [if_neg (fun z => c2 z.1)] at ho
        exact hN ho Hc same_refl
    · intro H6 hD6 s6
      obtain ⟨ns, e1, e2, e3⟩ := fits_fm (frst + 1) ls
      rw [e1] at hD6
      have k6 := k5.trans (.of s6)
      refine ⟨_, rfl, l, _, _, _, rfl, rfl, SqL.of (k6 _ _ hlb hl), atI_nat (j := 0) rfl, _, rfl, _, rfl, (by show 2 ≤ sizeLine; omega), fun q1 m1 => ⟨(by show 3 ≤ sizeLine; omega), fun q2 m2' => ⟨(by show 3 ≤ sizeLine; omega), fun q3 m3 => ?_⟩⟩⟩
      have t1 := same_new m1 (.tup [.str "number", .int (frst + 1)])
      have t2 := same_new m2' (.tup [.str "rest", ve, .ref q1])
      have t3 := same_new m3 (.tup [.str "set", .str n0, .ref q2])
      have t23 := t2.trans t3
      have t13 := t1.trans t23
      have g1 := t23 q1 _ upd_same
      have g2 := t3 q2 _ upd_same
      have g3 := @upd_same (upd (upd H6 q1 (.tup [.str "number", .int (frst + 1)])) q2 (.tup [.str "rest", ve, .ref q1])) q3 (.tup [.str "set", .str n0, .ref q2])
      have k7 := k6.trans (.of t13)
      have B7 := (B5.keep s6).keep t13
      have a7 := (a1.keep (Same.tups s6)).keep (Same.tups t13)
      have p7 := t13 _ _ (s6 _ _ epo)
      have d7 := t13 _ _ hD6
      clear t1 t2 t3 t23 t13
      generalize upd (upd (upd H6 q1 (.tup [.str "number", .int (frst + 1)])) q2 (.tup [.str "rest", ve, .ref q1])) q3 (.tup [.str "set", .str n0, .ref q2]) = H7 at *
      have rsg : SgAt H7 (.ref q3) (.set n0 (.op .rest ex0 (.num (frst + 1)))) := by
        unfold SgAt
        exact ⟨q3, .ref q2, rfl, g3, .op (d := .rest) g2 a7 (.num g1)⟩
      have rok : (∀ xs : List Str, (∀ x ∈ n0 :: rest, x ∈ xs) → Sg.ok xs (wsOf as) (ls.map (·.1)) (.set n0 (.op .rest ex0 (.num (frst + 1))))) ∧ Sg.dp (.set n0 (.op .rest ex0 (.num (frst + 1)))) ≤ 1 ∧ Sg.tot (.set n0 (.op .rest ex0 (.num (frst + 1)))) ≤ 1 := by
        refine ⟨fun ys hys => ?_, by unfold Sg.dp; omega, by unfold Sg.tot; omega⟩
        unfold Sg.ok
        exact ⟨hys n0 (List.mem_cons_self ..), Ex.right_of ⟨hfit ys hys, (by show 0 ≤ frst + 1; omega), (by show frst + 1 ≤ 999; omega)⟩ (by show max ex0.deep 1 + 1 ≤ 4; omega)⟩
      refine ⟨_, rfl, (by show 0 ≤ sizeLine; omega), fun pn nn => ?_⟩
      have sn := same_new nn (.lst [])
      refine ⟨.list (ns.map PyData.str), .list [], .lst (SqL.of (sn _ _ d7)) (strs_data ns), .lst (SqL.of upd_same) .nil, shaped_lst (fun x hx => ?_), rfl, _, rfl, ?_⟩
      · obtain ⟨zz, h1, h2⟩ := List.mem_map.mp (e2 x hx)
        rw [← h2]
        exact hwo zz h1
      rw [eqv_nil]
      have B8 := B7.keep sn
      have stay := fun (D_ : Ends) (eD : D_.rt = Q) => leafR D_ (upd H7 pn (.lst [])) srt (2 + d2) frst ve po (some (.ref D)) none none none none (.ref q3) _ _ eD (k7.trans (.of sn)) B8 (by omega) f0 f1 m2 m8 (sn _ _ p7) (SgAt.keep (Same.tups sn) _ rsg) rok
      refine itN (fun c2 => ⟨_, rfl, rfl, _, rfl, itEq (fun c3 => ?_) (fun c3 => stay _ rfl)⟩) (fun c2 => itF rfl (stay _ rfl))
      have hn1 : 1 ≤ ns.length := by
        cases ns with
        | nil => exact absurd rfl c2
        | cons x r => exact Nat.le_add_left 1 _
      have k8 := k7.trans (.of sn)
      have hDb : D ≠ b := B5.ne nD
      refine ⟨_, rfl, l, _, _, _, rfl, rfl, SqL.of (k8 _ _ hlb hl), atI_nat (j := 0) rfl, _, rfl, _, rfl, b, D, ns.map V.str, _, rfl, B8, by omega, sn _ _ d7, hDb, by rw [List.length_map]; exact hn1, by rw [List.length_map]; omega, fun vr H9 k9 B9 hvr => ⟨_, rfl, (by show 4 ≤ sizeLine; omega), fun p9 n9 => ?_⟩⟩
      obtain ⟨xr, hxr, rfl⟩ := strs_mem hvr
      have s9 := same_new n9 (.tup [.str "call", .str n0, .str xr, ve])
      have t9 : Tups H7 _ := B7.tups ((Kept.of sn).trans (k9.trans (.of s9)))
      refine leafR _ _ srt (2 + d2) frst ve po (some (.ref D)) none none none none (.ref p9) (.call n0 xr ex0) _ rfl (k8.trans (k9.trans (.of s9))) (B9.keep s9) (by omega) f0 f1 m2 m8 (t9 _ _ p7) ?_ ?_
      · unfold SgAt
        exact ⟨p9, ve, rfl, upd_same, a7.keep t9⟩
      · refine ⟨fun ys hys => ?_, by unfold Sg.dp; omega, by unfold Sg.tot; omega⟩
        unfold Sg.ok
        exact ⟨hys n0 (List.mem_cons_self ..), e2 xr hxr, Ex.right_of (hfit ys hys) (by omega)⟩
  · -- none, or of two boxes
    have single := fun (D_ : Ends) (eD : D_.rt = Q) => leafS D_ H5 srt (2 + d2) frst ve (.ref po) none none none none none none none _ eD k5 B5 (by omega) f0 f1 m2 m8
    refine ⟨_, rfl, rfl, _, rfl, itEq (fun c2 => itT rfl (single _ rfl)) (fun c2 => ?_)⟩
    refine ⟨_, rfl, l, _, rfl, .inl (SqL.of (k5 _ _ hlb hl)), _, _, rfl, rfl, _, rfl, itD (fun c3 => single _ rfl) (fun c3 => ?_)⟩
    obtain ⟨n1, rest, rfl⟩ : ∃ n1 r, rest = n1 :: r := by
      cases rest with
      | nil => exact absurd (show ((1 : Nat) : Int) < 2 by decide) c3
      | cons x r => exact ⟨x, r, rfl⟩
    refine ⟨_, rfl, l, _, _, _, rfl, rfl, SqL.of (k5 _ _ hlb hl), atI_nat (j := 1) rfl, (by show 2 ≤ sizeLine; omega), fun pq nq => ⟨_, rfl, _, _, rfl, rfl, (by show 2 ≤ sizeLine; omega), fun pt nt => ?_⟩⟩
    have sq := same_new nq (.tup [.str "box", .str n1])
    have st := same_new nt (.tup [.ref pq, .int (2 + d2 - 1)])
    have k6 := k5.trans (.of (sq.trans st))
    have B6 := B5.keep (sq.trans st)
    have eq6 := st pq _ (@upd_same H5 pq (.tup [.str "box", .str n1]))
    have ep6 := (sq.trans st) _ _ epo
    refine ⟨pt, _, rfl, SqT.of upd_same, rfl, _, _, rfl, _, _, rfl, rfl, ?_⟩
    clear st
    generalize upd (upd H5 pq (.tup [.str "box", .str n1])) pt (.tup [.ref pq, .int (2 + d2 - 1)]) = H6 at *
    have hc : ∀ z : Int, 0 ≤ z → z ≤ 2 + d2 - 1 → ∀ c ∈ [(n0, 2 + d2, frst), (n1, 2 + d2, z)], (1 ≤ c.2.1 ∧ c.2.1 ≤ 40) ∧ (0 ≤ c.2.2 ∧ c.2.2 ≤ c.2.1 - 1) := fun z z0 z1 c hc => by
      rcases List.mem_cons.mp hc with e | hc
      · rw [e]
        exact ⟨⟨by show 1 ≤ 2 + d2; omega, by show 2 + d2 ≤ 40; omega⟩, f0, by show frst ≤ 2 + d2 - 1; omega⟩
      · rw [List.mem_singleton.mp hc]
        exact ⟨⟨by show 1 ≤ 2 + d2; omega, by show 2 + d2 ≤ 40; omega⟩, z0, z1⟩
    have in0 : ∀ ys : List Str, (∀ x ∈ n0 :: n1 :: rest, x ∈ ys) → n0 ∈ ys := fun ys hys => hys n0 (List.mem_cons_self ..)
    have in1 : ∀ ys : List Str, (∀ x ∈ n0 :: n1 :: rest, x ∈ ys) → n1 ∈ ys := fun ys hys => hys n1 (List.mem_cons_of_mem _ (List.mem_cons_self ..))
    refine ⟨_, rfl, rfl, _, rfl, itEq (fun c4 => ?_) (fun c4 => ?_)⟩
    · -- alike
      refine ⟨_, rfl, l, _, _, _, rfl, rfl, SqL.of (k6 _ _ hlb hl), atI_nat (j := 0) rfl, _, rfl, _, rfl, (by show 3 ≤ sizeLine; omega), fun p1 m1 => ?_⟩
      have s1 := same_new m1 (.tup [.str n0, .int (2 + d2), .int frst])
      refine ⟨_, rfl, l, _, _, _, rfl, rfl, SqL.of (s1 _ _ (k6 _ _ hlb hl)), atI_nat (j := 1) rfl, _, rfl, _, rfl, (by show 3 ≤ sizeLine; omega), fun p2 m2' => ⟨(by show 2 ≤ sizeLine; omega), fun p3 m3 => ⟨_, rfl, _, rfl, (by show 3 ≤ sizeLine; omega), fun p4 m4 => ⟨(by show 1 ≤ sizeLine; omega), fun p5 m5 => ?_⟩⟩⟩⟩
      have s2 := same_new m2' (.tup [.str n1, .int (2 + d2), .int frst])
      have s3 := same_new m3 (.lst [.ref p1, .ref p2])
      have s4 := same_new m4 (.tup [.str "is", .ref po, .ref pq])
      have s5 := same_new m5 (.lst [.ref p4])
      have s15 := s1.trans (s2.trans (s3.trans (s4.trans s5)))
      refine ⟨_, rfl, l, _, _, _, rfl, rfl, SqL.of (s15 _ _ (k6 _ _ hlb hl)), atI_nat (j := 1) rfl, _, rfl, (by show 3 ≤ sizeLine; omega), fun p6 m6 => ⟨(by show 1 ≤ sizeLine; omega), fun p7 m7 => ⟨(by show 3 ≤ sizeLine; omega), fun p8 m8' => ?_⟩⟩⟩
      have s6 := same_new m6 (.tup [.str "set", .str n1, .ref po])
      have s7 := same_new m7 (.lst [.ref p6])
      have s8 := same_new m8' (.tup [.ref p3, .ref p5, .ref p7])
      have s78 := s7.trans s8
      have s68 := s6.trans s78
      have s58 := s5.trans s68
      have s48 := s4.trans s58
      have s38 := s3.trans s48
      have s28 := s2.trans s38
      have s18 := s1.trans s28
      have e1 := s28 p1 _ upd_same
      have e2 := s38 p2 _ upd_same
      have e3 := s48 p3 _ upd_same
      have e4 := s58 p4 _ upd_same
      have e5 := s68 p5 _ upd_same
      have e6 := s78 p6 _ upd_same
      have e7 := s8 p7 _ upd_same
      have ep := s18 _ _ ep6
      have eq := s18 _ _ eq6
      refine q p8 p3 p5 p7 [(n0, 2 + d2, frst), (n1, 2 + d2, frst)] [.is (.box n0) (.box n1)] [.set n1 (.box n0)] _ (k6.trans (.of s18)) ((B6.keep s18).more (by omega)) upd_same ⟨[p1, p2], e3, .cons e1 (.cons e2 .nil)⟩ ⟨[.ref p4], e5, .cons (.is e4 (.box ep) (.box eq)) .nil⟩ ⟨[.ref p6], e7, .cons ?_ .nil⟩ ?_
      · unfold SgAt
        exact ⟨p6, .ref po, rfl, e6, .box ep⟩
      refine ⟨by show 1 ≤ 2; decide, rfl, hc frst f0 (by omega), Nat.le_refl _, fun t ht ys hys => ?_, fun t ht kvs hk => ?_, Nat.le_refl _, fun g hg => ?_⟩
      · rw [List.mem_singleton.mp ht]
        exact Ts.right_of ⟨in0 ys hys, in1 ys hys⟩ (by show max 1 1 + 1 ≤ 4; decide)
      · rw [List.mem_singleton.mp ht]
        have z0 := hk (n0, 2 + d2, frst) (List.mem_cons_self ..)
        have z1 := hk (n1, 2 + d2, frst) (List.mem_cons_of_mem _ (List.mem_cons_self ..))
        show decide ((look kvs n0).getD 0 = (look kvs n1).getD 0) = true
        rw [z0, z1]
        exact decide_eq_true rfl
      · rw [List.mem_singleton.mp hg]
        refine ⟨fun ys hys => ?_, by unfold Sg.dp; omega, by unfold Sg.tot; omega⟩
        unfold Sg.ok
        exact ⟨in1 ys hys, Ex.right_of (in0 ys hys) (by show 1 ≤ 4; decide)⟩
    · -- together a number
      refine ⟨_, rfl, l, _, _, _, rfl, rfl, SqL.of (k6 _ _ hlb hl), atI_nat (j := 0) rfl, _, rfl, _, rfl, (by show 3 ≤ sizeLine; omega), fun p1 m1 => ?_⟩
      have s1 := same_new m1 (.tup [.str n0, .int (2 + d2), .int frst])
      refine ⟨_, rfl, l, _, _, _, rfl, rfl, SqL.of (s1 _ _ (k6 _ _ hlb hl)), atI_nat (j := 1) rfl, _, rfl, _, rfl, _, rfl, _, _, rfl, rfl, (by show 3 ≤ sizeLine; omega), fun p2 m2' => ⟨(by show 2 ≤ sizeLine; omega), fun p3 m3 => ?_⟩⟩
      have s2 := same_new m2' (.tup [.str n1, .int (2 + d2), .int (2 + d2 - 1 - frst)])
      have s3 := same_new m3 (.lst [.ref p1, .ref p2])
      have s13 := s1.trans (s2.trans s3)
      refine ⟨_, rfl, l, _, _, _, rfl, rfl, SqL.of (s13 _ _ (k6 _ _ hlb hl)), atI_nat (j := 1) rfl, _, rfl, (by show 2 ≤ sizeLine; omega), fun p4 m4 => ⟨_, rfl, (by show 3 ≤ sizeLine; omega), fun p5 m5 => ⟨(by show 3 ≤ sizeLine; omega), fun p6 m6 => ?_⟩⟩⟩
      have s4 := same_new m4 (.tup [.str "number", .int (2 + d2 - 1)])
      have s5 := same_new m5 (.tup [.str "less", .ref p4, .ref po])
      have s6 := same_new m6 (.tup [.str "set", .str n1, .ref p5])
      refine ⟨_, rfl, _, rfl, _, rfl, (by show 3 ≤ sizeLine; omega), fun p7 m7 => ⟨_, rfl, (by show 2 ≤ sizeLine; omega), fun p8 m8' => ⟨(by show 3 ≤ sizeLine; omega), fun p9 m9 => ⟨(by show 1 ≤ sizeLine; omega), fun pa ma => ⟨_, rfl, (by show 1 ≤ sizeLine; omega), fun pb mb => ⟨(by show 3 ≤ sizeLine; omega), fun pc mc => ?_⟩⟩⟩⟩⟩⟩
      have s7 := same_new m7 (.tup [.str "plus", .ref po, .ref pq])
      have s8 := same_new m8' (.tup [.str "number", .int (2 + d2 - 1)])
      have s9 := same_new m9 (.tup [.str "is", .ref p7, .ref p8])
      have sa := same_new ma (.lst [.ref p9])
      have sb := same_new mb (.lst [.ref p6])
      have sc := same_new mc (.tup [.ref p3, .ref pa, .ref pb])
      have sbc := sb.trans sc
      have sac := sa.trans sbc
      have s9c := s9.trans sac
      have s8c := s8.trans s9c
      have s7c := s7.trans s8c
      have s6c := s6.trans s7c
      have s5c := s5.trans s6c
      have s4c := s4.trans s5c
      have s3c := s3.trans s4c
      have s2c := s2.trans s3c
      have s1c := s1.trans s2c
      have e1 := s2c p1 _ upd_same
      have e2 := s3c p2 _ upd_same
      have e3 := s4c p3 _ upd_same
      have e4 := s5c p4 _ upd_same
      have e5 := s6c p5 _ upd_same
      have e6 := s7c p6 _ upd_same
      have e7 := s8c p7 _ upd_same
      have e8 := s9c p8 _ upd_same
      have e9 := sac p9 _ upd_same
      have ea := sbc pa _ upd_same
      have eb := sc pb _ upd_same
      have ep := s1c _ _ ep6
      have eq := s1c _ _ eq6
      refine q pc p3 pa pb [(n0, 2 + d2, frst), (n1, 2 + d2, 2 + d2 - 1 - frst)] [.is (.op .plus (.box n0) (.box n1)) (.num (2 + d2 - 1))] [.set n1 (.op .less (.num (2 + d2 - 1)) (.box n0))] _ (k6.trans (.of s1c)) ((B6.keep s1c).more (by omega)) upd_same ⟨[p1, p2], e3, .cons e1 (.cons e2 .nil)⟩
        ⟨[.ref p9], ea, .cons (.is e9 (.op (d := .plus) e7 (.box ep) (.box eq)) (.num e8)) .nil⟩ ⟨[.ref p6], eb, .cons ?_ .nil⟩ ?_
      · unfold SgAt
        exact ⟨p6, .ref p5, rfl, e6, .op (d := .less) e5 (.num e4) (.box ep)⟩
      have hnum : (0 : Int) ≤ 2 + d2 - 1 ∧ 2 + d2 - 1 ≤ 999 := ⟨by omega, by omega⟩
      refine ⟨by show 1 ≤ 2; decide, rfl, hc _ (by omega) (by omega), Nat.le_refl _, fun t ht ys hys => ?_, fun t ht kvs hk => ?_, Nat.le_refl _, fun g hg => ?_⟩
      · rw [List.mem_singleton.mp ht]
        exact Ts.right_of ⟨⟨in0 ys hys, in1 ys hys⟩, hnum⟩ (by show max (max 1 1 + 1) 1 + 1 ≤ 4; decide)
      · rw [List.mem_singleton.mp ht]
        have z0 := hk (n0, 2 + d2, frst) (List.mem_cons_self ..)
        have z1 := hk (n1, 2 + d2, 2 + d2 - 1 - frst) (List.mem_cons_of_mem _ (List.mem_cons_self ..))
        show decide ((look kvs n0).getD 0 + (look kvs n1).getD 0 = 2 + d2 - 1) = true
        rw [z0, z1]
        exact decide_eq_true (by show frst + (2 + d2 - 1 - frst) = 2 + d2 - 1; omega)
      · rw [List.mem_singleton.mp hg]
        refine ⟨fun ys hys => ?_, by unfold Sg.dp; omega, by unfold Sg.tot; omega⟩
        unfold Sg.ok
        exact ⟨in1 ys hys, Ex.right_of ⟨hnum, in0 ys hys⟩ (by show max 1 1 + 1 ≤ 4; decide)⟩
end
end Any
set_option pp.maxSteps 600
namespace Any
open L2 PySem PySem.Spec PyProof.Rows LamX NdefX
/-! ### _law_answer -/
structure Ans where
  wide : Int
  bd : Int
  vow : Option Ts
  by_ : Ex
  left : Int
def AnsAt (H : Hp) (a : Addr) (z : Ans) : Prop := ∃ v u, H a = some (.tup [.int z.wide, .int z.bd, v, u, .int z.left]) ∧ VowAt H v z.vow ∧ ExAt H u z.by_
theorem AnsAt.keep {H H' : Hp} (k : Tups H H') {a : Addr} {z : Ans} (h : AnsAt H a z) : AnsAt H' a z := by
  obtain ⟨v, u, h1, h2, h3⟩ := h
  exact ⟨v, u, k _ _ h1, h2.keep k, h3.keep k⟩
structure AnsOk (z : Ans) : Prop where
  wide : 1 ≤ z.wide ∧ z.wide ≤ 40
  bd : 1 ≤ z.bd ∧ z.bd ≤ 40
  vow : ∀ t, z.vow = some t → t.right [] ["asked", "told"]
  by_ : z.by_ = .num 0 ∨ z.by_ = .asked ∨ z.by_ = .op .plus .asked (.num 1) ∨ ∃ k : Int, 1 ≤ k ∧ k ≤ 6 ∧ z.by_ = .num k
def spAnswer : Sp := fun vs H Q _ => ∃ (b : Addr) (m : Nat) (lots : Int), vs = [.ref b, .int lots] ∧ Bag H b m ∧ m + 10 < 2 ^ 40 ∧ ∀ (a : Addr) (z : Ans) (H' : Hp), Kept b H H' → Bag H' b (m + 10) → AnsAt H' a z → AnsOk z → Q (.ref a) H'
abbrev sAnswer : Stmt := top 88
abbrev nmAn : List Str := ["_law_bag_here", "_law_lots", "_law_wide", "_law_least", "_law_sort", "_law_wish", "_law_reply"]
theorem scAn : FnScope nmAn ["_law_bag_here", "_law_lots"] (defScope sAnswer) := ⟨rfl, rfl, rfl, by decide +kernel, rfl, by decide +kernel, by decide +kernel⟩
theorem int48 (lots : Int) : ∃ z : Int, atI [V.int 4, V.int 8] (if decide (lots > 2) = true then 1 else 0) = some (.int z) ∧ 4 ≤ z ∧ z ≤ 8 := by
  by_cases h : lots > 2
  · rw [decide_eq_true h]
    exact ⟨8, rfl, by decide, by decide⟩
  · rw [decide_eq_false h]
    exact ⟨4, rfl, by decide, by decide⟩
section
variable {P : Program} {w : World} {K : PySem.W.Frag} {mg : Str → Option Value} {base : Heap} {f : Addr} {fd : FuncData}
set_option maxHeartbeats 4000000 in
theorem ok_answer (O : Own mg) (F : Fun K "_law_answer" "_law_answer" sAnswer f fd) (DT : Df P w K mg base 1 "_law_take" ["_law_bag_here", "_law_many"] spTake) : FnOk P w K mg base CX0 2 f fd ["_law_bag_here", "_law_lots"] spAnswer := by
  refine F.ok scAn (fun vs H Q E h => ?_) (fun cdv A outer s H vs Q E hr h => ?_)
  · obtain ⟨b, m, lots, rfl, _⟩ := h
    rfl
  obtain ⟨b, m, lots, rfl, hB, hm, q⟩ := h
  have hs : sizeLine = 16777216 := sizeLine_eq
  refine ⟨_, pss_cons (ps_par (i := 2) (j := 3) (by rfl) scAn.nd rfl rfl (by decide) rfl rfl (pa_cons (pe_op op_add pe_int (pe_D DT hr rfl (pa_cons (pv 0) (pa_cons (pe_ix ix_list (pe_lst (pa_cons pe_int (pa_cons pe_int pa_nil))) (pe_callTy call_int1 rfl O.int (by decide +kernel) (pa_cons (pe_cmpR op_gt (pv 1) pe_int (nomark _)) pa_nil)) (fun _ _ => rfl)) pa_nil))))
      (pa_cons (pe_op op_add pe_int (pe_D DT hr rfl (pa_cons (pv 0) (pa_cons pe_int pa_nil)))) pa_nil)) (by rfl))
    (pss_cons (ps_set (i := 4) scAn.nd rfl (Or.inl rfl) (pe_D DT hr rfl (pa_cons (pv 0) (pa_cons pe_int pa_nil))))
    (pss_cons (ps_asg (pe_tup (pa_cons (pe_tup (pa_cons pe_str pa_nil)) (pa_cons (pe_tup (pa_cons pe_str pa_nil)) pa_nil))) (pg_tup rfl (pgs_cons (pg_name (i := 5) scAn.nd rfl (Or.inl rfl)) (pgs_cons (pg_name (i := 6) scAn.nd rfl (Or.inl rfl)) pgs_nil))))
    (pss_cons (ps_if (pt_cmpR op_eq (pv 4) pe_int (nomark _)) (pss_one (ps_ret (pe_tup (pa_cons (pv 2) (pa_cons (pe_op op_add pe_int (pe_D DT hr rfl (pa_cons (pv 0) (pa_cons pe_int pa_nil)))) (pa_cons pe_non (pa_cons (pe_tup (pa_cons pe_str (pa_cons pe_int pa_nil))) (pa_cons pe_int pa_nil)))))))) pss_nil)
    (pss_cons (ps_if (pt_cmpR op_eq (pv 4) pe_int (nomark _)) (pss_one (ps_ret (pe_tup (pa_cons (pv 2) (pa_cons (pe_op op_add (pv 2) (pe_D DT hr rfl (pa_cons (pv 0) (pa_cons pe_int pa_nil)))) (pa_cons (pe_tup (pa_cons pe_str (pa_cons (pv 5) (pa_cons (pv 6) pa_nil)))) (pa_cons (pv 5) (pa_cons pe_int pa_nil)))))))) pss_nil)
    (pss_cons (ps_if (pt_cmpR op_eq (pv 4) pe_int (nomark _)) (pss_one (ps_ret (pe_tup (pa_cons (pv 2) (pa_cons (pe_op op_add (pv 2) (pe_D DT hr rfl (pa_cons (pv 0) (pa_cons pe_int pa_nil)))) (pa_cons (pe_tup (pa_cons pe_str (pa_cons (pe_tup (pa_cons pe_str (pa_cons (pv 5) (pa_cons (pv 6) pa_nil)))) pa_nil)))
      (pa_cons (pe_tup (pa_cons pe_str (pa_cons (pv 5) (pa_cons (pe_tup (pa_cons pe_str (pa_cons pe_int pa_nil))) pa_nil)))) (pa_cons pe_int pa_nil)))))))) pss_nil)
    (pss_one (ps_ret (pe_tup (pa_cons (pv 2) (pa_cons (pe_op op_add (pv 3) (pe_D DT hr rfl (pa_cons (pv 0) (pa_cons pe_int pa_nil)))) (pa_cons (pe_tup (pa_cons pe_str (pa_cons (pv 6) (pa_cons (pe_tup (pa_cons pe_str (pa_cons (pv 3) pa_nil))) pa_nil))))
      (pa_cons (pe_tup (pa_cons pe_str (pa_cons (pv 3) pa_nil))) (pa_cons (pv 3) pa_nil))))))))))))), ?_⟩
  obtain ⟨z, ez, z4, z8⟩ := int48 lots
  refine ⟨_, rfl, (by show 2 ≤ sizeLine; omega), fun p1 n1 => ⟨_, rfl, _, _, rfl, rfl, .inr ⟨_, rfl, p1, _, _, _, rfl, rfl, SqL.of upd_same, ez, b, z, m, rfl, hB.keep (same_new n1 _), by omega, by omega, by omega, fun d1 H1 k1 B1 d10 d11 => ⟨_, _, rfl, rfl, ?_⟩⟩⟩⟩
  have k1 := (Kept.new n1 _).trans k1
  refine ⟨_, rfl, b, 6, m + 1, rfl, B1, by omega, by decide, by decide, fun d2 H2 k2 B2 d20 d21 => ⟨_, _, rfl, rfl, _, _, rfl, ?_⟩⟩
  refine ⟨_, rfl, b, 4, m + 1 + 1, rfl, B2, by omega, by decide, by decide, fun srt H3 k3 B3 s0 s4 => ?_⟩
  refine ⟨(by show 1 ≤ sizeLine; omega), fun pw nw => ⟨(by show 1 ≤ sizeLine; omega), fun pr nr => ⟨(by show 2 ≤ sizeLine; omega), fun pt nt => ⟨pt, _, rfl, SqT.of upd_same, rfl, _, _, rfl, _, _, rfl, rfl, ?_⟩⟩⟩⟩
  have sw := same_new nw (.tup [.str "asked"])
  have sr := same_new nr (.tup [.str "told"])
  have st := same_new nt (.tup [.ref pw, .ref pr])
  have srt' := sr.trans st
  have swt := sw.trans srt'
  have k4 : Kept b H _ := k1.trans (k2.trans (k3.trans (.of swt)))
  have B4 := B3.keep swt
  have ew := srt' pw _ upd_same
  have er := st pr _ upd_same
  clear sw sr st srt' swt
  generalize upd (upd (upd H3 pw (.tup [.str "asked"])) pr (.tup [.str "told"])) pt (.tup [.ref pw, .ref pr]) = H4 at *
  have yw : ExAt H4 (.ref pw) .asked := .asked ew
  have yr : ExAt H4 (.ref pr) .told := .told er
  refine ⟨_, rfl, rfl, _, rfl, itEq (fun c1 => ?_) (fun c1 => ⟨_, rfl, rfl, _, rfl, itEq (fun c2 => ?_) (fun c2 => ⟨_, rfl, rfl, _, rfl, itEq (fun c3 => ?_) (fun c3 => ?_)⟩)⟩)⟩
  · refine ⟨_, rfl, _, rfl, b, 9, m + 1 + 1 + 1, rfl, B4, by omega, by decide, by decide, fun d5 H5 k5 B5 d50 d51 => ⟨_, _, rfl, rfl, (by show 2 ≤ sizeLine; omega), fun q1 m1 => ⟨(by show 5 ≤ sizeLine; omega), fun q2 m2 => ?_⟩⟩⟩
    have t1 := same_new m1 (.tup [.str "number", .int 0])
    have t2 := same_new m2 (.tup [.int (1 + d1), .int (1 + d5), .non, .ref q1, .int 0])
    refine q q2 ⟨1 + d1, 1 + d5, none, .num 0, 0⟩ _ (k4.trans (k5.trans (.of (t1.trans t2)))) ((B5.keep (t1.trans t2)).more (by omega)) ⟨.non, .ref q1, upd_same, rfl, .num (t2 q1 _ upd_same)⟩ ⟨⟨by show 1 ≤ 1 + d1; omega, by show 1 + d1 ≤ 40; omega⟩, ⟨by show 1 ≤ 1 + d5; omega, by show 1 + d5 ≤ 40; omega⟩, fun t ht => (by cases ht), .inl rfl⟩
  · refine ⟨_, rfl, _, rfl, _, rfl, b, 3, m + 1 + 1 + 1, rfl, B4, by omega, by decide, by decide, fun d5 H5 k5 B5 d50 d51 => ⟨_, _, rfl, rfl, _, rfl, _, rfl, (by show 3 ≤ sizeLine; omega), fun q1 m1 => ⟨_, rfl, (by show 5 ≤ sizeLine; omega), fun q2 m2 => ?_⟩⟩⟩
    have t1 := same_new m1 (.tup [.str "is", .ref pw, .ref pr])
    have t2 := same_new m2 (.tup [.int (1 + d1), .int (1 + d1 + d5), .ref q1, .ref pw, .int 0])
    have tA : Tups H4 _ := B4.tups (k5.trans (.of (t1.trans t2)))
    refine q q2 ⟨1 + d1, 1 + d1 + d5, some (.is .asked .told), .asked, 0⟩ _ (k4.trans (k5.trans (.of (t1.trans t2)))) ((B5.keep (t1.trans t2)).more (by omega)) ⟨.ref q1, .ref pw, upd_same, .is (t2 q1 _ upd_same) (yw.keep tA) (yr.keep tA), yw.keep tA⟩
      ⟨⟨by show 1 ≤ 1 + d1; omega, by show 1 + d1 ≤ 40; omega⟩, ⟨by show 1 ≤ 1 + d1 + d5; omega, by show 1 + d1 + d5 ≤ 40; omega⟩, fun t ht => ?_, .inr (.inl rfl)⟩
    cases ht
    exact Ts.right_of ⟨by simp [Ex.fit], by simp [Ex.fit]⟩ (by show max 1 1 + 1 ≤ 4; decide)
  · refine ⟨_, rfl, _, rfl, _, rfl, b, 3, m + 1 + 1 + 1, rfl, B4, by omega, by decide, by decide, fun d5 H5 k5 B5 d50 d51 => ⟨_, _, rfl, rfl, _, rfl, _, rfl, (by show 3 ≤ sizeLine; omega), fun q1 m1 => ⟨(by show 2 ≤ sizeLine; omega), fun q2 m2 => ⟨_, rfl, (by show 2 ≤ sizeLine; omega), fun q3 m3 => ⟨(by show 3 ≤ sizeLine; omega), fun q4 m4 => ⟨(by show 5 ≤ sizeLine; omega), fun q5 m5 => ?_⟩⟩⟩⟩⟩⟩
    have t1 := same_new m1 (.tup [.str "below", .ref pw, .ref pr])
    have t2 := same_new m2 (.tup [.str "not", .ref q1])
    have t3 := same_new m3 (.tup [.str "number", .int 1])
    have t4 := same_new m4 (.tup [.str "plus", .ref pw, .ref q3])
    have t5 := same_new m5 (.tup [.int (1 + d1), .int (1 + d1 + d5), .ref q2, .ref q4, .int 0])
    have t45 := t4.trans t5
    have t35 := t3.trans t45
    have t25 := t2.trans t35
    have t15 := t1.trans t25
    have tA : Tups H4 _ := B4.tups (k5.trans (.of t15))
    refine q q5 ⟨1 + d1, 1 + d1 + d5, some (.nt (.bel .asked .told)), .op .plus .asked (.num 1), 0⟩ _ (k4.trans (k5.trans (.of t15))) ((B5.keep t15).more (by omega))
      ⟨.ref q2, .ref q4, upd_same, .nt (t35 q2 _ upd_same) (.bel (t25 q1 _ upd_same) (yw.keep tA) (yr.keep tA)), .op (d := .plus) (t5 q4 _ upd_same) (yw.keep tA) (.num (t45 q3 _ upd_same))⟩
      ⟨⟨by show 1 ≤ 1 + d1; omega, by show 1 + d1 ≤ 40; omega⟩, ⟨by show 1 ≤ 1 + d1 + d5; omega, by show 1 + d1 + d5 ≤ 40; omega⟩, fun t ht => ?_, .inr (.inr (.inl rfl))⟩
    cases ht
    exact Ts.right_of ⟨by simp [Ex.fit], by simp [Ex.fit]⟩ (by show max 1 1 + 1 + 1 ≤ 4; decide)
  · refine ⟨_, rfl, _, rfl, _, rfl, b, 4, m + 1 + 1 + 1, rfl, B4, by omega, by decide, by decide, fun d5 H5 k5 B5 d50 d51 => ⟨_, _, rfl, rfl, _, rfl, _, rfl, (by show 2 ≤ sizeLine; omega), fun q1 m1 => ⟨(by show 3 ≤ sizeLine; omega), fun q2 m2 => ⟨_, rfl, (by show 2 ≤ sizeLine; omega), fun q3 m3 => ⟨_, rfl, (by show 5 ≤ sizeLine; omega), fun q5 m5 => ?_⟩⟩⟩⟩⟩
    have t1 := same_new m1 (.tup [.str "number", .int (1 + d2)])
    have t2 := same_new m2 (.tup [.str "below", .ref pr, .ref q1])
    have t3 := same_new m3 (.tup [.str "number", .int (1 + d2)])
    have t5 := same_new m5 (.tup [.int (1 + d1), .int (1 + d2 + d5), .ref q2, .ref q3, .int (1 + d2)])
    have t35 := t3.trans t5
    have t25 := t2.trans t35
    have t15 := t1.trans t25
    have tA : Tups H4 _ := B4.tups (k5.trans (.of t15))
    refine q q5 ⟨1 + d1, 1 + d2 + d5, some (.bel .told (.num (1 + d2))), .num (1 + d2), 1 + d2⟩ _ (k4.trans (k5.trans (.of t15))) ((B5.keep t15).more (by omega))
      ⟨.ref q2, .ref q3, upd_same, .bel (t35 q2 _ upd_same) (yr.keep tA) (.num (t25 q1 _ upd_same)), .num (t5 q3 _ upd_same)⟩
      ⟨⟨by show 1 ≤ 1 + d1; omega, by show 1 + d1 ≤ 40; omega⟩, ⟨by show 1 ≤ 1 + d2 + d5; omega, by show 1 + d2 + d5 ≤ 40; omega⟩, fun t ht => ?_, .inr (.inr (.inr ⟨1 + d2, by omega, by omega, rfl⟩))⟩
    cases ht
    exact Ts.right_of ⟨by simp [Ex.fit], (by show 0 ≤ 1 + d2; omega), (by show 1 + d2 ≤ 999; omega)⟩ (by show max 1 1 + 1 ≤ 4; decide)
end
end Any
set_option pp.maxSteps 600
namespace Any
open L2 PySem PySem.Spec PyProof.Rows LamX NdefX
/-! ### what a drawn room is like -/
theorem paired_perm {α β : Type} {R : α → β → Prop} {xs ys : List α} (p : ys.Perm xs) : ∀ {bs : List β}, Paired R xs bs → ∃ cs, cs.Perm bs ∧ Paired R ys cs := by
  induction p with
  | nil => exact fun h => ⟨_, .refl _, h⟩
  | cons x p ih =>
    intro bs h
    cases h with
    | cons r t =>
      obtain ⟨cs, c1, c2⟩ := ih t
      exact ⟨_ :: cs, c1.cons _, .cons r c2⟩
  | swap x y l =>
    intro bs h
    cases h with
    | cons r t =>
      cases t with
      | cons r2 t2 => exact ⟨_ :: _ :: _, .swap _ _ _, .cons r2 (.cons r t2)⟩
  | trans p q ih1 ih2 =>
    intro bs h
    obtain ⟨cs, c1, c2⟩ := ih2 h
    obtain ⟨ds, d1, d2⟩ := ih1 c2
    exact ⟨ds, d1.trans c1, d2⟩
theorem paired_app {α β : Type} {R : α → β → Prop} : ∀ {xs : List α} {ys : List β}, Paired R xs ys → ∀ {us : List α} {vs : List β}, Paired R us vs → Paired R (xs ++ us) (ys ++ vs)
  | _, _, .nil, _, _, h => h
  | _, _, .cons r t, _, _, h => .cons r (paired_app t h)
def strOf : V → Option Str
  | .str x => some x
  | _ => none
theorem strs_back : ∀ xs : List Str, (xs.map V.str).filterMap strOf = xs
  | [] => rfl
  | x :: r => by
    rw [List.map_cons, List.filterMap_cons]
    show x :: _ = _
    rw [strs_back r]
theorem strs_perm {ys : List V} {xs : List Str} (p : ys.Perm (xs.map V.str)) : ∃ zs : List Str, ys = zs.map V.str ∧ zs.Perm xs := by
  refine ⟨ys.filterMap strOf, ?_, ?_⟩
  · have key : ∀ l : List V, (∀ v ∈ l, ∃ x, v = .str x) → l = (l.filterMap strOf).map V.str := by
      intro l
      induction l with
      | nil => exact fun _ => rfl
      | cons v r ih =>
        intro h
        obtain ⟨x, rfl⟩ := h v (List.mem_cons_self ..)
        rw [List.filterMap_cons]
        show _ = V.str x :: (r.filterMap strOf).map V.str
        rw [← ih fun u hu => h u (List.mem_cons_of_mem _ hu)]
    refine key ys fun v hv => ?_
    obtain ⟨x, _, e⟩ := strs_mem (p.mem_iff.mp hv)
    exact ⟨x, e⟩
  · have := p.filterMap strOf
    rw [strs_back] at this
    exact this
theorem toL_len : ∀ b : Bd, b.toL.length = b.len
  | .nil => rfl
  | .cons s b => by
    show (s :: b.toL).length = b.len + 1
    rw [List.length_cons, toL_len b]
/-- the number of a box among boxes of unlike names -/
theorem look_nd : ∀ {bs : List (Str × Int × Int)}, (bs.map (·.1)).Nodup → ∀ c ∈ bs, look (bs.map fun b => (b.1, b.2.2)) c.1 = some c.2.2
  | [], _, c, h => by cases h
  | b :: r, nd, c, h => by
    rw [List.map_cons, List.nodup_cons] at nd
    unfold look
    rw [List.map_cons, List.find?_cons]
    rcases List.mem_cons.mp h with e | h
    · rw [e, decide_eq_true (show b.1 = b.1 from rfl)]
      rfl
    · have ne : ¬ b.1 = c.1 := fun z => nd.1 (by rw [z]; exact List.mem_map.mpr ⟨c, h, rfl⟩)
      rw [decide_eq_false (show ¬ (b.1, b.2.2).1 = c.1 from ne)]
      exact look_nd nd.2 c h
/-- what is known of a drawn room -/
structure Drawn (name roof : Str) (rs : List Str) (r : Rm) : Prop where
  name : r.name = name
  above : r.above = roof
  boxes : r.boxesOk
  asc : sortedS r.bn = true
  says : r.saysOk
  first : roof = "" → r.firstOk ∧ r.body.right r.bn [] rs
  other : roof ≠ "" → r.otherOk ∧ r.body.right r.bn ["asked"] rs
  some : 1 ≤ r.boxes.length
abbrev seven : List Str := ["a", "b", "c", "n", "xx", "left", "is"]
theorem seven_nm : ∀ x ∈ seven, Nm x := by decide +kernel
theorem seven_nd : seven.Nodup := by decide +kernel
theorem nm_ok {x : Str} (h : Nm x) : PyData.strOk x = true := by
  unfold PyData.strOk
  rw [Array.all_eq_true']
  intro c hc
  have := h.low c (by simpa using hc)
  exact decide_eq_true (by omega)
/-- boxes and sayings drawn so -/
structure Kept4 (names : List Str) (cr : List (Str × Int × Int)) (ts : List Ts) : Prop where
  nm : cr.map (·.1) = names
  nd : names.Nodup
  sv : ∀ x ∈ names, x ∈ seven
  asc : sortedS names = true
  len : names.length ≤ 4
  some : 1 ≤ names.length
  crate : ∀ c ∈ cr, (1 ≤ c.2.1 ∧ c.2.1 ≤ 40) ∧ (0 ≤ c.2.2 ∧ c.2.2 ≤ c.2.1 - 1)
  tl : ts.length ≤ cr.length
  tr : ∀ t ∈ ts, t.right names []
  tv : ∀ t ∈ ts, ∀ kvs : List (Str × Int), (∀ c ∈ cr, look kvs c.1 = Option.some c.2.2) → t.val kvs 0 0 = true
theorem Kept4.parts {names : List Str} {cr : List (Str × Int × Int)} {ts : List Ts} (h : Kept4 names cr ts) {n a : Str} {k : Option Int} {o : Option (Int × Ex)} {p : Option Ts} {y : Bd} :
    (Rm.mk n a cr ts k o p y).boxesOk ∧ sortedS (Rm.mk n a cr ts k o p y).bn = true ∧ (Rm.mk n a cr ts k o p y).saysOk ∧ (Rm.mk n a cr ts k o p y).bn = names ∧ 1 ≤ cr.length ∧ cr.length ≤ 4 := by
  have hl : cr.length = names.length := by rw [← h.nm, List.length_map]
  have h1 := h.len
  have h2 := h.some
  have h3 := h.tl
  have e : (Rm.mk n a cr ts k o p y).bn = names := h.nm
  refine ⟨⟨by show cr.length ≤ 4; omega, fun b hb => ⟨seven_nm _ (h.sv _ ?_), h.crate b hb⟩, by rw [e]; exact h.nd⟩, by rw [e]; exact h.asc, ⟨by show ts.length ≤ 4; omega, fun t ht => ⟨by rw [e]; exact h.tr t ht, ?_⟩⟩, e, by omega, by omega⟩
  · rw [← h.nm]
    exact List.mem_map.mpr ⟨b, hb, rfl⟩
  · refine h.tv t ht _ ?_
    refine look_nd (bs := cr) ?_
    rw [h.nm]
    exact h.nd
end Any
set_option pp.maxSteps 600
namespace Any
open L2 PySem PySem.Spec PyProof.Rows LamX NdefX
/-! ### _law_room: its end -/
abbrev sRoom : Stmt := top 89
abbrev psRm : List Str := ["_law_bag_here", "_law_name", "_law_roof", "_law_answer_here", "_law_beneath", "_law_lots"]
abbrev nmRm : List Str := ["_law_bag_here", "_law_name", "_law_roof", "_law_answer_here", "_law_beneath", "_law_lots", "_law_asks", "_law_names", "_law_crates", "_law_kept", "_law_lasts", "_law_left", "_law_more", "_law_tests", "_law_steps_here", "_law_deeds", "_law_goal", "_law_term", "_law_by", "_law_tells", "_law_one"]
theorem scRm : FnScope nmRm psRm (defScope sRoom) := ⟨rfl, rfl, rfl, by decide +kernel, rfl, by decide +kernel, by decide +kernel⟩
section
variable {P : Program} {w : World} {K : PySem.W.Frag} {mg : Str → Option Value} {base : Heap} {f : Addr} {cdv : Value} {A : Around} {outer : List Env} {s : Shared} {H : Hp} {E : XK}
abbrev XRm (P : Program) (w : World) (K : PySem.W.Frag) (mg : Str → Option Value) (base : Heap) (f : Addr) (cdv : Value) (A : Around) (outer : List Env) (s : Shared) (H : Hp) (E : XK) : Cx := (cxOf CX0 P w K mg base nmRm "_law_room" (defScope sRoom) f cdv A outer s H E).nox
set_option maxHeartbeats 4000000 in
theorem room_end (O : Own mg) (DX : Df P w K mg base 9 "_law_expr" psE (spExpr 7)) (hr : Room 20 (XRm P w K mg base f cdv A outer s H E).A) : ∃ t7, PSs (XRm P w K mg base f cdv A outer s H E) ((defBody sRoom).drop 7) t7 ∧
    ∀ (D : Ends) (H9 : Hp) (b an lw N C S pd : Addr) (name roof : Str) (z : Ans) (lots : Int) (as : Nat) (names rs : List Str) (cr : List (Str × Int × Int)) (ts : List Ts) (vs : List V) (ss : List Sg) (z10 z11 z12 z13 z14 z16 z17 z18 z19 z20 : Option V) (M : Nat) (Q : VK),
      D.rt = Q → Bag H9 b M → M + 40 < 2 ^ 40 → AnsAt H9 an z → AnsOk z → H9 N = some (.lst (names.map V.str)) → N ≠ b → CrL H9 C cr → TsL H9 S ts → C ≠ b → S ≠ b → H9 pd = some (.tup vs) → Paired (SgAt H9) vs ss → Kept4 names cr ts → (Bd.of ss).right names (wsOf as) rs → as ≤ 1 → (as = 0 ↔ roof = "") →
      (∀ a r H', Kept b H9 H' → Bag H' b (M + 36) → EightAt H' a r → Drawn name roof rs r → Q (.ref a) H') →
      t7 D [some (.ref b), some (.str name), some (.str roof), some (.ref an), some (.ref lw), some (.int lots), some (.int as), some (.ref N), some (.ref C), some (.ref S), z10, z11, z12, z13, z14, some (.ref pd), z16, z17, z18, z19, z20] H9 := by
  have hr9 := hr.mono (show 9 ≤ 20 by omega)
  have hs : sizeLine = 16777216 := sizeLine_eq
  have c2 : ce 2 = 35 := rfl
  -- what is told
  obtain ⟨tE, htE, leafE⟩ : ∃ tE, PSs (XRm P w K mg base f cdv A outer s H E) ((defBody sRoom).drop 10) tE ∧
      ∀ (D : Ends) (H9 : Hp) (b an lw N C S pd : Addr) (name roof : Str) (z : Ans) (lots : Int) (names rs : List Str) (cr : List (Str × Int × Int)) (ts : List Ts) (vs : List V) (ss : List Sg) (z10 z11 z12 z13 z14 z16 z17 z18 z20 : Option V) (v : V) (e : Ex) (Q : VK),
        D.rt = Q → AnsAt H9 an z → AnsOk z → CrL H9 C cr → TsL H9 S ts → H9 pd = some (.tup vs) → Paired (SgAt H9) vs ss → Kept4 names cr ts → (Bd.of ss).right names (wsOf 1) rs → roof ≠ "" → ExAt H9 v e → e.right names ["asked"] →
        (∀ a r H', Same H9 H' → EightAt H' a r → Drawn name roof rs r → Q (.ref a) H') →
        tE D [some (.ref b), some (.str name), some (.str roof), some (.ref an), some (.ref lw), some (.int lots), some (.int 1), some (.ref N), some (.ref C), some (.ref S), z10, z11, z12, z13, z14, some (.ref pd), z16, z17, z18, some v, z20] H9 := by
    refine ⟨_, pss_one (ps_ret (pe_tup (pa_cons (pv 1) (pa_cons (pv 2) (pa_cons (pe_callTy call_tuple_of rfl O.tuple (by decide +kernel) (pa_cons (pv 8) pa_nil)) (pa_cons (pe_callTy call_tuple_of rfl O.tuple (by decide +kernel) (pa_cons (pv 9) pa_nil))
      (pa_cons (pe_ix ix_tup (pv 3) pe_int (fun _ _ => rfl)) (pa_cons (pe_tup (pa_cons (pe_ix ix_tup (pv 3) pe_int (fun _ _ => rfl)) (pa_cons (pv 19) pa_nil))) (pa_cons (pe_ix ix_tup (pv 3) pe_int (fun _ _ => rfl)) (pa_cons (pv 15) pa_nil)))))))))), ?_⟩
    intro D H9 b an lw N C S pd name roof z lots names rs cr ts vs ss z10 z11 z12 z13 z14 z16 z17 z18 z20 v e Q eD ⟨v1, u1, ha, hv1, hu1⟩ hz ⟨as1, hC, pC⟩ ⟨us1, hS, pS⟩ hd pd_ hk hb hne hv he q
    refine ⟨_, rfl, _, rfl, _, rfl, C, _, rfl, .inl ⟨SqL.of hC, fun p1 n1 => ?_⟩⟩
    have s1 := same_new n1 (.tup (as1.map V.ref))
    refine ⟨_, rfl, S, _, rfl, .inl ⟨SqL.of (s1 _ _ hS), fun p2 n2 => ?_⟩⟩
    have s2 := same_new n2 (.tup us1)
    have s12 := s1.trans s2
    refine ⟨_, rfl, an, _, _, _, rfl, rfl, SqT.of (s12 _ _ ha), atI_nat (j := 0) rfl, _, rfl, an, _, _, _, rfl, rfl, SqT.of (s12 _ _ ha), atI_nat (j := 1) rfl, _, rfl, (by show 2 ≤ sizeLine; omega), fun p3 n3 => ?_⟩
    have s3 := same_new n3 (.tup [.int z.bd, v])
    have s13 := s12.trans s3
    refine ⟨_, rfl, an, _, _, _, rfl, rfl, SqT.of (s13 _ _ ha), atI_nat (j := 2) rfl, _, rfl, (by show 8 ≤ sizeLine; omega), fun p4 n4 => ?_⟩
    have s4 := same_new n4 (.tup [.str name, .str roof, .ref p1, .ref p2, .int z.wide, .ref p3, v1, .ref pd])
    have s14 := s13.trans s4
    rw [eD]
    obtain ⟨b1, b2, b3, b4, b5, b6⟩ := hk.parts (n := name) (a := roof) (k := some z.wide) (o := some (z.bd, e)) (p := z.vow) (y := Bd.of ss)
    refine q p4 (Rm.mk name roof cr ts (some z.wide) (some (z.bd, e)) z.vow (Bd.of ss)) _ s14 ⟨_, _, _, _, _, _, _, _, upd_same, ?_⟩ ⟨rfl, rfl, b1, b2, b3, fun h => absurd h hne, fun _ => ⟨⟨⟨_, rfl, hz.wide⟩, ⟨_, _, rfl, hz.bd, by rw [b4]; exact he⟩, hz.vow⟩, by rw [b4]; exact hb⟩, b5⟩
    have t := Same.tups s14
    exact ⟨rfl, rfl, ⟨p1, rfl, as1, (s2.trans (s3.trans s4)) p1 _ upd_same, paired_imp (fun _ _ y => s14 _ _ y) pC⟩, ⟨p2, rfl, us1, (s3.trans s4) p2 _ upd_same, paired_imp (fun _ _ y => y.keep t) pS⟩, rfl, ⟨p3, v, rfl, s4 p3 _ upd_same, hv.keep t⟩, hv1.keep t, ⟨pd, rfl, vs, s14 _ _ hd, of_at (paired_imp (fun _ _ y => SgAt.keep t _ y) pd_)⟩⟩
  refine ⟨_, pss_cons (ps_if (pt_cmpR op_eq (pv 6) pe_int (nomark _)) (pss_one (ps_ret (pe_tup (pa_cons (pv 1) (pa_cons (pv 2) (pa_cons (pe_callTy call_tuple_of rfl O.tuple (by decide +kernel) (pa_cons (pv 8) pa_nil)) (pa_cons (pe_callTy call_tuple_of rfl O.tuple (by decide +kernel) (pa_cons (pv 9) pa_nil))
      (pa_cons pe_non (pa_cons pe_non (pa_cons pe_non (pa_cons (pv 15) pa_nil))))))))))) pss_nil)
    (pss_cons (ps_par (i := 17) (j := 18) (by rfl) scRm.nd rfl rfl (by decide) rfl rfl (pa_cons (pe_D DX hr9 rfl (pa_cons (pv 0) (pa_cons (pv 7) (pa_cons pe_int (pa_cons pe_int pa_nil))))) (pa_cons (pe_ix ix_tup (pv 3) pe_int (fun _ _ => rfl)) pa_nil)) (by rfl))
    (pss_cons (ps_set (i := 19) scRm.nd rfl (Or.inl rfl) (pe_ifExp (pt_cmpR (op_eqD hr.units) (pv 18) (pe_tup (pa_cons pe_str pa_nil)) (nomark _)) (pv 18) (pe_ifExp (pt_cmpR (op_eqD hr.units) (pv 18) (pe_tup (pa_cons pe_str (pa_cons pe_int pa_nil))) (nomark _)) (pv 17) (pe_tup (pa_cons pe_str (pa_cons (pv 17) (pa_cons (pv 18) pa_nil))))))) htE)), ?_⟩
  intro D H9 b an lw N C S pd name roof z lots as names rs cr ts vs ss z10 z11 z12 z13 z14 z16 z17 z18 z19 z20 M Q eD hB hM hA hz hN hNb hC hS hCb hSb hd pd_ hk hb has hroof q
  refine ⟨_, rfl, rfl, _, rfl, itEq (fun c1 => ?_) (fun c1 => ?_)⟩
  · -- the first room
    have a0 : as = 0 := by omega
    subst a0
    have hr0 : roof = "" := hroof.mp rfl
    obtain ⟨as1, hC, pC⟩ := hC
    obtain ⟨us1, hS, pS⟩ := hS
    refine ⟨_, rfl, _, rfl, _, rfl, C, _, rfl, .inl ⟨SqL.of hC, fun p1 n1 => ?_⟩⟩
    have s1 := same_new n1 (.tup (as1.map V.ref))
    refine ⟨_, rfl, S, _, rfl, .inl ⟨SqL.of (s1 _ _ hS), fun p2 n2 => ⟨_, rfl, (by show 8 ≤ sizeLine; omega), fun p4 n4 => ?_⟩⟩⟩
    have s2 := same_new n2 (.tup us1)
    have s4 := same_new n4 (.tup [.str name, .str roof, .ref p1, .ref p2, .non, .non, .non, .ref pd])
    have s14 := s1.trans (s2.trans s4)
    rw [eD]
    obtain ⟨b1, b2, b3, b4, b5, b6⟩ := hk.parts (n := name) (a := roof) (k := none) (o := none) (p := none) (y := Bd.of ss)
    refine q p4 (Rm.mk name roof cr ts none none none (Bd.of ss)) _ (.of s14) ((hB.keep s14).more (by omega)) ⟨_, _, _, _, _, _, _, _, upd_same, ?_⟩ ⟨rfl, rfl, b1, b2, b3, fun _ => ⟨⟨rfl, rfl, rfl⟩, by rw [b4]; exact hb⟩, fun h => absurd hr0 h, b5⟩
    have t := Same.tups s14
    exact ⟨rfl, rfl, ⟨p1, rfl, as1, (s2.trans s4) p1 _ upd_same, paired_imp (fun _ _ y => s14 _ _ y) pC⟩, ⟨p2, rfl, us1, s4 p2 _ upd_same, paired_imp (fun _ _ y => y.keep t) pS⟩, rfl, rfl, rfl, ⟨pd, rfl, vs, s14 _ _ hd, of_at (paired_imp (fun _ _ y => SgAt.keep t _ y) pd_)⟩⟩
  · have a1 : as = 1 := by omega
    subst a1
    have hr1 : roof ≠ "" := fun h => absurd (hroof.mpr h) (by decide)
    have h4 := hk.len
    refine ⟨_, rfl, _, rfl, b, N, 2, M, names, 1, rfl, by decide, by decide, hB, by omega, hN, hNb, by omega, fun ve e H1 k1 B1 g1 g2 g3 => ?_⟩
    rw [c2] at B1
    have g2 : e.deep ≤ 2 := g2
    have t1 := hB.tups k1
    have hA1 := hA.keep t1
    have hz2 := hz
    obtain ⟨v1, u1, ha, hv1, hu1⟩ := id hA1
    refine ⟨_, rfl, an, _, _, _, rfl, rfl, SqT.of ha, atI_nat (j := 3) rfl, _, _, rfl, ?_⟩
    have hC1 : CrL H1 C cr := by
      obtain ⟨as1, h1, h2⟩ := hC
      exact ⟨as1, k1 _ _ hCb h1, paired_imp (fun _ _ y => t1 _ _ y) h2⟩
    have hS1 : TsL H1 S ts := by
      obtain ⟨as1, h1, h2⟩ := hS
      exact ⟨as1, k1 _ _ hSb h1, paired_imp (fun _ _ y => y.keep t1) h2⟩
    have hd1 := t1 _ _ hd
    have pd1 : Paired (SgAt H1) vs ss := paired_imp (fun _ _ y => SgAt.keep t1 _ y) pd_
    have her : e.right names ["asked"] := Ex.right_of g3 (by omega)
    have go : ∀ (D_ : Ends) (H2 : Hp) (z16 z17 z18 z20 : Option V) (v : V) (te : Ex), D_.rt = Q → Same H1 H2 → ExAt H2 v te → te.right names ["asked"] →
        tE D_ [some (.ref b), some (.str name), some (.str roof), some (.ref an), some (.ref lw), some (.int lots), some (.int 1), some (.ref N), some (.ref C), some (.ref S), z10, z11, z12, z13, z14, some (.ref pd), z16, z17, z18, some v, z20] H2 :=
      fun D_ H2 z16 z17 z18 z20 v te e1 s2 h1 h2 => leafE D_ H2 b an lw N C S pd name roof z lots names rs cr ts vs ss z10 z11 z12 z13 z14 z16 z17 z18 z20 v te Q e1 (hA1.keep (Same.tups s2)) hz (hC1.keep s2) (hS1.keep s2) (s2 _ _ hd1) (paired_imp (fun _ _ y => SgAt.keep (Same.tups s2) _ y) pd1) hk hb hr1 h1 h2
        (fun a r H' s3 => q a r H' (k1.trans (.of (s2.trans s3))) ((B1.keep (s2.trans s3)).more (by omega)))
    refine ⟨_, rfl, (by show 1 ≤ sizeLine; omega), fun p1 n1 => ?_⟩
    have s1 := same_new n1 (.tup [.str "asked"])
    have dA : Dp K (upd H1 p1 (.tup [.str "asked"])) (.ref p1) (.tuple [.str "asked"]) := .tup (SqT.of upd_same) (.cons (.str _) .nil)
    have restR : ∀ u te, ExAt H1 u te → te.deep ≤ 2 → te.fit names ["asked"] → ∀ H2, Same H1 H2 → ∀ p, H2 p = some (.tup [.str "rest", ve, u]) → ExAt H2 (.ref p) (.op .rest e te) ∧ (Ex.op .rest e te).right names ["asked"] := fun u te h1 h2 h3 H2 s2 p hp =>
      ⟨.op (d := .rest) hp (g1.keep (Same.tups s2)) (h1.keep (Same.tups s2)), Ex.right_of ⟨g3, h3⟩ (by show max e.deep te.deep + 1 ≤ 4; omega)⟩
    rcases hz2.by_ with eb | eb | eb | ⟨k, k1', k6, eb⟩
    · rw [eb] at hu1
      cases hu1 with
      | num h =>
        rename_i a
        have d1 : Dp K (upd H1 p1 (.tup [.str "asked"])) (.ref a) (.tuple [.str "number", .int 0]) := .tup (SqT.of (s1 _ _ h)) (.cons (.str _) (.cons (.int _) .nil))
        refine ⟨_, _, d1, dA, by decide +kernel, by decide +kernel, _, rfl, itF (by decide +kernel) ?_⟩
        refine ⟨_, rfl, (by show 2 ≤ sizeLine; omega), fun p2 n2 => ?_⟩
        have s2 := same_new n2 (.tup [.str "number", .int 0])
        refine ⟨.tuple [.str "number", .int 0], .tuple [.str "number", .int 0], .tup (SqT.of (s2 _ _ (s1 _ _ h))) (.cons (.str _) (.cons (.int _) .nil)), .tup (SqT.of upd_same) (.cons (.str _) (.cons (.int _) .nil)), by decide +kernel, by decide +kernel, _, rfl, itT (by decide +kernel) ?_⟩
        exact ⟨_, rfl, go _ _ _ _ _ _ _ e eD (s1.trans s2) (g1.keep (Same.tups (s1.trans s2))) her⟩
    · rw [eb] at hu1
      cases hu1 with
      | asked h =>
        rename_i a
        refine ⟨.tuple [.str "asked"], _, .tup (SqT.of (s1 _ _ h)) (.cons (.str _) .nil), dA, by decide +kernel, by decide +kernel, _, rfl, itT (by decide +kernel) ?_⟩
        exact ⟨_, rfl, go _ _ _ _ _ _ _ .asked eD s1 (.asked (s1 _ _ h)) (Ex.right_of (List.mem_singleton.mpr rfl) (by decide))⟩
    · rw [eb] at hu1
      cases hu1 with
      | op h h1 h2 =>
        rename_i a v' u'
        cases h1 with
        | asked h3 =>
          cases h2 with
          | num h4 =>
            rename_i a3 a4
            have dd : ∀ H2, Same H1 H2 → Dp K H2 (.ref a) (.tuple [.str "plus", .tuple [.str "asked"], .tuple [.str "number", .int 1]]) := fun H2 s2 => .tup (SqT.of (s2 _ _ h)) (.cons (.str _) (.cons (.tup (SqT.of (s2 _ _ h3)) (.cons (.str _) .nil)) (.cons (.tup (SqT.of (s2 _ _ h4)) (.cons (.str _) (.cons (.int _) .nil))) .nil)))
            refine ⟨_, _, dd _ s1, dA, by decide +kernel, by decide +kernel, _, rfl, itF (by decide +kernel) ?_⟩
            refine ⟨_, rfl, (by show 2 ≤ sizeLine; omega), fun p2 n2 => ?_⟩
            have s2 := same_new n2 (.tup [.str "number", .int 0])
            refine ⟨_, .tuple [.str "number", .int 0], dd _ (s1.trans s2), .tup (SqT.of upd_same) (.cons (.str _) (.cons (.int _) .nil)), by decide +kernel, by decide +kernel, _, rfl, itF (by decide +kernel) ?_⟩
            refine ⟨_, rfl, _, rfl, (by show 3 ≤ sizeLine; omega), fun p3 n3 => ?_⟩
            have s3 := same_new n3 (.tup [.str "rest", ve, .ref a])
            have sA := s1.trans (s2.trans s3)
            obtain ⟨r1, r2⟩ := restR (.ref a) (.op .plus .asked (.num 1)) (.op (d := .plus) h (.asked h3) (.num h4)) (by decide) ⟨List.mem_singleton.mpr rfl, by decide, by decide⟩ _ sA p3 upd_same
            exact go _ _ _ _ _ _ _ _ eD sA r1 r2
    · rw [eb] at hu1
      cases hu1 with
      | num h =>
        rename_i a
        have dd : ∀ H2, Same H1 H2 → Dp K H2 (.ref a) (.tuple [.str "number", .int k]) := fun H2 s2 => .tup (SqT.of (s2 _ _ h)) (.cons (.str _) (.cons (.int _) .nil))
        have sh : SeqAt.shaped (.tuple [.str "number", .int k]) = true := by kernel_rfl
        have ne0 : PyData.eqv (.tuple [.str "number", .int k]) (.tuple [.str "number", .int 0]) = false := by
          simp only [PyData.eqv, PyData.eqvAll]
          simp
          omega
        refine ⟨_, _, dd _ s1, dA, sh, by decide +kernel, _, rfl, itF rfl ?_⟩
        refine ⟨_, rfl, (by show 2 ≤ sizeLine; omega), fun p2 n2 => ?_⟩
        have s2 := same_new n2 (.tup [.str "number", .int 0])
        refine ⟨_, .tuple [.str "number", .int 0], dd _ (s1.trans s2), .tup (SqT.of upd_same) (.cons (.str _) (.cons (.int _) .nil)), sh, by decide +kernel, _, rfl, itF ne0 ?_⟩
        refine ⟨_, rfl, _, rfl, (by show 3 ≤ sizeLine; omega), fun p3 n3 => ?_⟩
        have s3 := same_new n3 (.tup [.str "rest", ve, .ref a])
        have sA := s1.trans (s2.trans s3)
        obtain ⟨r1, r2⟩ := restR (.ref a) (.num k) (.num h) (by show 1 ≤ 2; decide) ⟨by omega, by omega⟩ _ sA p3 upd_same
        exact go _ _ _ _ _ _ _ _ eD sA r1 r2
end
end Any
set_option pp.maxSteps 600
namespace Any
open L2 PySem PySem.Spec PyProof.Rows LamX NdefX
/-! ### _law_room: its deeds -/
def lowD (ls : List (Str × Int)) : List PyData := ls.map fun z => PyData.tuple [.str z.1, .int z.2]
theorem low_dp {K : PySem.W.Frag} {H : Hp} : ∀ {as : List Addr} {ls : List (Str × Int)}, Paired (fun (a : Addr) (x : Str × Int) => H a = some (.tup [.str x.1, .int x.2])) as ls → DpAll K H (as.map V.ref) (lowD ls)
  | _, _, .nil => .nil
  | _, _, .cons r t => .cons (.tup (SqT.of r) (.cons (.str _) (.cons (.int _) .nil))) (low_dp t)
theorem low_lay : ∀ ls : List (Str × Int), (∀ z ∈ ls, PyData.strOk z.1 = true) → PyData.canLayAll0 (lowD ls) = true ∧ PyData.depthAll (lowD ls) ≤ 1
  | [], _ => ⟨rfl, Nat.zero_le _⟩
  | z :: r, h => by
    obtain ⟨h1, h2⟩ := low_lay r fun y hy => h y (List.mem_cons_of_mem _ hy)
    have h3 := h z (List.mem_cons_self ..)
    refine ⟨?_, ?_⟩
    · show ((PyData.strOk z.1 && (true && true)) && PyData.canLayAll0 (lowD r)) = true
      rw [h1, h3]
      rfl
    · show max (max 0 (max 0 0) + 1) (PyData.depthAll (lowD r)) ≤ 1
      omega
theorem shaped_low {ls : List (Str × Int)} (h : ∀ z ∈ ls, PyData.strOk z.1 = true) : SeqAt.shaped (.list (lowD ls)) = true := by
  obtain ⟨h1, h2⟩ := low_lay ls h
  unfold SeqAt.shaped
  show (PyData.canLayAll0 (lowD ls) && decide (PyData.depthAll (lowD ls) + 1 ≤ 64)) = true
  rw [h1, decide_eq_true (by omega)]
  rfl
theorem eqv_low (ls : List (Str × Int)) : PyData.eqv (.list (lowD ls)) (.list []) = decide (ls = []) := by
  cases ls with
  | nil => rfl
  | cons x r => rfl
theorem tot_le : ∀ l : List Sg, (∀ s ∈ l, s.tot ≤ 1) → (l.map Sg.tot).sum ≤ l.length
  | [], _ => Nat.le_refl _
  | s :: r, h => by
    have h1 := h s (List.mem_cons_self ..)
    have h2 := tot_le r fun t ht => h t (List.mem_cons_of_mem _ ht)
    rw [List.map_cons, List.sum_cons, List.length_cons]
    omega
theorem right_app {names ws rs : List Str} {l m : List Sg} (h1 : ∀ s ∈ l, s.ok names ws rs ∧ s.dp ≤ 3) (h2 : ∀ s ∈ m, s.ok names ws rs ∧ s.dp ≤ 1 ∧ s.tot ≤ 1) (h3 : l.length ≤ 5) (h4 : m.length ≤ 4) (h5 : (l.map Sg.tot).sum ≤ 17) : (Bd.of (l ++ m)).right names ws rs := by
  have h6 := tot_le m fun s hs => (h2 s hs).2.2
  refine ⟨of_ok fun s hs => ?_, by rw [of_len, List.length_append]; omega, of_dp fun s hs => ?_, by rw [of_tot, List.map_append, List.sum_append]; omega⟩
  · rcases List.mem_append.mp hs with hs | hs
    · exact (h1 s hs).1
    · exact (h2 s hs).1
  · rcases List.mem_append.mp hs with hs | hs
    · have := (h1 s hs).2; omega
    · have := (h2 s hs).2.1; omega
section
variable {P : Program} {w : World} {K : PySem.W.Frag} {mg : Str → Option Value} {base : Heap} {f : Addr} {cdv : Value} {A : Around} {outer : List Env} {s : Shared} {H : Hp} {E : XK}
set_option maxHeartbeats 4000000 in
theorem room_deeds (O : Own mg) (DT : Df P w K mg base 1 "_law_take" ["_law_bag_here", "_law_many"] spTake) (DO : Df P w K mg base 2 "_law_of" ["_law_bag_here", "_law_some"] spOf) (DM : Df P w K mg base 2 "_law_mixed" ["_law_bag_here", "_law_some"] spMixed)
    (DX : Df P w K mg base 9 "_law_expr" psE (spExpr 7)) (DG : Df P w K mg base 21 "_law_steps" psSt (spSteps 3)) (hr : Room 21 (XRm P w K mg base f cdv A outer s H E).A) : ∃ t4, PSs (XRm P w K mg base f cdv A outer s H E) ((defBody sRoom).drop 4) t4 ∧
    ∀ (D : Ends) (H9 : Hp) (b an lw N C S L : Addr) (name roof : Str) (z : Ans) (lots : Int) (as : Nat) (names : List Str) (ls : List (Str × Int)) (cr : List (Str × Int × Int)) (ts : List Ts) (ss : List Sg) (z11 z12 z13 z14 z15 z16 z17 z18 z19 z20 : Option V) (M : Nat) (Q : VK),
      D.rt = Q → Bag H9 b M → M + 101000 < 2 ^ 40 → AnsAt H9 an z → AnsOk z → H9 N = some (.lst (names.map V.str)) → N ≠ b → CrL H9 C cr → TsL H9 S ts → SgL H9 L ss → LowsAt H9 lw ls → C ≠ b → S ≠ b → L ≠ b → lw ≠ b → ls.length ≤ 8 → (∀ z ∈ ls, PyData.strOk z.1 = true) → Kept4 names cr ts →
      ss.length ≤ 4 → (∀ sg ∈ ss, sg.ok names (wsOf as) (ls.map (·.1)) ∧ sg.dp ≤ 1 ∧ sg.tot ≤ 1) → as ≤ 1 → (as = 0 ↔ roof = "") →
      (∀ a r H', Kept b H9 H' → Bag H' b (M + 101000) → EightAt H' a r → Drawn name roof (ls.map (·.1)) r → Q (.ref a) H') →
      t4 D [some (.ref b), some (.str name), some (.str roof), some (.ref an), some (.ref lw), some (.int lots), some (.int as), some (.ref N), some (.ref C), some (.ref S), some (.ref L), z11, z12, z13, z14, z15, z16, z17, z18, z19, z20] H9 := by
  have hr1 := hr.mono (show 1 ≤ 21 by omega)
  have hr2 := hr.mono (show 2 ≤ 21 by omega)
  have hr9 := hr.mono (show 9 ≤ 21 by omega)
  have hs : sizeLine = 16777216 := sizeLine_eq
  have hce : ce 2 = 35 := rfl
  have cs2 : cs 2 = 100000 := rfl
  obtain ⟨t7, ht7, leaf7⟩ := room_end (f := f) (cdv := cdv) (A := A) (outer := outer) (s := s) (H := H) (E := E) O DX (hr.mono (by omega))
  obtain ⟨t6, ht6, leaf6⟩ : ∃ t6, PSs (XRm P w K mg base f cdv A outer s H E) ((defBody sRoom).drop 6) t6 ∧
    ∀ (D : Ends) (H9 : Hp) (b an lw N C S L pd : Addr) (name roof : Str) (z : Ans) (lots : Int) (as : Nat) (names : List Str) (ls : List (Str × Int)) (cr : List (Str × Int × Int)) (ts : List Ts) (ss gs : List Sg) (vs : List V) (z11 z12 z13 z14 z16 z17 z18 z19 z20 : Option V) (M : Nat) (Q : VK),
      D.rt = Q → Bag H9 b M → M + 100 < 2 ^ 40 → AnsAt H9 an z → AnsOk z → H9 N = some (.lst (names.map V.str)) → N ≠ b → CrL H9 C cr → TsL H9 S ts → SgL H9 L ss → C ≠ b → S ≠ b → L ≠ b → Kept4 names cr ts →
      ss.length ≤ 4 → (∀ sg ∈ ss, sg.ok names (wsOf as) (ls.map (·.1)) ∧ sg.dp ≤ 1 ∧ sg.tot ≤ 1) → H9 pd = some (.tup vs) → Paired (SgAt H9) vs gs → (∀ sg ∈ gs, sg.ok names (wsOf as) (ls.map (·.1)) ∧ sg.dp ≤ 3) → gs.length ≤ 5 → (gs.map Sg.tot).sum ≤ 17 → as ≤ 1 → (as = 0 ↔ roof = "") →
      (∀ a r H', Kept b H9 H' → Bag H' b (M + 100) → EightAt H' a r → Drawn name roof (ls.map (·.1)) r → Q (.ref a) H') →
      t6 D [some (.ref b), some (.str name), some (.str roof), some (.ref an), some (.ref lw), some (.int lots), some (.int as), some (.ref N), some (.ref C), some (.ref S), some (.ref L), z11, z12, z13, z14, some (.ref pd), z16, z17, z18, z19, z20] H9 := by
    refine ⟨_, pss_cons (ps_set (i := 15) scRm.nd rfl (Or.inl rfl) (pe_op op_catA (pv 15) (pe_callTy call_tuple_of rfl O.tuple (by decide +kernel) (pa_cons (pe_D DM hr2 rfl (pa_cons (pv 0) (pa_cons (pv 10) pa_nil))) pa_nil)))) ht7, ?_⟩
    intro D H9 b an lw N C S L pd name roof z lots as names ls cr ts ss gs vs z11 z12 z13 z14 z16 z17 z18 z19 z20 M Q eD hB hM hA hz hN hNb hC hS ⟨us, hL, pL⟩ hCb hSb hLb hk h4 hss hd pd_ hgs g5 g17 has hroof q
    have lu := paired_len pL
    have lv := paired_len pd_
    refine ⟨_, rfl, _, rfl, _, rfl, b, L, us, M, rfl, hB, by omega, hL, hLb, by omega, fun p ys H1 np k1 B1 hp perm => ⟨p, _, rfl, .inl ⟨SqL.of hp, fun pt nt => ?_⟩⟩⟩
    have s1 := same_new nt (.tup ys)
    have t1 := hB.tups k1
    have ly := perm.length_eq
    obtain ⟨ss', pm, pp⟩ := paired_perm perm (paired_imp (fun _ g y => SgAt.keep t1 g y) pL)
    have go : ∀ (pd' : Addr) (H2 : Hp), Same (upd H1 pt (.tup ys)) H2 → H2 pd' = some (.tup (vs ++ ys)) → t7 D [some (.ref b), some (.str name), some (.str roof), some (.ref an), some (.ref lw), some (.int lots), some (.int as), some (.ref N), some (.ref C), some (.ref S), some (.ref L), z11, z12, z13, z14, some (.ref pd'), z16, z17, z18, z19, z20] H2 := by
      intro pd' H2 s2 h2
      have sA := s1.trans s2
      have k2 : Kept b H9 H2 := k1.trans (.of sA)
      have t2 : Tups H9 H2 := hB.tups k2
      refine leaf7 D H2 b an lw N C S pd' name roof z lots as names (ls.map (·.1)) cr ts (vs ++ ys) (gs ++ ss') _ _ _ _ _ _ _ _ _ _ (M + us.length) Q eD (B1.keep sA) (by omega) (hA.keep t2) hz (k2 _ _ hNb hN) hNb ?_ ?_ hCb hSb h2 (paired_app (paired_imp (fun _ _ y => SgAt.keep t2 _ y) pd_) (paired_imp (fun _ _ y => SgAt.keep (Same.tups sA) _ y) pp)) hk (right_app hgs (fun sg hg => hss sg (pm.mem_iff.mp hg)) g5 (by rw [pm.length_eq]; exact h4) g17) has hroof
        (fun a r H' k3 B3 => q a r H' (k2.trans k3) (B3.more (by omega)))
      · obtain ⟨as1, h1, h2⟩ := hC
        exact ⟨as1, k2 _ _ hCb h1, paired_imp (fun _ _ y => t2 _ _ y) h2⟩
      · obtain ⟨as1, h1, h2⟩ := hS
        exact ⟨as1, k2 _ _ hSb h1, paired_imp (fun _ _ y => y.keep t2) h2⟩
    have hd1 := s1 _ _ (t1 _ _ hd)
    refine ⟨pd, pt, vs, ys, rfl, rfl, SqT.of hd1, SqT.of upd_same, by omega, fun e => ?_, fun _ e => ?_, fun _ _ p2 n2 => ?_⟩
    · subst e
      exact go pt _ same_refl upd_same
    · subst e
      rw [List.append_nil] at go
      exact go pd _ same_refl hd1
    · exact go p2 _ (same_new n2 _) upd_same
  refine ⟨_, pss_cons (ps_set (i := 15) scRm.nd rfl (Or.inl rfl) (pe_D DG hr rfl (pa_cons (pv 0) (pa_cons (pv 7) (pa_cons (pv 6) (pa_cons (pe_lc (own := [("_law_one", 20)]) (g := gName 20) (tt := tYes) rfl scRm.nd (pi_list (pv 4)) (blkOk_by (N := nmRm) (sc := defScope sRoom) (by decide +kernel))
        (fun _ _ _ _ _ => pg_name (i := 20) scRm.nd rfl (Or.inl rfl)) (fun _ _ _ _ _ => pts_nil) (fun _ _ _ _ _ => pe_ix (show IxR _ (rIxT K) from ix_tup) (pv 20) pe_int (fun _ _ => rfl))) (pa_cons pe_int pa_nil)))))))
    (pss_cons (ps_if (PW.pt (pw_and (pt_cmpR (op_neD hr.units) (pv 4) (pe_lst pa_nil) (nomark _)) (pw_and1 (pt_cmpR op_gt (pe_D DT hr1 rfl (pa_cons (pv 0) (pa_cons pe_int pa_nil))) pe_int (nomark _)))))
      (pss_cons (ps_par (i := 16) (j := 17) (by rfl) scRm.nd rfl rfl (by decide) rfl rfl (pa_cons (pe_ix ix_tup (pe_D DO hr2 rfl (pa_cons (pv 0) (pa_cons (pv 4) pa_nil))) pe_int (fun _ _ => rfl)) (pa_cons (pe_D DX hr9 rfl (pa_cons (pv 0) (pa_cons (pv 7) (pa_cons (pv 6) (pa_cons pe_int pa_nil))))) pa_nil)) (by rfl))
      (pss_one (ps_set (i := 15) scRm.nd rfl (Or.inl rfl) (pe_op op_catA (pe_tup (pa_cons (pe_tup (pa_cons pe_str (pa_cons (pe_ix ix_list (pv 7) pe_int (fun _ _ => rfl)) (pa_cons (pv 16) (pa_cons (pv 17) pa_nil))))) pa_nil)) (pv 15))))) pss_nil) ht6), ?_⟩
  intro D H9 b an lw N C S L name roof z lots as names ls cr ts ss z11 z12 z13 z14 z15 z16 z17 z18 z19 z20 M Q eD hB hM hA hz hN hNb hC hS hL ⟨ws, hw, pw⟩ hCb hSb hLb hwb hls hstr hk h4 hss has hroof q
  have lw8 := paired_len pw
  have nm4 := hk.len
  have nm1 := hk.some
  refine ⟨_, rfl, _, rfl, _, rfl, _, rfl, lw, rfl, ⟨_, SqL.of hw⟩, fun F nF => ?_⟩
  refine turns_list (K := K) (a := lw) (xs := ws.map V.ref) (ls.map fun z => some (V.str z.1)) nF (fun Hc sm => SqL.of (sm _ _ hw)) (by rw [List.length_map, List.length_map]; exact lw8.symm) (by rw [List.length_map]; omega) ?_ ?_
  · intro i v o Hc Y N_ hv ho sm hY hN_
    obtain ⟨e, he, rfl⟩ := refs_at hv
    obtain ⟨zz, hzz, hat⟩ := paired_get pw he
    rw [List.getElem?_map, hzz] at ho
    exact ⟨rfl, _, rfl, e, _, _, _, rfl, rfl, SqT.of (sm _ _ hat), atI_nat (j := 0) rfl, hY _ (Option.some.inj ho).symm Hc same_refl⟩
  intro H1 hF s1
  rw [fm_some (fun z : Str × Int => V.str z.1)] at hF
  have hF : H1 F = some (.lst ((ls.map (·.1)).map V.str)) := by rw [hF, List.map_map]; rfl
  have bF : F ≠ b := hB.ne nF
  refine ⟨b, N, F, 2, M, as, names, ls.map (·.1), rfl, has, by decide, by decide, hB.keep s1, by omega, s1 _ _ hN, hNb, nm1, by omega, hF, bF, by rw [List.length_map]; exact hls, fun x hx => ?_, fun pd bd H2 k2 B2 hbd ok => ?_⟩
  · obtain ⟨zz, h1, h2⟩ := List.mem_map.mp hx
    rw [← h2]
    exact hstr zz h1
  rw [cs2] at B2
  have k2' : Kept b H9 H2 := (Kept.of s1).trans k2
  have t2 : Tups H9 H2 := hB.tups k2'
  obtain ⟨vs, hd, pd0⟩ := hbd
  have pd_ := pd0.paired
  have tl := toL_len bd
  have o2 := ok.len
  have o4 := ok.tot
  rw [Bd.tot_eq] at o4
  have o4 : (bd.toL.map Sg.tot).sum ≤ 16 := o4
  have o2 : bd.len ≤ 4 := o2
  have hgs : ∀ sg ∈ bd.toL, sg.ok names (wsOf as) (ls.map (·.1)) ∧ sg.dp ≤ 3 := fun sg hg => ⟨Bd.ok_mem ok.ok hg, Nat.le_trans (Bd.dp_mem hg) ok.dp⟩
  have hw2 := k2' _ _ hwb hw
  have hC2 : CrL H2 C cr := by
    obtain ⟨as1, h1, h2⟩ := hC
    exact ⟨as1, k2' _ _ hCb h1, paired_imp (fun _ _ y => t2 _ _ y) h2⟩
  have hS2 : TsL H2 S ts := by
    obtain ⟨as1, h1, h2⟩ := hS
    exact ⟨as1, k2' _ _ hSb h1, paired_imp (fun _ _ y => y.keep t2) h2⟩
  have hL2 : SgL H2 L ss := by
    obtain ⟨as1, h1, h2⟩ := hL
    exact ⟨as1, k2' _ _ hLb h1, paired_imp (fun _ _ y => SgAt.keep t2 _ y) h2⟩
  have go : ∀ (D_ : Ends) (H3 : Hp) (pd' : Addr) (vs' : List V) (gs : List Sg) (M' : Nat) (z16 z17 : Option V), D_.rt = Q → Kept b H2 H3 → Bag H3 b M' → M' ≤ M + 100000 + 40 → H3 pd' = some (.tup vs') → Paired (SgAt H3) vs' gs → (∀ sg ∈ gs, sg.ok names (wsOf as) (ls.map (·.1)) ∧ sg.dp ≤ 3) → gs.length ≤ 5 → (gs.map Sg.tot).sum ≤ 17 →
      t6 D_ [some (.ref b), some (.str name), some (.str roof), some (.ref an), some (.ref lw), some (.int lots), some (.int as), some (.ref N), some (.ref C), some (.ref S), some (.ref L), z11, z12, z13, z14, some (.ref pd'), z16, z17, z18, z19, z20] H3 := by
    intro D_ H3 pd' vs' gs M' z16 z17 e1 k3 B3 hM' h1 h2 h3 h5 h6
    have t3 : Tups H2 H3 := B2.tups k3
    refine leaf6 D_ H3 b an lw N C S L pd' name roof z lots as names ls cr ts ss gs vs' _ _ _ _ _ _ _ _ _ M' Q e1 B3 (by omega) ((hA.keep t2).keep t3) hz (k3 _ _ hNb (k2' _ _ hNb hN)) hNb ?_ ?_ ?_ hCb hSb hLb hk h4 hss h1 h2 h3 h5 h6 has hroof (fun a r H' k4 B4 => q a r H' (k2'.trans (k3.trans k4)) (B4.more (by omega)))
    · obtain ⟨as1, h1, h2⟩ := hC2
      exact ⟨as1, k3 _ _ hCb h1, paired_imp (fun _ _ y => t3 _ _ y) h2⟩
    · obtain ⟨as1, h1, h2⟩ := hS2
      exact ⟨as1, k3 _ _ hSb h1, paired_imp (fun _ _ y => y.keep t3) h2⟩
    · obtain ⟨as1, h1, h2⟩ := hL2
      exact ⟨as1, k3 _ _ hLb h1, paired_imp (fun _ _ y => SgAt.keep t3 _ y) h2⟩
  refine ⟨_, rfl, (by show 0 ≤ sizeLine; omega), fun pn nn => ?_⟩
  have sn := same_new nn (.lst [])
  refine ⟨.list (lowD ls), .list [], .lst (SqL.of (sn _ _ hw2)) (low_dp (paired_imp (fun _ _ y => sn _ _ (t2 _ _ y)) pw)), .lst (SqL.of upd_same) .nil, shaped_low hstr, rfl, _, rfl, ?_⟩
  rw [eqv_low]
  have B3 := B2.keep sn
  have stay : ∀ (D_ : Ends) (H3 : Hp) (M' : Nat) (z16 z17 : Option V), D_.rt = Q → Kept b H2 H3 → Bag H3 b M' → M' ≤ M + 100000 + 40 → t6 D_ [some (.ref b), some (.str name), some (.str roof), some (.ref an), some (.ref lw), some (.int lots), some (.int as), some (.ref N), some (.ref C), some (.ref S), some (.ref L), z11, z12, z13, z14, some (.ref pd), z16, z17, z18, z19, z20] H3 :=
    fun D_ H3 M' z16 z17 e1 k3 B4 hM' => go D_ H3 pd vs bd.toL M' z16 z17 e1 k3 B4 hM' (B2.tups k3 _ _ hd) (paired_imp (fun _ _ y => SgAt.keep (B2.tups k3) _ y) pd_) hgs (by omega) (by omega)
  refine itN (fun c1 => ?_) (fun c1 => itF rfl (stay _ _ _ _ _ eD (.of sn) B3 (by omega)))
  refine ⟨_, rfl, b, 3, M + 100000, rfl, B3, by omega, by decide, by decide, fun d3 H4 k4 B4 d30 d31 => ⟨_, _, rfl, rfl, _, rfl, itD (fun c2 => ?_) (fun c2 => stay _ _ _ _ _ eD ((Kept.of sn).trans k4) B4 (by omega))⟩⟩
  have ls1 : 1 ≤ ls.length := by
    cases ls with
    | nil => exact absurd rfl c1
    | cons x r => exact Nat.le_add_left 1 _
  have k4' : Kept b H2 H4 := (Kept.of sn).trans k4
  have k4'' := k2'.trans k4'
  have t4 : Tups H2 H4 := B2.tups k4'
  refine ⟨_, rfl, _, rfl, b, lw, ws.map V.ref, M + 100000 + 1, rfl, B4, by omega, k4'' _ _ hwb hw, hwb, by rw [List.length_map]; omega, by rw [List.length_map]; omega, fun vr H5 k5 B5 hvr => ?_⟩
  obtain ⟨e, he, rfl⟩ := List.mem_map.mp hvr
  obtain ⟨i, hi⟩ := List.getElem?_of_mem he
  obtain ⟨zz, hzz, hat⟩ := paired_get pw hi
  have k5' := k4''.trans k5
  have t5 : Tups H9 H5 := hB.tups k5'
  refine ⟨e, _, _, _, rfl, rfl, SqT.of (t5 _ _ hat), atI_nat (j := 0) rfl, ?_⟩
  refine ⟨_, rfl, _, rfl, _, rfl, b, N, 2, M + 100000 + 1 + 1, names, as, rfl, has, by decide, B5, by omega, k5' _ _ hNb hN, hNb, by omega, fun ve ex0 H6 k6 B6 a1 a2 a3 => ⟨_, _, rfl, ?_⟩⟩
  rw [hce] at B6
  have a2 : ex0.deep ≤ 2 := a2
  have k6' := k5'.trans k6
  have hn0 : ∃ n0, (names.map V.str)[0]? = some (.str n0) ∧ n0 ∈ names := by
    cases names with
    | nil => simp at nm1
    | cons x r => exact ⟨x, rfl, List.mem_cons_self ..⟩
  obtain ⟨n0, en0, in0⟩ := hn0
  refine ⟨_, rfl, N, _, _, _, rfl, rfl, SqL.of (k6' _ _ hNb hN), atI_nat (j := 0) en0, _, rfl, _, rfl, (by show 4 ≤ sizeLine; omega), fun p1 m1 => ⟨(by show 1 ≤ sizeLine; omega), fun p2 m2 => ?_⟩⟩
  have u1 := same_new m1 (.tup [.str "call", .str n0, .str zz.1, ve])
  have u2 := same_new m2 (.tup [.ref p1])
  have u12 := u1.trans u2
  have kd : Kept b H2 _ := k4'.trans (k5.trans (k6.trans (.of u12)))
  have td : Tups H2 _ := B2.tups kd
  have hcall : SgAt (upd (upd H6 p1 (.tup [.str "call", .str n0, .str zz.1, ve])) p2 (.tup [.ref p1])) (.ref p1) (.call n0 zz.1 ex0) := by
    unfold SgAt
    exact ⟨p1, ve, rfl, u2 p1 _ upd_same, a1.keep (Same.tups u12)⟩
  have okc : ∀ sg ∈ Sg.call n0 zz.1 ex0 :: bd.toL, sg.ok names (wsOf as) (ls.map (·.1)) ∧ sg.dp ≤ 3 := fun sg hg => by
    rcases List.mem_cons.mp hg with eg | hg
    · rw [eg]
      unfold Sg.ok Sg.dp
      exact ⟨⟨in0, List.mem_map.mpr ⟨zz, List.mem_of_getElem? hzz, rfl⟩, Ex.right_of a3 (by omega)⟩, by decide⟩
    · exact hgs sg hg
  have totc : ((Sg.call n0 zz.1 ex0 :: bd.toL).map Sg.tot).sum ≤ 17 := by
    rw [List.map_cons, List.sum_cons]
    unfold Sg.tot
    omega
  have fin : ∀ (D_ : Ends) (pd' : Addr) (H7 : Hp) (z16 z17 : Option V), D_.rt = Q → Same (upd (upd H6 p1 (.tup [.str "call", .str n0, .str zz.1, ve])) p2 (.tup [.ref p1])) H7 → H7 pd' = some (.tup ([.ref p1] ++ vs)) →
      t6 D_ [some (.ref b), some (.str name), some (.str roof), some (.ref an), some (.ref lw), some (.int lots), some (.int as), some (.ref N), some (.ref C), some (.ref S), some (.ref L), z11, z12, z13, z14, some (.ref pd'), z16, z17, z18, z19, z20] H7 := by
    intro D_ pd' H7 z16 z17 e1 s7 h7
    refine go D_ H7 pd' ([.ref p1] ++ vs) (.call n0 zz.1 ex0 :: bd.toL) _ z16 z17 e1 (kd.trans (.of s7)) ((B6.keep u12).keep s7) (by omega) h7 (.cons (SgAt.keep (Same.tups s7) _ hcall) (paired_imp (fun _ _ y => SgAt.keep (Same.tups s7) _ (SgAt.keep td _ y)) pd_)) okc (by rw [List.length_cons]; omega) totc
  have hd7 := td _ _ hd
  have lv := paired_len pd_
  refine ⟨_, rfl, p2, pd, [.ref p1], vs, rfl, rfl, SqT.of upd_same, SqT.of hd7, by show 1 + vs.length ≤ sizeLine; omega, (fun e => (nomatch e)), fun _ e => ?_, fun _ _ p3 n3 => ?_⟩
  · subst e
    exact fin _ p2 _ _ _ eD same_refl upd_same
  · exact fin _ p3 _ _ _ eD (same_new n3 _) upd_same
end
end Any
set_option pp.maxSteps 600
namespace Any
open L2 PySem PySem.Spec PyProof.Rows LamX NdefX
/-! ### _law_room -/
def spRoom : Sp := fun vs H Q _ => ∃ (b an lw : Addr) (name roof : Str) (z : Ans) (ls : List (Str × Int)) (lots m : Nat), vs = [.ref b, .str name, .str roof, .ref an, .ref lw, .int lots] ∧ Bag H b m ∧ m + 102000 < 2 ^ 40 ∧ AnsAt H an z ∧ AnsOk z ∧ LowsAt H lw ls ∧ lw ≠ b ∧ ls.length ≤ 8 ∧ (∀ z ∈ ls, PyData.strOk z.1 = true) ∧ 1 ≤ lots ∧ lots ≤ 4 ∧
  ∀ (a : Addr) (r : Rm) (H' : Hp), Kept b H H' → Bag H' b (m + 102000) → EightAt H' a r → Drawn name roof (ls.map (·.1)) r → Q (.ref a) H'
theorem asks_of (roof : Str) : ∃ as : Nat, (if (!decide (V.str roof = V.str "")) = true then (1 : Int) else 0) = ((as : Nat) : Int) ∧ as ≤ 1 ∧ (as = 0 ↔ roof = "") := by
  by_cases h : roof = ""
  · refine ⟨0, ?_, by decide, by simp [h]⟩
    rw [h, eq_str]
    rfl
  · refine ⟨1, ?_, by decide, by simp [h]⟩
    rw [ne_str h]
    rfl
theorem LowsAt.keep {H H' : Hp} {b l : Addr} {ls : List (Str × Int)} (k : Kept b H H') (t : Tups H H') (n : l ≠ b) (h : LowsAt H l ls) : LowsAt H' l ls := by
  obtain ⟨as, h1, h2⟩ := h
  exact ⟨as, k _ _ n h1, paired_imp (fun _ _ y => t _ _ y) h2⟩
theorem CrL.kept {H H' : Hp} {b l : Addr} {cr : List (Str × Int × Int)} (k : Kept b H H') (t : Tups H H') (n : l ≠ b) (h : CrL H l cr) : CrL H' l cr := by
  obtain ⟨as, h1, h2⟩ := h
  exact ⟨as, k _ _ n h1, paired_imp (fun _ _ y => t _ _ y) h2⟩
theorem TsL.kept {H H' : Hp} {b l : Addr} {ts : List Ts} (k : Kept b H H') (t : Tups H H') (n : l ≠ b) (h : TsL H l ts) : TsL H' l ts := by
  obtain ⟨as, h1, h2⟩ := h
  exact ⟨as, k _ _ n h1, paired_imp (fun _ _ y => y.keep t) h2⟩
theorem SgL.kept {H H' : Hp} {b l : Addr} {ss : List Sg} (k : Kept b H H') (t : Tups H H') (n : l ≠ b) (h : SgL H l ss) : SgL H' l ss := by
  obtain ⟨as, h1, h2⟩ := h
  exact ⟨as, k _ _ n h1, paired_imp (fun _ _ y => SgAt.keep t _ y) h2⟩
/-- what the loop over the boxes keeps -/
structure Half (names done left : List Str) (as : Nat) (rs : List Str) (cr : List (Str × Int × Int)) (ts : List Ts) (ss : List Sg) : Prop where
  all : done ++ left = names
  nm : cr.map (·.1) = done
  crate : ∀ c ∈ cr, (1 ≤ c.2.1 ∧ c.2.1 ≤ 40) ∧ (0 ≤ c.2.2 ∧ c.2.2 ≤ c.2.1 - 1)
  tl : ts.length ≤ cr.length
  tr : ∀ t ∈ ts, t.right names []
  tv : ∀ t ∈ ts, ∀ kvs : List (Str × Int), (∀ c ∈ cr, look kvs c.1 = some c.2.2) → t.val kvs 0 0 = true
  sl : ss.length ≤ cr.length
  so : ∀ s ∈ ss, s.ok names (wsOf as) rs ∧ s.dp ≤ 1 ∧ s.tot ≤ 1
theorem Half.more {names done left : List Str} {as : Nat} {rs : List Str} {cr cr' : List (Str × Int × Int)} {ts ts' : List Ts} {ss ss' : List Sg} (h : Half names done left as rs cr ts ss) (g : GrpOk left as rs cr' ts' ss') :
    Half names (done ++ left.take cr'.length) (left.drop cr'.length) as rs (cr ++ cr') (ts ++ ts') (ss ++ ss') := by
  have sub : ∀ x ∈ left, x ∈ names := fun x hx => by
    rw [← h.all]
    exact List.mem_append.mpr (.inr hx)
  have g1 := g.one
  have g2 := g.tl
  have g3 := g.sl
  have h1 := h.tl
  have h2 := h.sl
  refine ⟨by rw [List.append_assoc, List.take_append_drop]; exact h.all, by rw [List.map_append, h.nm, g.nm], fun c hc => ?_, by rw [List.length_append, List.length_append]; omega, fun t ht => ?_, fun t ht kvs hk => ?_, by rw [List.length_append, List.length_append]; omega, fun s hs => ?_⟩
  · rcases List.mem_append.mp hc with hc | hc
    · exact h.crate c hc
    · exact g.crate c hc
  · rcases List.mem_append.mp ht with ht | ht
    · exact h.tr t ht
    · exact g.tr t ht names sub
  · rcases List.mem_append.mp ht with ht | ht
    · exact h.tv t ht kvs fun c hc => hk c (List.mem_append.mpr (.inl hc))
    · exact g.tv t ht kvs fun c hc => hk c (List.mem_append.mpr (.inr hc))
  · rcases List.mem_append.mp hs with hs | hs
    · exact h.so s hs
    · exact ⟨(g.so s hs).1 names sub, (g.so s hs).2⟩
section
variable {P : Program} {w : World} {K : PySem.W.Frag} {mg : Str → Option Value} {base : Heap} {f : Addr} {fd : FuncData}
set_option maxHeartbeats 8000000 in
theorem ok_room (O : Own mg) (msrt : mg "sorted" = none) (F : Fun K "_law_room" "_law_room" sRoom f fd) (DT : Df P w K mg base 1 "_law_take" ["_law_bag_here", "_law_many"] spTake) (DO : Df P w K mg base 2 "_law_of" ["_law_bag_here", "_law_some"] spOf) (DM : Df P w K mg base 2 "_law_mixed" ["_law_bag_here", "_law_some"] spMixed)
    (DX : Df P w K mg base 9 "_law_expr" psE (spExpr 7)) (DG : Df P w K mg base 21 "_law_steps" psSt (spSteps 3)) (DGr : Df P w K mg base 10 "_law_group" psGr spGroup) : FnOk P w K mg base CX0 22 f fd psRm spRoom := by
  refine F.ok scRm (fun vs H Q E h => ?_) (fun cdv A outer s H vs Q E hr h => ?_)
  · obtain ⟨b, an, lw, name, roof, z, ls, lots, m, rfl, _⟩ := h
    rfl
  obtain ⟨b, an, lw, name, roof, z, ls, lots, m, rfl, hB, hm, hA, hz, hW, hwb, hls, hstr, hl1, hl4, q⟩ := h
  have hr1 := hr.mono (show 1 ≤ 21 by omega)
  have hr2 := hr.mono (show 2 ≤ 21 by omega)
  have hr10 := hr.mono (show 10 ≤ 21 by omega)
  have hs : sizeLine = 16777216 := sizeLine_eq
  obtain ⟨t4, ht4, leaf4⟩ := room_deeds (f := f) (cdv := cdv) (A := A) (outer := outer) (s := s) (H := H) (E := E) O DT DO DM DX DG hr
  refine ⟨_, pss_cons (ps_set (i := 6) scRm.nd rfl (Or.inl rfl) (pe_callTy call_int1 rfl O.int (by decide +kernel) (pa_cons (pe_cmpR op_ne (pv 2) pe_str (nomark _)) pa_nil)))
    (pss_cons (ps_set (i := 7) scRm.nd rfl (Or.inl rfl) (pe_callB cr_sortedS rfl msrt (by decide +kernel) (pa_cons (pe_slice sl_list (pe_D DM hr2 rfl (pa_cons (pv 0) (pa_cons (pe_lst (pa_cons pe_str (pa_cons pe_str (pa_cons pe_str (pa_cons pe_str (pa_cons pe_str (pa_cons pe_str (pa_cons pe_str pa_nil)))))))) pa_nil))) po_none
        (po_some (pe_op op_add pe_int (pe_D DT hr1 rfl (pa_cons (pv 0) (pa_cons (pv 5) pa_nil)))))) pa_nil)))
    (pss_cons (ps_asg (pe_tup (pa_cons (pe_lst pa_nil) (pa_cons (pe_lst pa_nil) (pa_cons (pe_lst pa_nil) (pa_cons (pv 7) pa_nil))))) (pg_tup rfl (pgs_cons (pg_name (i := 8) scRm.nd rfl (Or.inl rfl)) (pgs_cons (pg_name (i := 9) scRm.nd rfl (Or.inl rfl)) (pgs_cons (pg_name (i := 10) scRm.nd rfl (Or.inl rfl)) (pgs_cons (pg_name (i := 11) scRm.nd rfl (Or.inl rfl)) pgs_nil))))))
    (pss_cons (ps_while PassesOwn.never (pt_cmpR (op_neD hr.units) (pv 11) (pe_lst pa_nil) (nomark _))
      (pss_cons (ps_asg (pe_D DGr hr10 rfl (pa_cons (pv 0) (pa_cons (pv 11) (pa_cons (pv 6) (pa_cons (pv 4) (pa_cons (pv 5) pa_nil)))))) (pg_tup rfl (pgs_cons (pg_name (i := 12) scRm.nd rfl (Or.inl rfl)) (pgs_cons (pg_name (i := 13) scRm.nd rfl (Or.inl rfl)) (pgs_cons (pg_name (i := 14) scRm.nd rfl (Or.inl rfl)) pgs_nil)))))
      (pss_cons (ps_par (i := 8) (j := 9) (by rfl) scRm.nd rfl rfl (by decide) rfl rfl (pa_cons (pe_op op_cat (pv 8) (pv 12)) (pa_cons (pe_op op_cat (pv 9) (pv 13)) pa_nil)) (by rfl))
      (pss_one (ps_par (i := 10) (j := 11) (by rfl) scRm.nd rfl rfl (by decide) rfl rfl (pa_cons (pe_op op_cat (pv 10) (pv 14)) (pa_cons (pe_slice sl_list (pv 11) (po_some (pe_callB call_len_seq rfl O.len PySem.boot_len (pa_cons (pv 12) pa_nil))) po_none) pa_nil)) (by rfl)))))) ht4))), ?_⟩
  obtain ⟨as, eas, has, hroof⟩ := asks_of roof
  refine ⟨_, rfl, rfl, .inr ⟨_, rfl, ?_⟩⟩
  rw [eas]
  refine ⟨_, rfl, (by show 7 ≤ sizeLine; omega), fun p1 n1 => ?_⟩
  have s1 := same_new n1 (.lst (seven.map V.str))
  refine ⟨b, p1, seven.map V.str, m, rfl, hB.keep s1, (by show m + 7 < _; omega), upd_same, hB.ne n1, by decide, fun p ys H2 np k2 B2 hp perm => ?_⟩
  have k2 : Kept b H H2 := (Kept.of s1).trans k2
  have B2 : Bag H2 b (m + 7) := B2
  refine ⟨_, rfl, _, rfl, b, lots, m + 7, rfl, B2, by omega, by omega, by omega, fun d H3 k3 B3 d0 d1 => ⟨_, _, rfl, rfl, _, rfl, ?_⟩⟩
  have bp : p ≠ b := (hB.keep s1).ne np
  obtain ⟨zs, ezs, pzs⟩ := strs_perm perm
  obtain ⟨dn, rfl⟩ : ∃ dn : Nat, d = dn := ⟨d.toNat, by omega⟩
  have ecut : cutV ys none (some (1 + (dn : Int))) = (zs.take (1 + dn)).map V.str := by
    rw [show (1 + (dn : Int)) = ((1 + dn : Nat) : Int) by omega, cut_any, ezs, List.map_take]
  refine ⟨p, ys, rfl, SqL.of (k3 _ _ bp hp), fun p4 n4 => ?_⟩
  have z7 : zs.length = 7 := by rw [pzs.length_eq]; rfl
  refine ⟨p4, zs.take (1 + dn), rfl, SqL.of (by rw [upd_same]; exact congrArg (fun x => some (HO.lst x)) ecut), by rw [List.length_take]; omega, fun names N perm2 srt nN => ?_⟩
  have nd0 : zs.Nodup := pzs.nodup_iff.mpr seven_nd
  have nd1 : (zs.take (1 + dn)).Nodup := nd0.sublist (List.take_sublist ..)
  have nd : names.Nodup := perm2.nodup_iff.mpr nd1
  have sv : ∀ x ∈ names, x ∈ seven := fun x hx => pzs.mem_iff.mp (List.mem_of_mem_take (perm2.mem_iff.mp hx))
  have nl : names.length = min (1 + dn) 7 := by rw [perm2.length_eq, List.length_take, z7]
  have s4 := same_new n4 (.lst (cutV ys none (some (1 + (dn : Int)))))
  have sN := same_new nN (.lst (names.map V.str))
  have k4 : Kept b H _ := k2.trans (k3.trans (.of (s4.trans sN)))
  have B4 := B3.keep (s4.trans sN)
  have eN := @upd_same (upd H3 p4 (.lst (cutV ys none (some (1 + (dn : Int)))))) N (.lst (names.map V.str))
  have bN : N ≠ b := (B3.keep s4).ne nN
  clear s4 sN
  generalize upd (upd H3 p4 (.lst (cutV ys none (some (1 + (dn : Int)))))) N (.lst (names.map V.str)) = H4 at *
  refine ⟨(by show 0 ≤ sizeLine; omega), fun C nC => ⟨(by show 0 ≤ sizeLine; omega), fun S nS => ⟨(by show 0 ≤ sizeLine; omega), fun L nL => ⟨_, rfl, (by show 4 ≤ sizeLine; omega), fun pt nt => ⟨pt, _, rfl, SqT.of upd_same, rfl, _, _, rfl, _, _, rfl, _, _, rfl, _, _, rfl, rfl, ?_⟩⟩⟩⟩⟩
  have sC := same_new nC (.lst [])
  have sS := same_new nS (.lst [])
  have sL := same_new nL (.lst [])
  have st := same_new nt (.tup [.ref C, .ref S, .ref L, .ref N])
  have sLt := sL.trans st
  have sSt := sS.trans sLt
  have sCt := sC.trans sSt
  have eC := sSt C _ upd_same
  have eS := sLt S _ upd_same
  have eL := st L _ upd_same
  have bC : C ≠ b := B4.ne nC
  have bS : S ≠ b := (B4.keep sC).ne nS
  have bL : L ≠ b := (B4.keep (sC.trans sS)).ne nL
  have k5 : Kept b H _ := k4.trans (.of sCt)
  have B5 := B4.keep sCt
  have eN5 := sCt _ _ eN
  clear sC sS sL st sLt sSt sCt
  generalize upd (upd (upd (upd H4 C (.lst [])) S (.lst [])) L (.lst [])) pt (.tup [.ref C, .ref S, .ref L, .ref N]) = H5 at *
  let W : Nat → L2.St → Hp → Prop := fun n σ Hc => ∃ (C S L F' : Addr) (cr : List (Str × Int × Int)) (ts : List Ts) (ss : List Sg) (done left : List Str) (z12 z13 z14 z15 z16 z17 z18 z19 z20 : Option V),
    σ = [some (.ref b), some (.str name), some (.str roof), some (.ref an), some (.ref lw), some (.int lots), some (.int as), some (.ref N), some (.ref C), some (.ref S), some (.ref L), some (.ref F'), z12, z13, z14, z15, z16, z17, z18, z19, z20] ∧ left.length = n ∧
    CrL Hc C cr ∧ TsL Hc S ts ∧ SgL Hc L ss ∧ Hc F' = some (.lst (left.map V.str)) ∧ C ≠ b ∧ S ≠ b ∧ L ≠ b ∧ F' ≠ b ∧ Half names done left as (ls.map (·.1)) cr ts ss ∧ Bag Hc b (m + 8 + 200 * done.length) ∧ Kept b H5 Hc
  refine ⟨W, ⟨_, C, S, L, N, [], [], [], [], names, none, none, none, none, none, none, none, none, none, rfl, rfl, ⟨[], eC, .nil⟩, ⟨[], eS, .nil⟩, ⟨[], eL, .nil⟩, eN5, bC, bS, bL, bN, ⟨rfl, rfl, (fun c hc => by cases hc), Nat.le_refl _, (fun t ht => by cases ht), (fun t ht => by cases ht), Nat.le_refl _, (fun t ht => by cases ht)⟩, B5.more (by omega), .refl⟩, ?_⟩
  rintro n σ Hc ⟨C, S, L, F', cr, ts, ss, done, left, z12, z13, z14, z15, z16, z17, z18, z19, z20, rfl, hn, hC, hS, hL, hF, bC, bS, bL, bF, half, Bc, kc⟩
  have len := congrArg List.length half.all
  rw [List.length_append] at len
  have sub : ∀ x ∈ left, x ∈ names := fun x hx => by
    rw [← half.all]
    exact List.mem_append.mpr (.inr hx)
  have kc' := k5.trans kc
  have tH : Tups H Hc := hB.tups kc'
  refine ⟨_, rfl, (by show 0 ≤ sizeLine; omega), fun pn nn => ?_⟩
  have sn := same_new nn (.lst [])
  refine ⟨.list (left.map PyData.str), .list [], .lst (SqL.of (sn _ _ hF)) (strs_data left), .lst (SqL.of upd_same) .nil, shaped_lst (fun x hx => nm_ok (seven_nm x (sv x (sub x hx)))), rfl, _, rfl, ?_⟩
  rw [eqv_nil]
  have B6 := Bc.keep sn
  have k6 := kc'.trans (.of sn)
  have t6 : Tups Hc _ := Same.tups sn
  have hC6 := hC.keep sn
  have hS6 := hS.keep sn
  have hL6 := hL.keep sn
  have hF6 := sn _ _ hF
  have kk6 := kc.trans (.of sn)
  clear sn
  generalize upd Hc pn (.lst []) = H6 at *
  refine itN (fun c1 => ?_) (fun c1 => ?_)
  · refine ⟨fun σ' H' => ∃ n', n' < n ∧ W n' σ' H', fun σ' H' h => h, ?_⟩
    have l1 : 1 ≤ left.length := by
      cases left with
      | nil => exact absurd rfl c1
      | cons x r => exact Nat.le_add_left 1 _
    have hA6 : Tups H H6 := hB.tups k6
    refine ⟨_, rfl, _, rfl, _, rfl, _, rfl, _, rfl, b, F', lw, m + 8 + 200 * done.length, as, lots, left, ls, rfl, has, B6, by omega, hF6, bF, l1, by omega, hW.keep k6 hA6 hwb, hwb, hls, hstr, fun p C' S' L' cr' ts' ss' H7 k7 B7 hp hC' hS' hL' ok => ⟨p, _, rfl, SqT.of hp, rfl, _, _, rfl, _, _, rfl, _, _, rfl, rfl, ?_⟩⟩
    have t7 : Tups H6 H7 := B6.tups k7
    obtain ⟨xs1, c1', c2'⟩ := hC6.kept k7 t7 bC
    obtain ⟨xs2, d1', d2'⟩ := hS6.kept k7 t7 bS
    obtain ⟨xs3, e1', e2'⟩ := hL6.kept k7 t7 bL
    obtain ⟨us1, f1', f2'⟩ := hC'
    obtain ⟨us2, g1', g2'⟩ := hS'
    obtain ⟨us3, h1', h2'⟩ := hL'
    have a1 := paired_len c2'
    have a2 := paired_len d2'
    have a3 := paired_len e2'
    have a4 := paired_len f2'
    have a5 := paired_len g2'
    have a6 := paired_len h2'
    have hm := half.more ok
    have x1 := half.tl
    have x2 := half.sl
    have x3 : cr.length = done.length := by rw [← half.nm, List.length_map]
    have x4 : cr'.length ≤ left.length := by
      have := congrArg List.length ok.nm
      rw [List.length_map, List.length_take] at this
      omega
    have x5 := ok.one
    have x6 := ok.tl
    have x7 := ok.sl
    refine ⟨_, rfl, _, rfl, C, C', _, _, rfl, rfl, c1', f1', by rw [List.length_map, List.length_map]; omega, fun p3 n3 => ?_⟩
    have s3 := same_new n3 (.lst (xs1.map V.ref ++ us1.map V.ref))
    refine ⟨_, rfl, _, rfl, S, S', _, _, rfl, rfl, s3 _ _ d1', s3 _ _ g1', by omega, fun p4 n4 => ⟨_, _, rfl, ?_⟩⟩
    have s4 := same_new n4 (.lst (xs2 ++ us2))
    have s34 := s3.trans s4
    refine ⟨_, rfl, _, rfl, L, L', _, _, rfl, rfl, s34 _ _ e1', s34 _ _ h1', by omega, fun p5 n5 => ?_⟩
    have s5 := same_new n5 (.lst (xs3 ++ us3))
    have s35 := s34.trans s5
    refine ⟨_, rfl, _, rfl, C', _, rfl, .inl (SqL.of (s35 _ _ f1')), _, rfl, F', _, rfl, SqL.of (s35 _ _ (k7 _ _ bF hF6)), fun p6 n6 => ⟨_, _, rfl, ?_⟩⟩
    rw [List.length_map, a4, cut_from, ← List.map_drop]
    have s6 := same_new n6 (.lst ((left.drop cr'.length).map V.str))
    have s36 := s35.trans s6
    have s46 := s4.trans (s5.trans s6)
    have t36 := Same.tups s36
    refine ⟨(left.drop cr'.length).length, by rw [List.length_drop]; omega, p3, p4, p5, p6, cr ++ cr', ts ++ ts', ss ++ ss', done ++ left.take cr'.length, left.drop cr'.length, _, _, _, _, _, _, _, _, _, rfl, rfl, ⟨xs1 ++ us1, ?_, paired_app (paired_imp (fun _ _ y => t36 _ _ y) c2') (paired_imp (fun _ _ y => t36 _ _ y) f2')⟩,
      ⟨xs2 ++ us2, (s5.trans s6) p4 _ upd_same, paired_app (paired_imp (fun _ _ y => y.keep t36) d2') (paired_imp (fun _ _ y => y.keep t36) g2')⟩, ⟨xs3 ++ us3, s6 p5 _ upd_same, paired_app (paired_imp (fun _ _ y => SgAt.keep t36 _ y) e2') (paired_imp (fun _ _ y => SgAt.keep t36 _ y) h2')⟩, upd_same, B7.ne n3, (B7.keep s3).ne n4, (B7.keep s34).ne n5, (B7.keep s35).ne n6, hm, (B7.keep s36).more (by rw [List.length_append, List.length_take]; omega), kk6.trans (k7.trans (.of s36))⟩
    rw [List.map_append]
    exact s46 p3 _ upd_same
  · subst c1
    have len : done.length = names.length := by simpa using len
    have hall := half.all
    rw [List.append_nil] at hall
    have t6' : Tups H H6 := hB.tups k6
    have x1 := half.tl
    have x2 := half.sl
    have x3 : cr.length = done.length := by rw [← half.nm, List.length_map]
    have k4p : Kept4 names cr ts := ⟨half.nm.trans hall, nd, sv, srt, by omega, by omega, half.crate, half.tl, half.tr, half.tv⟩
    exact leaf4 _ H6 b an lw N C S L name roof z lots as names ls cr ts ss _ _ _ _ _ _ _ _ _ _ (m + 8 + 200 * done.length) Q rfl B6 (by omega) (hA.keep t6') hz (kk6 _ _ bN eN5) bN hC6 hS6 hL6 (hW.keep k6 t6' hwb) bC bS bL hwb hls hstr k4p (by omega) half.so has hroof (fun a r H' k8 B8 => q a r H' (k6.trans k8) (B8.more (by omega)))
end
end Any
set_option pp.maxSteps 600
namespace Any
open L2 PySem PySem.Spec PyProof.Rows LamX NdefX
/-! ### what drawn rooms are like -/
theorem climb_none : ∀ (l : List Rm) (st : Nat × Str), (∀ r ∈ l, r.name ≠ st.2) → l.foldl climb st = st
  | [], _, _ => rfl
  | r :: l, st, h => by
    rw [List.foldl_cons, climb_no (h r (List.mem_cons_self ..))]
    exact climb_none l st fun x hx => h x (List.mem_cons_of_mem _ hx)
theorem climb_le : ∀ (l : List Rm) (st : Nat × Str), (l.foldl climb st).1 ≤ st.1 + l.length
  | [], _ => Nat.le_refl _
  | r :: l, st => by
    rw [List.foldl_cons]
    refine Nat.le_trans (climb_le l _) ?_
    rw [List.length_cons]
    by_cases h : r.name = st.2
    · rw [climb_yes h]
      show st.1 + 1 + l.length ≤ _
      omega
    · rw [climb_no h]
      omega
theorem get_map {α β : Type} {f : α → β} {l : List α} {i : Nat} {y : β} (h : (l.map f)[i]? = some y) : ∃ x, l[i]? = some x ∧ f x = y := by
  rw [List.getElem?_map] at h
  cases z : l[i]? with
  | none => rw [z] at h; cases h
  | some x => rw [z] at h; exact ⟨x, rfl, Option.some.inj h⟩
/-- names and aboves, drawn so -/
structure Tree (names up : List Str) : Prop where
  len : up.length = names.length
  nd : names.Nodup
  nm : ∀ x ∈ names, Nm x
  lo : 1 ≤ names.length
  hi : names.length ≤ 8
  first : up[0]? = some ("" : Str)
  below : ∀ i, i ≠ 0 → i < names.length → ∃ j, j < i ∧ j < 3 ∧ names[j]? = up[i]?
theorem nm_ne {x : Str} (h : Nm x) : x ≠ "" := fun z => by
  have := h.lo
  rw [z] at this
  exact absurd this (by decide)
theorem floor_ok {names up : List Str} (t : Tree names up) {rs : List Rm} (hn : rs.map (·.name) = names) {i j : Nat} {a : Str} (hj : j < i) (h3 : j < 3) (hi : i < names.length) (ha : names[j]? = some a) : floorOf rs i a ≤ 4 := by
  unfold floorOf
  have hl : rs.length = names.length := by rw [← hn, List.length_map]
  have e : (rs.take i).reverse = ((rs.take i).drop 3).reverse ++ ((rs.take i).take 3).reverse := by rw [← List.reverse_append, List.take_append_drop]
  rw [e, List.foldl_append, climb_none ((rs.take i).drop 3).reverse]
  · refine Nat.le_trans (climb_le _ _) ?_
    rw [List.length_reverse, List.length_take]
    show 1 + _ ≤ 4
    omega
  · intro r hr hra
    rw [List.mem_reverse] at hr
    obtain ⟨k, hk⟩ := List.getElem?_of_mem hr
    rw [List.getElem?_drop, List.getElem?_take] at hk
    have hra : r.name = a := hra
    by_cases c : 3 + k < i
    · rw [if_pos c] at hk
      have h1 : names[3 + k]? = some a := by rw [← hn, List.getElem?_map, hk]; exact congrArg some hra
      have := (List.getElem?_inj (by omega) t.nd).mp (h1.trans ha.symm)
      omega
    · rw [if_neg c] at hk
      cases hk
/-- those right beneath n, up to the j-th -/
def lowsTo (names up : List Str) (zs : List Ans) (n : Str) : Nat → List (Str × Int)
  | 0 => []
  | j + 1 => lowsTo names up zs n j ++ (if up[j + 1]? = some n then [(names.getD (j + 1) "", (zs.getD (j + 1) ⟨0, 0, none, .num 0, 0⟩).left)] else [])
theorem lows_len (names up : List Str) (zs : List Ans) (n : Str) : ∀ j, (lowsTo names up zs n j).length ≤ j
  | 0 => Nat.le_refl _
  | j + 1 => by
    have := lows_len names up zs n j
    unfold lowsTo
    rw [List.length_append]
    split
    · show _ + 1 ≤ _; omega
    · show _ + 0 ≤ _; omega
theorem lows_in {names up : List Str} {zs : List Ans} {n : Str} : ∀ {j : Nat}, j < names.length → ∀ z ∈ lowsTo names up zs n j, z.1 ∈ names
  | 0, _, z, h => by cases h
  | j + 1, hj, z, h => by
    unfold lowsTo at h
    rcases List.mem_append.mp h with h | h
    · exact lows_in (j := j) (by omega) z h
    · split at h
      · rw [List.mem_singleton.mp h]
        show names.getD (j + 1) "" ∈ names
        rw [List.getD_eq_getElem?_getD, List.getElem?_eq_getElem hj]
        exact List.getElem_mem hj
      · cases h
theorem lows_ben {names up : List Str} (t : Tree names up) {zs : List Ans} {rs : List Rm} (hn : rs.map (·.name) = names) (hu : rs.map (·.above) = up) {n : Str} (ne : n ≠ "") : ∀ {j : Nat}, j < names.length → ((rs.take (j + 1)).filter fun o => decide (o.above = n)).map (·.name) = (lowsTo names up zs n j).map (·.1)
  | 0, hj => by
    have hl : rs.length = names.length := by rw [← hn, List.length_map]
    cases rs with
    | nil => simp at hl; omega
    | cons r l =>
      have h0 : r.above = "" := by
        have := t.first
        rw [← hu] at this
        exact Option.some.inj this
      show (([r] : List Rm).filter fun o => decide (o.above = n)).map (·.name) = []
      rw [List.filter_cons, if_neg (by rw [h0]; simpa using Ne.symm ne)]
      rfl
  | j + 1, hj => by
    have hl : rs.length = names.length := by rw [← hn, List.length_map]
    have ih := lows_ben t (zs := zs) hn hu ne (j := j) (by omega)
    obtain ⟨r, hg⟩ : ∃ r, rs[j + 1]? = some r := ⟨_, List.getElem?_eq_getElem (by omega)⟩
    rw [List.take_add_one, hg, List.filter_append, List.map_append, ih]
    rw [show lowsTo names up zs n (j + 1) = lowsTo names up zs n j ++ (if up[j + 1]? = some n then [(names.getD (j + 1) "", (zs.getD (j + 1) ⟨0, 0, none, .num 0, 0⟩).left)] else []) from rfl, List.map_append]
    refine congrArg _ ?_
    have hu1 : up[j + 1]? = some r.above := by rw [← hu, List.getElem?_map, hg]; rfl
    have hn0 : names[j + 1]? = some r.name := by rw [← hn, List.getElem?_map, hg]; rfl
    have hn1 : names.getD (j + 1) "" = r.name := by rw [List.getD_eq_getElem?_getD, hn0]; rfl
    rw [hu1, hn1]
    show (([r] : List Rm).filter fun o => decide (o.above = n)).map (·.name) = _
    rw [List.filter_cons]
    by_cases c : r.above = n
    · rw [if_pos (by simpa using c), if_pos (by rw [c])]
      rfl
    · rw [if_neg (by simpa using c), if_neg (fun z => c (Option.some.inj z))]
      rfl
/-- rooms drawn by these names and aboves make a program -/
theorem right_of_drawn {names up : List Str} (t : Tree names up) {zs : List Ans} {rs : List Rm} (hl : rs.length = names.length)
    (h : ∀ (i : Nat) (r : Rm), rs[i]? = some r → ∃ n a : Str, names[i]? = some n ∧ up[i]? = some a ∧ Drawn n a ((lowsTo names up zs n (names.length - 1)).map (·.1)) r) : Right rs ∧ rs.map (·.name) = names ∧ rs.map (·.above) = up := by
  have hn : rs.map (·.name) = names := by
    refine List.ext_getElem? fun i => ?_
    rw [List.getElem?_map]
    cases e : rs[i]? with
    | none =>
      rw [List.getElem?_eq_none_iff] at e
      exact (List.getElem?_eq_none_iff.mpr (by omega)).symm
    | some r =>
      obtain ⟨n, a, h1, h2, d⟩ := h i r e
      rw [h1]
      exact congrArg some d.name
  have hu : rs.map (·.above) = up := by
    refine List.ext_getElem? fun i => ?_
    rw [List.getElem?_map]
    cases e : rs[i]? with
    | none =>
      rw [List.getElem?_eq_none_iff] at e
      exact (List.getElem?_eq_none_iff.mpr (by rw [t.len]; omega)).symm
    | some r =>
      obtain ⟨n, a, h1, h2, d⟩ := h i r e
      rw [h2]
      exact congrArg some d.above
  refine ⟨⟨by rw [hl]; exact t.lo, by rw [hl]; exact t.hi, fun i r hi => ?_⟩, hn, hu⟩
  obtain ⟨n, a, h1, h2, d⟩ := h i r hi
  have il : i < names.length := (List.getElem?_eq_some_iff.mp h1).1
  have nmn : Nm n := t.nm n (List.mem_of_getElem? h1)
  have hben : ben rs r.name = (lowsTo names up zs n (names.length - 1)).map (·.1) := by
    unfold ben
    rw [d.name, ← lows_ben t (zs := zs) hn hu (nm_ne nmn) (j := names.length - 1) (by omega), show names.length - 1 + 1 = rs.length by omega, List.take_length]
  refine ⟨by rw [d.name]; exact nmn, ?_, ⟨fun i0 => ?_, fun i0 => ?_⟩, d.boxes, d.asc, d.says, fun i0 => ?_, fun i0 => ?_⟩
  · rw [List.map_take, hn, d.name]
    exact nd_take t.nd h1
  · rw [d.above]
    subst i0
    exact Option.some.inj (h2.symm.trans t.first)
  · obtain ⟨j, j1, j2, j3⟩ := t.below i i0 il
    rw [h2] at j3
    rw [d.above]
    refine ⟨?_, floor_ok t hn j1 j2 il j3⟩
    rw [List.map_take, hn]
    refine List.mem_of_getElem? (i := j) ?_
    rw [List.getElem?_take, if_pos j1]
    exact j3
  · have a0 : a = "" := by
      subst i0
      exact Option.some.inj (h2.symm.trans t.first)
    rw [hben]
    exact d.first a0
  · obtain ⟨j, j1, j2, j3⟩ := t.below i i0 il
    rw [h2] at j3
    rw [hben]
    exact d.other (nm_ne (t.nm a (List.mem_of_getElem? j3)))
end Any
set_option pp.maxSteps 600
namespace Any
open L2 PySem PySem.Spec PyProof.Rows LamX NdefX
/-! ### _law_rooms -/
abbrev eight8 : List Str := ["tick", "a", "hall", "cellar", "q", "longname", "is", "zz"]
theorem eight_nm : ∀ x ∈ eight8, Nm x := by decide +kernel
theorem eight_nd : eight8.Nodup := by decide +kernel
def spLRooms : Sp := fun vs H Q _ => ∃ (b : Addr) (most lots m : Nat), vs = [.ref b, .int most, .int lots] ∧ Bag H b m ∧ m + 1000000 < 2 ^ 40 ∧ 1 ≤ most ∧ most ≤ 8 ∧ 1 ≤ lots ∧ lots ≤ 4 ∧
  ∀ (l : Addr) (as : List Addr) (rs : List Rm) (H' : Hp), Kept b H H' → Bag H' b (m + 1000000) → H l = none → l ≠ b → H' l = some (.lst (as.map V.ref)) → Paired (EightAt H') as rs → Right rs → (∀ r ∈ rs, 1 ≤ r.boxes.length) → (∀ r ∈ rs, r.name ∈ eight8) → rs.length ≤ most → Q (.ref l) H'
abbrev sRms : Stmt := top 90
abbrev psRs : List Str := ["_law_bag_here", "_law_most", "_law_lots"]
abbrev nmRs : List Str := ["_law_bag_here", "_law_most", "_law_lots", "_law_some", "_law_many", "_law_names", "_law_k", "_law_aboves", "_law_name", "_law_answers", "_law_rooms_here", "_law_beneath", "_law_j"]
theorem scRs : FnScope nmRs psRs (defScope sRms) := ⟨rfl, rfl, rfl, by decide +kernel, rfl, by decide +kernel, by decide +kernel⟩
theorem atI_of {xs : List V} {k : Int} {j : Nat} {v : V} (h : xs[j]? = some v) (e : k = (j : Int)) : atI xs k = some v := by
  subst e
  exact atI_nat h
section
variable {P : Program} {w : World} {K : PySem.W.Frag} {mg : Str → Option Value} {base : Heap} {f : Addr} {fd : FuncData}
set_option maxHeartbeats 8000000 in
theorem ok_lrooms (O : Own mg) (mr : mg "range" = none) (mmin : mg "min" = none) (F : Fun K "_law_rooms" "_law_rooms" sRms f fd) (DT : Df P w K mg base 1 "_law_take" ["_law_bag_here", "_law_many"] spTake) (DM : Df P w K mg base 2 "_law_mixed" ["_law_bag_here", "_law_some"] spMixed)
    (DA : Df P w K mg base 2 "_law_answer" ["_law_bag_here", "_law_lots"] spAnswer) (DR : Df P w K mg base 22 "_law_room" psRm spRoom) : FnOk P w K mg base CX0 23 f fd psRs spLRooms := by
  refine F.ok scRs (fun vs H Q E h => ?_) (fun cdv A outer s H vs Q E hr h => ?_)
  · obtain ⟨b, most, lots, m, rfl, _⟩ := h
    rfl
  obtain ⟨b, most, lots, m, rfl, hB, hm, hm1, hm8, hl1, hl4, q⟩ := h
  have hr1 := hr.mono (show 1 ≤ 22 by omega)
  have hr2 := hr.mono (show 2 ≤ 22 by omega)
  have hs : sizeLine = 16777216 := sizeLine_eq
  refine ⟨_, pss_cons (ps_set (i := 3) scRs.nd rfl (Or.inl rfl) (pe_lst (pa_cons pe_str (pa_cons pe_str (pa_cons pe_str (pa_cons pe_str (pa_cons pe_str (pa_cons pe_str (pa_cons pe_str (pa_cons pe_str pa_nil))))))))))
    (pss_cons (ps_set (i := 4) scRs.nd rfl (Or.inl rfl) (pe_ix ix_list (pe_lst (pa_cons (pe_op op_add pe_int (pe_D DT hr1 rfl (pa_cons (pv 0) (pa_cons (pv 1) pa_nil)))) (pa_cons (pv 1) pa_nil))) (pe_D DT hr1 rfl (pa_cons (pv 0) (pa_cons pe_int pa_nil))) (fun _ _ => rfl)))
    (pss_cons (ps_set (i := 5) scRs.nd rfl (Or.inr rfl) (pe_slice sl_list (pe_D DM hr2 rfl (pa_cons (pv 0) (pa_cons (pv 3) pa_nil))) po_none (po_some (pv 4))))
    (pss_cons (ps_set (i := 7) scRs.nd rfl (Or.inl rfl) (pe_op op_cat (pe_lst (pa_cons pe_str pa_nil)) (pe_lc (own := [("_law_k", 6)]) (g := gName 6) (tt := tYes) rfl scRs.nd (pi_range2 rfl mr (pa_cons pe_int (pa_cons (pe_callB call_len_seq rfl O.len PySem.boot_len (pa_cons (pv 5) pa_nil)) pa_nil))) (blkOk_by (N := nmRs) (sc := defScope sRms) (by decide +kernel))
        (fun _ _ _ _ _ => pg_name (i := 6) scRs.nd rfl (Or.inl rfl)) (fun _ _ _ _ _ => pts_nil) (fun _ _ _ _ _ => pe_ix (show IxR _ (rIxL K) from ix_list) (pv 5) (pe_D DT hr1 rfl (pa_cons (pv 0) (pa_cons (pe_callB (call_min2 rfl) rfl mmin (by decide +kernel) (pa_cons (pv 6) (pa_cons pe_int pa_nil))) pa_nil))) (fun _ _ => rfl)))))
    (pss_cons (ps_setLc (i := 9) (own := [("_law_name", 8)]) (g := gName 8) (tt := tYes) (by rfl) scRs.nd rfl rfl (sw_true rfl rfl rfl (by decide +kernel)) (pi_list (pv 5)) (blkOk_by (N := nmRs) (sc := defScope sRms) (by decide +kernel))
        (fun _ _ _ _ _ => pg_name (i := 8) scRs.nd rfl (Or.inl rfl)) (fun _ _ _ _ _ => pts_nil) (fun _ _ _ _ _ => pe_D DA hr2 rfl (pa_cons (pv 0) (pa_cons (pv 2) pa_nil))))
    (pss_cons (ps_set (i := 10) scRs.nd rfl (Or.inl rfl) (pe_lst pa_nil))
    (pss_cons (ps_for PassesOwn.never rfl (pi_range1 rfl mr (pa_cons (pe_callB call_len_seq rfl O.len PySem.boot_len (pa_cons (pv 5) pa_nil)) pa_nil)) (pg_name (i := 6) scRs.nd rfl (Or.inl rfl))
      (pss_cons (ps_par (i := 8) (j := 11) (by rfl) scRs.nd rfl rfl (by decide) rfl rfl (pa_cons (pe_ix ix_list (pv 5) (pv 6) (fun _ _ => rfl)) (pa_cons (pe_lst pa_nil) pa_nil)) (by rfl))
      (pss_cons (ps_for PassesOwn.never rfl (pi_range2 rfl mr (pa_cons pe_int (pa_cons (pe_callB call_len_seq rfl O.len PySem.boot_len (pa_cons (pv 5) pa_nil)) pa_nil))) (pg_name (i := 12) scRs.nd rfl (Or.inl rfl))
        (pss_one (ps_if (pt_cmpR op_eq (pe_ix ix_list (pv 7) (pv 12) (fun _ _ => rfl)) (pv 8) (nomark _)) (pss_one (ps_expr (pe_bm PySem.F.plainAttrs_list PySem.F.slot_list_append PySem.F.type_list_append mt_append (pv 11) (pa_cons (pe_tup (pa_cons (pe_ix ix_list (pv 5) (pv 12) (fun _ _ => rfl)) (pa_cons (pe_ix ix_tup (pe_ix ix_list (pv 9) (pv 12) (fun _ _ => rfl)) pe_int (fun _ _ => rfl)) pa_nil))) pa_nil)))) pss_nil)))
      (pss_one (ps_expr (pe_bm PySem.F.plainAttrs_list PySem.F.slot_list_append PySem.F.type_list_append mt_append (pv 10) (pa_cons (pe_D DR hr rfl (pa_cons (pv 0) (pa_cons (pv 8) (pa_cons (pe_ix ix_list (pv 7) (pv 6) (fun _ _ => rfl)) (pa_cons (pe_ix ix_list (pv 9) (pv 6) (fun _ _ => rfl)) (pa_cons (pv 11) (pa_cons (pv 2) pa_nil))))))) pa_nil)))))))
    (pss_one (ps_ret (pv 10))))))))), ?_⟩
  refine ⟨(by show 8 ≤ sizeLine; omega), fun ps nps => ?_⟩
  have s0 := same_new nps (.lst (eight8.map V.str))
  have bps : ps ≠ b := hB.ne nps
  refine ⟨_, rfl, _, rfl, b, most, m, rfl, hB.keep s0, by omega, by omega, by omega, fun d0 H1 k1 B1 d00 d01 => ⟨_, _, rfl, rfl, _, rfl, (by show 2 ≤ sizeLine; omega), fun p1 n1 => ?_⟩⟩
  have s1 := same_new n1 (.lst [.int (1 + d0), .int most])
  refine ⟨_, rfl, b, 2, m + 1, rfl, B1.keep s1, by omega, by decide, by decide, fun d1 H2 k2 B2 d10 d11 => ?_⟩
  obtain ⟨many, em, em1, em2⟩ : ∃ many : Nat, atI [V.int (1 + d0), V.int most] d1 = some (.int many) ∧ 1 ≤ many ∧ many ≤ most := by
    rcases two_ix (x := V.int (1 + d0)) (y := V.int most) d10 d11 with e | e
    · refine ⟨(1 + d0).toNat, ?_, by omega, by omega⟩
      rw [e, show (((1 + d0).toNat : Nat) : Int) = 1 + d0 by omega]
    · exact ⟨most, e, hm1, Nat.le_refl _⟩
  refine ⟨p1, _, _, _, rfl, rfl, SqL.of (k2 _ _ (B1.ne n1) upd_same), em, ?_⟩
  have kA : Kept b H H2 := (Kept.of s0).trans (k1.trans ((Kept.of s1).trans k2))
  have eps : H2 ps = some (.lst (eight8.map V.str)) := ((Kept.of s1).trans k2) _ _ bps (k1 _ _ bps upd_same)
  refine ⟨_, rfl, _, rfl, b, ps, eight8.map V.str, m + 1 + 1, rfl, B2, (by show m + 1 + 1 + 8 < _; omega), eps, bps, by decide, fun p ys H3 np k3 B3 hp perm => ⟨_, rfl, _, rfl, p, ys, rfl, SqL.of hp, fun N nN => ?_⟩⟩
  have B3 : Bag H3 b (m + 1 + 1 + 8) := B3
  obtain ⟨ws, ews, pws⟩ := strs_perm perm
  have w8 : ws.length = 8 := by rw [pws.length_eq]; rfl
  obtain ⟨names, enm⟩ : ∃ names : List Str, names = ws.take many := ⟨_, rfl⟩
  have ecut : cutV ys none (some (many : Int)) = names.map V.str := by rw [cut_any, ews, enm, List.map_take]
  have nl : names.length = many := by rw [enm, List.length_take, w8]; omega
  have nd : names.Nodup := by
    rw [enm]
    exact (pws.nodup_iff.mpr eight_nd).sublist (List.take_sublist ..)
  have nnm : ∀ x ∈ names, Nm x := fun x hx => by
    rw [enm] at hx
    exact eight_nm x (pws.mem_iff.mp (List.mem_of_mem_take hx))
  have nin : ∀ x ∈ names, x ∈ eight8 := fun x hx => by
    rw [enm] at hx
    exact pws.mem_iff.mp (List.mem_of_mem_take hx)
  rw [ecut]
  have bN : N ≠ b := B3.ne nN
  have sN := same_new nN (.lst (names.map V.str))
  have kB : Kept b H _ := kA.trans (k3.trans (.of sN))
  have B4 := B3.keep sN
  have eN := @upd_same H3 N (.lst (names.map V.str))
  clear sN
  generalize upd H3 N (.lst (names.map V.str)) = H4 at *
  refine ⟨(by show 1 ≤ sizeLine; omega), fun p5 n5 => ?_⟩
  have s5 := same_new n5 (.lst [.str ""])
  refine ⟨_, rfl, N, _, rfl, .inl (SqL.of (s5 _ _ eN)), _, _, rfl, ⟨by omega, by omega, by omega, by rw [List.length_map]; omega⟩, fun D nD => ?_⟩
  have bD : D ≠ b := (B4.keep s5).ne nD
  have b5 : p5 ≠ b := B4.ne n5
  refine lc_range (lo := 1) (fun i Hc => ∃ us : List Str, Hc D = some (.lst (us.map V.str)) ∧ us.length = i ∧ (∀ t, t < i → ∃ j, j < t + 1 ∧ j < 3 ∧ names[j]? = us[t]?) ∧ Bag Hc b (m + 1 + 1 + 8 + i) ∧ Kept b (upd H4 p5 (.lst [.str ""])) Hc) ⟨[], upd_same, rfl, (fun t ht => by omega), (B4.keep s5).keep (same_new nD _), .new nD _⟩ ?_ ?_
  · rintro i Hc hi ⟨us, u1, u2, u3, u4, u5⟩
    rw [List.length_map] at hi
    refine ⟨rfl, _, rfl, _, rfl, _, rfl, _, _, rfl, b, _, m + 1 + 1 + 8 + i, rfl, u4, by omega, by split <;> omega, by split <;> omega, fun d H5 k5 B5 dd0 dd1 => ?_⟩
    obtain ⟨dn, rfl⟩ : ∃ dn : Nat, d = dn := ⟨d.toNat, by omega⟩
    have dn1 : dn < i + 1 ∧ dn < 3 := by split at dd1 <;> omega
    obtain ⟨x, hx⟩ : ∃ x, names[dn]? = some x := ⟨_, List.getElem?_eq_getElem (by omega)⟩
    refine ⟨N, _, _, _, rfl, rfl, SqL.of (k5 _ _ bN (u5 _ _ bN (s5 _ _ eN))), atI_nat (j := dn) (by rw [List.getElem?_map, hx]; rfl), ?_⟩
    refine ⟨_, k5 _ _ bD u1, by rw [List.length_map]; omega, us ++ [x], by rw [upd_same, List.map_append]; rfl, by rw [List.length_append, u2]; rfl, fun t ht => ?_, (B5.off bD _).more (by omega), ?_⟩
    · by_cases c : t < i
      · obtain ⟨j, j1, j2, j3⟩ := u3 t c
        exact ⟨j, j1, j2, by rw [List.getElem?_append_left (by omega)]; exact j3⟩
      · have : t = us.length := by omega
        subst this
        exact ⟨dn, by omega, dn1.2, by rw [hx]; simp⟩
    · intro a o na ha
      rw [upd_ne (fun z => by rw [z, nD] at ha; cases ha)]
      exact k5 _ _ na (u5 _ _ na ha)
  rintro H5 ⟨us, u1, u2, u3, u4, u5⟩
  rw [List.length_map] at u2 u4
  simp only [List.length_map] at u3
  refine ⟨p5, D, _, _, rfl, rfl, u5 _ _ b5 upd_same, u1, by rw [List.length_map]; show 1 + us.length ≤ sizeLine; omega, fun AB nAB => ?_⟩
  have sAB := same_new nAB (.lst ([.str ""] ++ us.map V.str))
  have kC : Kept b H _ := kB.trans ((Kept.of s5).trans (u5.trans (.of sAB)))
  have B6 := u4.keep sAB
  have bAB : AB ≠ b := u4.ne nAB
  have eAB : _ = some (HO.lst ((("" : Str) :: us).map V.str)) := @upd_same H5 AB (.lst ([.str ""] ++ us.map V.str))
  have eN6 := sAB _ _ (u5 _ _ bN (s5 _ _ eN))
  obtain ⟨up, eup⟩ : ∃ up : List Str, up = ("" : Str) :: us := ⟨_, rfl⟩
  rw [← eup] at eAB
  have ul : up.length = names.length := by rw [eup, List.length_cons]; omega
  have tree : Tree names up := by
    refine ⟨ul, nd, nnm, by omega, by omega, by rw [eup]; rfl, fun i i0 i1 => ?_⟩
    obtain ⟨t, rfl⟩ : ∃ t, i = t + 1 := ⟨i - 1, by omega⟩
    obtain ⟨j, j1, j2, j3⟩ := u3 t (by omega)
    refine ⟨j, j1, j2, ?_⟩
    rw [j3, eup]
    rfl
  clear sAB
  generalize upd H5 AB (.lst ([.str ""] ++ us.map V.str)) = H6 at *
  -- what is asked and told
  refine ⟨_, rfl, N, rfl, ⟨_, SqL.of eN6⟩, fun AN nAN => ?_⟩
  have bAN : AN ≠ b := B6.ne nAN
  refine lc_list (K := K) (a := N) (xs := names.map V.str) (fun i Hc => ∃ (bs : List Addr) (zs : List Ans), Hc AN = some (.lst (bs.map V.ref)) ∧ Paired (AnsAt Hc) bs zs ∧ zs.length = i ∧ (∀ z ∈ zs, AnsOk z) ∧ Bag Hc b (m + 20 + 10 * i) ∧ Kept b H6 Hc) ⟨[], [], upd_same, .nil, rfl, (fun z hz => by cases hz), (B6.keep (same_new nAN _)).more (by omega), .new nAN _⟩ ?_ ?_ ?_
  · rintro i Hc _ ⟨bs, zs, _, _, _, _, _, kc⟩
    exact SqL.of (kc _ _ bN eN6)
  · rintro i x Hc hx ⟨bs, zs, z1, z2, z3, z4, z5, z6⟩
    have hi : i < names.length := by
      have := (List.getElem?_eq_some_iff.mp hx).1
      rw [List.length_map] at this
      exact this
    have lz := paired_len z2
    refine ⟨rfl, _, rfl, _, rfl, b, _, _, rfl, z5, by omega, fun a z H7 k7 B7 ha hz => ?_⟩
    have e7 := k7 _ _ bAN z1
    have t7 := z5.tups k7
    have tL : Tups H7 (upd H7 AN (.lst (bs.map V.ref ++ [.ref a]))) := fun a' ts ha' => by
      rw [upd_ne (ne_of ha' e7 (by intro z; cases z))]
      exact ha'
    refine ⟨_, e7, by rw [List.length_map]; omega, bs ++ [a], zs ++ [z], by rw [upd_same, List.map_append]; rfl, paired_snoc (paired_imp (fun _ _ y => (y.keep t7).keep tL) z2) (ha.keep tL), by rw [List.length_append, z3]; rfl, fun y hy => ?_, (B7.off bAN _).more (by omega), ?_⟩
    · rcases List.mem_append.mp hy with hy | hy
      · exact z4 y hy
      · rw [List.mem_singleton.mp hy]
        exact hz
    · intro a' o' na ha'
      rw [upd_ne (fun z => by rw [z, nAN] at ha'; cases ha')]
      exact k7 _ _ na (z6 _ _ na ha')
  rintro H7 ⟨bs, zs, z1, z2, z3, z4, z5, z6⟩
  rw [List.length_map] at z3 z5
  have lz := paired_len z2
  have kD : Kept b H H7 := kC.trans z6
  refine ⟨(by show 0 ≤ sizeLine; omega), fun R nR => ?_⟩
  have sR := same_new nR (.lst [])
  have bR : R ≠ b := z5.ne nR
  have B8 := z5.keep sR
  have eN8 := sR _ _ (z6 _ _ bN eN6)
  have eAB8 := sR _ _ (z6 _ _ bAB eAB)
  have eAN8 := sR _ _ z1
  have pAN8 : Paired (AnsAt (upd H7 R (.lst []))) bs zs := paired_imp (fun _ _ y => y.keep (Same.tups sR)) z2
  have eR8 := @upd_same H7 R (.lst [])
  have kE : Kept b H _ := kD.trans (.of sR)
  have nR0 : H R = none := by
    cases e : H R with
    | none => rfl
    | some o => rw [kD _ _ bR e] at nR; cases nR
  have RN : R ≠ N := fun e => by rw [e, z6 _ _ bN eN6] at nR; cases nR
  have RAB : R ≠ AB := fun e => by rw [e, z6 _ _ bAB eAB] at nR; cases nR
  have RAN : R ≠ AN := fun e => by rw [e, z1] at nR; cases nR
  clear sR
  generalize upd H7 R (.lst []) = H8 at *
  refine ⟨_, rfl, N, _, rfl, .inl (SqL.of eN8), _, rfl, by omega, by rw [List.length_map]; omega, ?_⟩
  refine for_range (lo := 0) (fun k σ Hc => ∃ (as : List Addr) (rs : List Rm) (y6 y8 y11 y12 : Option V), σ = [some (.ref b), some (.int most), some (.int lots), some (.ref ps), some (.int many), some (.ref N), y6, some (.ref AB), y8, some (.ref AN), some (.ref R), y11, y12] ∧ Hc R = some (.lst (as.map V.ref)) ∧ Paired (EightAt Hc) as rs ∧ rs.length = k ∧
    (∀ (i : Nat) (r : Rm), rs[i]? = some r → ∃ n a : Str, names[i]? = some n ∧ up[i]? = some a ∧ Drawn n a ((lowsTo names up zs n (names.length - 1)).map (·.1)) r) ∧ Bag Hc b (m + 200 + 102000 * k) ∧ (∀ a o, a ≠ b → a ≠ R → H8 a = some o → Hc a = some o)) ⟨[], [], none, none, none, none, rfl, eR8, .nil, rfl, (fun i r h => by simp at h), B8.more (by omega), fun a o _ _ h => h⟩ ?_ ?_
  · rintro k σ Hc hk ⟨as, rs, y6, y8, y11, y12, rfl, r1, r2, r3, r4, r5, r6⟩
    rw [List.length_map] at hk
    have hk' : k < names.length := by omega
    obtain ⟨n, hn⟩ : ∃ n, names[k]? = some n := ⟨_, List.getElem?_eq_getElem hk'⟩
    obtain ⟨up_k, hup⟩ : ∃ a, up[k]? = some a := ⟨_, List.getElem?_eq_getElem (by omega)⟩
    obtain ⟨z, hz⟩ : ∃ z, zs[k]? = some z := ⟨_, List.getElem?_eq_getElem (by omega)⟩
    have eNc := r6 _ _ bN (Ne.symm RN) eN8
    have eABc := r6 _ _ bAB (Ne.symm RAB) eAB8
    have eANc := r6 _ _ bAN (Ne.symm RAN) eAN8
    have tc : Tups H8 Hc := fun a xs h => r6 a _ (by obtain ⟨_, y⟩ := B8.lst; exact ne_of h y (by intro z; cases z)) (ne_of h eR8 (by intro z; cases z)) h
    have pANc : Paired (AnsAt Hc) bs zs := paired_imp (fun _ _ y => y.keep tc) pAN8
    have at_n : ∀ {j : Nat} {x : Str}, names[j]? = some x → (names.map V.str)[j]? = some (.str x) := fun h => by rw [List.getElem?_map, h]; rfl
    have at_u : ∀ {j : Nat} {x : Str}, up[j]? = some x → (up.map V.str)[j]? = some (.str x) := fun h => by rw [List.getElem?_map, h]; rfl
    refine ⟨_, rfl, _, rfl, N, _, _, _, rfl, rfl, SqL.of eNc, atI_of (j := k) (at_n hn) (by omega), (by show 0 ≤ sizeLine; omega), fun BN nBN => ⟨_, _, rfl, ?_⟩⟩
    have sB := same_new nBN (.lst [])
    refine ⟨_, rfl, N, _, rfl, .inl (SqL.of (sB _ _ eNc)), _, _, rfl, ⟨by omega, by omega, by omega, by rw [List.length_map]; omega⟩, ?_⟩
    refine for_range (lo := 1) (fun j σ He => ∃ y12 : Option V, σ = [some (.ref b), some (.int most), some (.int lots), some (.ref ps), some (.int many), some (.ref N), some (.int (0 + (k : Int))), some (.ref AB), some (.str n), some (.ref AN), some (.ref R), some (.ref BN), y12] ∧ LowsAt He BN (lowsTo names up zs n j) ∧ Same Hc He) ⟨_, rfl, ⟨[], upd_same, .nil⟩, sB⟩ ?_ ?_
    · rintro j σ He hj ⟨y12, rfl, ⟨ls, l1, l2⟩, sE⟩
      rw [List.length_map] at hj
      have hj' : j + 1 < names.length := by omega
      obtain ⟨nj, hnj⟩ : ∃ n, names[j + 1]? = some n := ⟨_, List.getElem?_eq_getElem hj'⟩
      obtain ⟨uj, huj⟩ : ∃ a, up[j + 1]? = some a := ⟨_, List.getElem?_eq_getElem (by omega)⟩
      obtain ⟨zj, hzj⟩ : ∃ z, zs[j + 1]? = some z := ⟨_, List.getElem?_eq_getElem (by omega)⟩
      obtain ⟨aj, haj, hat⟩ := paired_put pANc hzj
      have ll := paired_len l2
      have lle := lows_len names up zs n j
      refine ⟨_, rfl, _, rfl, AB, _, _, _, rfl, rfl, SqL.of (sE _ _ eABc), atI_of (j := j + 1) (at_u huj) (by omega), _, rfl, rfl, _, rfl, itD (fun c => ?_) (fun c => ?_)⟩
      · have c := V.str.inj c
        have estep : lowsTo names up zs n (j + 1) = lowsTo names up zs n j ++ [(nj, zj.left)] := by
          show lowsTo names up zs n j ++ _ = _
          rw [if_pos (by rw [huj, c]), List.getD_eq_getElem?_getD, hnj, List.getD_eq_getElem?_getD, hzj]
          rfl
        obtain ⟨v1, w1, hans, _, _⟩ := hat.keep (Same.tups sE)
        refine ⟨_, rfl, .inl ⟨rfl, _, SqL.of l1⟩, _, rfl, _, rfl, N, _, _, _, rfl, rfl, SqL.of (sE _ _ eNc), atI_of (j := j + 1) (at_n hnj) (by omega), ?_⟩
        refine ⟨_, rfl, _, rfl, AN, _, _, _, rfl, rfl, SqL.of (sE _ _ eANc), atI_of (j := j + 1) (v := .ref aj) (by rw [List.getElem?_map, haj]; rfl) (by omega), aj, _, _, _, rfl, rfl, SqT.of hans, atI_nat (j := 4) rfl, (by show 2 ≤ sizeLine; omega), fun p np => ?_⟩
        have sp := same_new np (.tup [.str nj, .int zj.left])
        have tL : Tups (upd He p (.tup [.str nj, .int zj.left])) (upd (upd He p (.tup [.str nj, .int zj.left])) BN (.lst (ls.map V.ref ++ [.ref p]))) := fun a' ts ha' => by
          rw [upd_ne (ne_of ha' (sp _ _ l1) (by intro z; cases z))]
          exact ha'
        refine ⟨BN, _, _, rfl, rfl, sp _ _ l1, by rw [List.length_map]; omega, _, rfl, ?_, ?_⟩
        · rw [estep]
          exact ⟨ls ++ [p], by rw [upd_same, List.map_append]; rfl, paired_snoc (paired_imp (fun _ _ y => tL _ _ (sp _ _ y)) l2) (tL _ _ upd_same)⟩
        · intro a o ha
          rw [upd_ne (ne_of_none ha nBN)]
          exact sp _ _ (sE _ _ ha)
      · have c : ¬ uj = n := fun e => c (by rw [e])
        refine ⟨_, rfl, ?_, sE⟩
        have estep : lowsTo names up zs n (j + 1) = lowsTo names up zs n j := by
          show lowsTo names up zs n j ++ _ = _
          rw [if_neg (by rw [huj]; exact fun e => c (Option.some.inj e)), List.append_nil]
        rw [estep]
        exact ⟨ls, l1, l2⟩
    · rintro σ He ⟨y12', rfl, hlow, sE⟩
      rw [List.length_map] at hlow
      have e1 : (((names.length : Nat) : Int) - 1).toNat = names.length - 1 := by omega
      rw [e1] at hlow
      obtain ⟨ak, hak, hatk⟩ := paired_put pANc hz
      have bBN : BN ≠ b := r5.ne nBN
      have lle := lows_len names up zs n (names.length - 1)
      refine ⟨_, rfl, .inl ⟨rfl, _, SqL.of (sE _ _ r1)⟩, ?_⟩
      refine ⟨_, rfl, _, rfl, _, rfl, _, rfl, AB, _, _, _, rfl, rfl, SqL.of (sE _ _ eABc), atI_of (j := k) (at_u hup) (by omega), ?_⟩
      refine ⟨_, rfl, _, rfl, AN, _, _, _, rfl, rfl, SqL.of (sE _ _ eANc), atI_of (j := k) (v := .ref ak) (by rw [List.getElem?_map, hak]; rfl) (by omega), _, rfl, _, rfl, ?_⟩
      refine ⟨b, ak, BN, n, up_k, z, lowsTo names up zs n (names.length - 1), lots, m + 200 + 102000 * k, rfl, r5.keep sE, by omega, hatk.keep (Same.tups sE), z4 z (List.mem_of_getElem? hz), hlow, bBN, by omega, fun y hy => nm_ok (nnm _ (lows_in (by omega) y hy)), hl1, hl4, fun a r H9 k9 B9 h8 drawn => ?_⟩
      have eR9 := k9 _ _ bR (sE _ _ r1)
      have tE : Tups Hc H9 := fun a' xs h => (r5.keep sE).tups k9 _ _ (sE _ _ h)
      have tL : Tups H9 (upd H9 R (.lst (as.map V.ref ++ [.ref a]))) := fun a' ts ha' => by
        rw [upd_ne (ne_of ha' eR9 (by intro z; cases z))]
        exact ha'
      have las := paired_len r2
      refine ⟨R, _, _, rfl, rfl, eR9, by rw [List.length_map]; omega, as ++ [a], rs ++ [r], _, _, _, _, rfl, by rw [upd_same, List.map_append]; rfl, paired_snoc (paired_imp (fun _ _ y => (y.keep tE).keep tL) r2) (h8.keep tL), by rw [List.length_append, r3]; rfl, fun i r' hi => ?_, (B9.off bR _).more (by omega), fun a' o na nR' h => ?_⟩
      · by_cases c : i < rs.length
        · rw [List.getElem?_append_left c] at hi
          exact r4 i r' hi
        · rw [List.getElem?_append_right (by omega)] at hi
          have i0 : i - rs.length = 0 := by
            by_cases c2 : i - rs.length = 0
            · exact c2
            · rw [List.getElem?_eq_none_iff.mpr (by show 1 ≤ _; omega)] at hi
              cases hi
          rw [i0] at hi
          cases hi
          have ik : i = k := by omega
          subst ik
          exact ⟨n, up_k, hn, hup, drawn⟩
      · rw [upd_ne nR']
        exact k9 _ _ na (sE _ _ (r6 _ _ na nR' h))
  · rintro σ Hc ⟨as, rs, y6, y8, y11, y12, rfl, r1, r2, r3, r4, r5, r6⟩
    rw [List.length_map] at r3 r5
    have r3' : rs.length = names.length := by omega
    obtain ⟨rt, rn, ru⟩ := right_of_drawn tree (zs := zs) r3' r4
    refine ⟨_, rfl, q R as rs Hc (fun a o na h => ?_) (r5.more (by omega)) nR0 bR r1 r2 rt (fun r hr => ?_) (fun r hr => nin _ (by rw [← rn]; exact List.mem_map_of_mem hr)) (by omega)⟩
    · refine r6 a o na (fun e => ?_) (kE _ _ na h)
      rw [e, nR0] at h
      cases h
    · obtain ⟨i, hi⟩ := List.getElem?_of_mem hr
      obtain ⟨n, a, h1, h2, d⟩ := r4 i r hi
      exact d.some
end
end Any
set_option pp.maxSteps 600
namespace Any
open L2 PySem PySem.Spec PyProof.Rows LamX NdefX
/-! ### places as rows, goals of which may be open -/
/-- what a place's tuple or row holds -/
inductive PlV (H : Hp) : List V → Pl → Prop
  | home (i : Int) : PlV H [.str "home", .int i] (.home i)
  | ifp {u : V} {t : Ts} (y n : Int) : TsAt H u t → PlV H [.str "if", u, .int y, .int n] (.ifp t y n)
  | forp {u : V} {e : Ex} (k m c : Int) : ExAt H u e → PlV H [.str "for", .int k, u, .int m, .int c] (.forp k e m c)
  | chk (k b o : Int) : PlV H [.str "check", .int k, .int b, .int o] (.chk k b o)
  | ask {u : V} {e : Ex} (x r : Str) (i j : Int) : ExAt H u e → PlV H [.str "ask", .str x, .str r, u, .int i, .int j] (.ask x r e i j)
  | clear (r : Str) (i : Int) : PlV H [.str "clear", .str r, .int i] (.clear r i)
  | again (r : Str) (i : Int) : PlV H [.str "again", .str r, .int i] (.again r i)
  | set {u : V} {e : Ex} (x : Str) (i : Int) : ExAt H u e → PlV H [.str "set", .str x, u, .int i] (.set x e i)
  | say {u : V} {e : Ex} (x : Str) (i : Int) : ExAt H u e → PlV H [.str "say", .str x, u, .int i] (.say x e i)
  | hear (x : Str) (i : Int) : PlV H [.str "hear", .str x, .int i] (.hear x i)
  | tell {u : V} {e : Ex} (b i : Int) : ExAt H u e → PlV H [.str "tell", .int b, u, .int i] (.tell b e i)
  | told (i : Int) : PlV H [.str "told", .int i] (.told i)
theorem PlV.keep {H H' : Hp} (k : Tups H H') {ys : List V} {p : Pl} (h : PlV H ys p) : PlV H' ys p := by
  cases h with
  | home i => exact .home i
  | ifp y n h => exact .ifp y n (h.keep k)
  | forp q m c h => exact .forp q m c (h.keep k)
  | chk q b o => exact .chk q b o
  | ask x r i j h => exact .ask x r i j (h.keep k)
  | clear r i => exact .clear r i
  | again r i => exact .again r i
  | set x i h => exact .set x i (h.keep k)
  | say x i h => exact .say x i (h.keep k)
  | hear x i => exact .hear x i
  | tell b i h => exact .tell b i (h.keep k)
  | told i => exact .told i
theorem PlV.pl {H : Hp} {ys : List V} {p : Pl} {a : Addr} (h : PlV H ys p) (e : H a = some (.tup ys)) : PlAt H (.ref a) p := by
  cases h with
  | home i => exact .home e
  | ifp y n h => exact .ifp e h
  | forp q m c h => exact .forp e h
  | chk q b o => exact .chk e
  | ask x r i j h => exact .ask e h
  | clear r i => exact .clear e
  | again r i => exact .again e
  | set x i h => exact .set e h
  | say x i h => exact .say e h
  | hear x i => exact .hear e
  | tell b i h => exact .tell e h
  | told i => exact .told e
theorem PlV.word {H : Hp} {ys : List V} {p : Pl} (h : PlV H ys p) : ys[0]? = some (.str p.word) := by
  cases h <;> rfl
theorem PlV.few {H : Hp} {ys : List V} {p : Pl} (h : PlV H ys p) : ys.length ≤ 6 := by
  cases h <;> simp
/-- the goals that may be open -/
def Pl.goal : Pl → Nat → Option Int
  | .home i, 1 => some i
  | .ifp _ y _, 2 => some y
  | .ifp _ _ n, 3 => some n
  | .chk _ b _, 2 => some b
  | .chk _ _ o, 3 => some o
  | .clear _ i, 2 => some i
  | .set _ _ i, 3 => some i
  | .say _ _ i, 3 => some i
  | .hear _ i, 2 => some i
  | _, _ => none
theorem goal_at {H : Hp} {ys : List V} {p : Pl} {s : Nat} {g : Int} (h : PlV H ys p) (e : p.goal s = some g) : ys[s]? = some (.int g) := by
  unfold Pl.goal at e
  split at e <;> first | (cases e; cases h; rfl) | cases e
/-- a row that is this place's outside of its open goals -/
def LiAt (H : Hp) (e : Addr) (p : Pl) (h : Nat → Prop) : Prop := ∃ xs ys, H e = some (.lst xs) ∧ PlV H ys p ∧ xs.length = ys.length ∧ ∀ s, ¬ h s → xs[s]? = ys[s]?
structure RwAt (H : Hp) (a : Addr) (as : List Addr) (ps : List Pl) (h : Nat → Nat → Prop) : Prop where
  lst : H a = some (.lst (as.map V.ref))
  len : as.length = ps.length
  nd : as.Nodup
  out : a ∉ as
  h0 : ∀ i, ¬ h i 0
  at_ : ∀ (i : Nat) (e : Addr) (p : Pl), as[i]? = some e → ps[i]? = some p → LiAt H e p (h i)
def LooseAt (H : Hp) (L : Addr) (l : List (Nat × Nat)) : Prop := ∃ ts : List Addr, H L = some (.lst (ts.map V.ref)) ∧ Paired (fun (t : Addr) (q : Nat × Nat) => H t = some (.tup [.int q.1, .int q.2])) ts l
theorem LiAt.keep {H H' : Hp} {e : Addr} {p : Pl} {h : Nat → Prop} (k : Tups H H') (x : ∀ o, H e = some o → H' e = some o) (z : LiAt H e p h) : LiAt H' e p h := by
  obtain ⟨xs, ys, h1, h2, h3, h4⟩ := z
  exact ⟨xs, ys, x _ h1, h2.keep k, h3, h4⟩
/-- all but these rows stay -/
def Kr (as : List Addr) (H H' : Hp) : Prop := ∀ a o, a ∉ as → H a = some o → H' a = some o
theorem RwAt.mem {H : Hp} {a : Addr} {as : List Addr} {ps : List Pl} {h : Nat → Nat → Prop} (r : RwAt H a as ps h) {e : Addr} (m : e ∈ as) : ∃ xs, H e = some (.lst xs) := by
  obtain ⟨i, hi⟩ := List.getElem?_of_mem m
  obtain ⟨p, hp⟩ : ∃ p, ps[i]? = some p := ⟨_, List.getElem?_eq_getElem (by rw [← r.len]; exact (List.getElem?_eq_some_iff.mp hi).1)⟩
  obtain ⟨xs, _, h1, _⟩ := r.at_ i e p hi hp
  exact ⟨xs, h1⟩
theorem RwAt.tups {H H' : Hp} {a : Addr} {as : List Addr} {ps : List Pl} {h : Nat → Nat → Prop} (r : RwAt H a as ps h) (k : Kr as H H') : Tups H H' := fun t xs e => k t _ (fun m => by
  obtain ⟨ys, q⟩ := r.mem m
  rw [q] at e
  cases e) e
theorem ixN_nat {s n : Nat} (h : s < n) : ixN n (s : Int) = some s := by
  unfold ixN
  rw [if_pos (by omega), if_pos (by omega)]
  rfl
abbrev sPat : Stmt := top 93
abbrev nmPt : List Str := ["_law_rows", "_law_loose", "_law_goal", "_law_at", "_law_slot"]
abbrev psPt : List Str := ["_law_rows", "_law_loose", "_law_goal"]
theorem scPt : FnScope nmPt psPt (defScope sPat) := ⟨rfl, rfl, rfl, by decide +kernel, rfl, by decide +kernel, by decide +kernel⟩
def spPat : Sp := fun vs H Q _ => ∃ (a L : Addr) (as : List Addr) (ps : List Pl) (l : List (Nat × Nat)) (hs : Nat → Nat → Prop) (g : Int), vs = [.ref a, .ref L, .int g] ∧ RwAt H a as ps (fun i s => hs i s ∨ (i, s) ∈ l) ∧ LooseAt H L l ∧ L ∉ as ∧ (∀ i, ¬ hs i 0) ∧
  (∀ q ∈ l, ∃ p, ps[q.1]? = some p ∧ p.goal q.2 = some g) ∧ ∀ H', Kr as H H' → RwAt H' a as ps hs → Q .non H'
section
variable {P : Program} {w : World} {K : PySem.W.Frag} {mg : Str → Option Value} {base : Heap} {f : Addr} {fd : FuncData}
theorem ok_pat (F : Fun K "_law_patched" "_law_patched" sPat f fd) : FnOk P w K mg base CX0 1 f fd psPt spPat := by
  refine F.ok scPt (fun vs H Q E h => ?_) (fun cdv A outer s H vs Q E hr h => ?_)
  · obtain ⟨a, L, as, ps, l, hs, g, rfl, _⟩ := h
    rfl
  obtain ⟨a, L, as, ps, l, hs, g, rfl, hR, ⟨ts, hL, hp⟩, hLa, h0, hg, q⟩ := h
  have hl := paired_len hp
  refine ⟨_, pss_one (ps_for PassesOwn.never rfl (pi_list (pv 1)) (pg_tup rfl (pgs_cons (pg_name (i := 3) scPt.nd rfl (Or.inl rfl)) (pgs_cons (pg_name (i := 4) scPt.nd rfl (Or.inl rfl)) pgs_nil)))
    (pss_one (ps_asg (pv 2) (pg_sub (pe_ix ix_list (pv 0) (pv 3) (fun _ _ => rfl)) (pv 4) set_list)))), ?_⟩
  refine ⟨_, rfl, L, rfl, ⟨_, SqL.of hL⟩, ?_⟩
  refine for_list (K := K) (a := L) (xs := ts.map V.ref) (fun i σ Hc => ∃ y3 y4, σ = [some (.ref a), some (.ref L), some (.int g), y3, y4] ∧ RwAt Hc a as ps (fun x s => hs x s ∨ (x, s) ∈ l.drop i) ∧ Kr as H Hc) ⟨_, _, rfl, hR, fun _ _ _ h => h⟩ ?_ ?_ ?_
  · rintro i σ Hc _ ⟨y3, y4, rfl, r, k⟩
    exact SqL.of (k _ _ hLa hL)
  · rintro i v σ Hc hv ⟨y3, y4, rfl, r, k⟩
    obtain ⟨t, ht, rfl⟩ := refs_at hv
    obtain ⟨qq, hq, hat⟩ := paired_get hp ht
    have tt := hR.tups k
    obtain ⟨p, hp1, hp2⟩ := hg qq (List.mem_of_getElem? hq)
    have il : qq.1 < as.length := by rw [hR.len]; exact (List.getElem?_eq_some_iff.mp hp1).1
    obtain ⟨e, he⟩ : ∃ e, as[qq.1]? = some e := ⟨_, List.getElem?_eq_getElem il⟩
    obtain ⟨xs, ys, e1, e2, e3, e4⟩ := r.at_ qq.1 e p he hp1
    have hy := goal_at e2 hp2
    have sl : qq.2 < xs.length := by rw [e3]; exact (List.getElem?_eq_some_iff.mp hy).1
    refine ⟨t, _, rfl, SqT.of (tt _ _ hat), rfl, _, _, rfl, _, _, rfl, rfl, ?_⟩
    refine ⟨_, rfl, _, rfl, _, rfl, a, _, _, _, rfl, rfl, SqL.of r.lst, atI_nat (j := qq.1) (v := .ref e) (by rw [List.getElem?_map, he]; rfl), _, rfl, e, xs, qq.2, qq.2, rfl, rfl, e1, ixN_nat sl, ?_⟩
    have em : e ∈ as := List.mem_of_getElem? he
    have ea : e ≠ a := fun z => r.out (z ▸ em)
    have tL : Tups Hc (upd Hc e (.lst (xs.set qq.2 (.int g)))) := fun b zs hb => by
      rw [upd_ne (ne_of hb e1 (by intro z; cases z))]
      exact hb
    have dr : l.drop i = qq :: l.drop (i + 1) := by
      obtain ⟨lt, ee⟩ := List.getElem?_eq_some_iff.mp hq
      rw [← ee]
      exact List.drop_eq_getElem_cons lt
    refine ⟨_, _, rfl, ⟨by rw [upd_ne ea.symm]; exact r.lst, r.len, r.nd, r.out, fun j z => ?_, fun j e' p' he' hp' => ?_⟩, fun b o hb ho => ?_⟩
    · rcases z with z | z
      · exact h0 j z
      · exact r.h0 j (.inr (by rw [dr]; exact List.mem_cons_of_mem _ z))
    · by_cases c : j = qq.1
      · subst c
        rw [he] at he'
        cases he'
        rw [hp1] at hp'
        cases hp'
        refine ⟨_, ys, upd_same, e2.keep tL, by rw [List.length_set]; exact e3, fun s hns => ?_⟩
        by_cases cs : s = qq.2
        · subst cs
          rw [List.getElem?_set_self sl]
          exact hy.symm
        · rw [List.getElem?_set_ne (Ne.symm cs)]
          refine e4 s fun z => hns ?_
          rcases z with z | z
          · exact .inl z
          · rw [dr] at z
            rcases List.mem_cons.mp z with z | z
            · exact absurd (congrArg Prod.snd z) cs
            · exact .inr z
      · have ne : e' ≠ e := fun z => c ((List.getElem?_inj (List.getElem?_eq_some_iff.mp he').1 r.nd).mp (he'.trans (by rw [z]; exact he.symm)))
        obtain ⟨xs', ys', f1, f2, f3, f4⟩ := r.at_ j e' p' he' hp'
        refine ⟨xs', ys', by rw [upd_ne ne]; exact f1, f2.keep tL, f3, fun s hns => f4 s fun z => hns ?_⟩
        rcases z with z | z
        · exact .inl z
        · rw [dr] at z
          rcases List.mem_cons.mp z with z | z
          · exact absurd (congrArg Prod.fst z) c
          · exact .inr z
    · rw [upd_ne (fun z : b = e => hb (by rw [z]; exact em))]
      exact k b o hb ho
  · rintro σ Hc ⟨y3, y4, rfl, r, k⟩
    refine q Hc k ⟨r.lst, r.len, r.nd, r.out, h0, fun i e p he hp' => ?_⟩
    obtain ⟨xs, ys, f1, f2, f3, f4⟩ := r.at_ i e p he hp'
    refine ⟨xs, ys, f1, f2, f3, fun s hns => f4 s fun z => ?_⟩
    rcases z with z | z
    · exact hns z
    · rw [List.length_map, hl, List.drop_length] at z
      cases z
end
end Any
set_option pp.maxSteps 600
namespace Any
open L2 PySem PySem.Spec PyProof.Rows LamX NdefX
/-! ### rows put behind others -/
theorem RwAt.mono {H : Hp} {a : Addr} {as : List Addr} {ps : List Pl} {h h' : Nat → Nat → Prop} (r : RwAt H a as ps h) (m : ∀ i s, h i s → h' i s) (z : ∀ i, ¬ h' i 0) : RwAt H a as ps h' :=
  ⟨r.lst, r.len, r.nd, r.out, z, fun i e p he hp => by
    obtain ⟨xs, ys, f1, f2, f3, f4⟩ := r.at_ i e p he hp
    exact ⟨xs, ys, f1, f2, f3, fun s hs => f4 s fun q => hs (m i s q)⟩⟩
theorem RwAt.keep {H H' : Hp} {a : Addr} {as : List Addr} {ps : List Pl} {h : Nat → Nat → Prop} (r : RwAt H a as ps h) (k : Same H H') : RwAt H' a as ps h :=
  ⟨k _ _ r.lst, r.len, r.nd, r.out, r.h0, fun i e p he hp => (r.at_ i e p he hp).keep (Same.tups k) fun o q => k _ _ q⟩
theorem RwAt.push {H : Hp} {a e : Addr} {as : List Addr} {ps : List Pl} {h h' : Nat → Nat → Prop} {xs ys : List V} {p : Pl} (r : RwAt H a as ps h) (ea : e ≠ a) (en : e ∉ as) (he : H e = some (.lst xs)) (pv : PlV H ys p) (hl : xs.length = ys.length)
    (ag : ∀ s, ¬ h' ps.length s → xs[s]? = ys[s]?) (m : ∀ i s, h i s → h' i s) (z : ∀ i, ¬ h' i 0) : RwAt (upd H a (.lst (as.map V.ref ++ [.ref e]))) a (as ++ [e]) (ps ++ [p]) h' := by
  have t : Tups H (upd H a (.lst (as.map V.ref ++ [.ref e]))) := fun b zs hb => by
    rw [upd_ne (ne_of hb r.lst (by intro z; cases z))]
    exact hb
  refine ⟨by rw [upd_same, List.map_append]; rfl, by rw [List.length_append, List.length_append, r.len]; rfl, ?_, fun q => ?_, z, fun i e' p' he' hp' => ?_⟩
  · rw [List.nodup_append]
    refine ⟨r.nd, by simp, fun x hx y hy => ?_⟩
    rw [List.mem_singleton.mp hy]
    exact fun q => en (q ▸ hx)
  · rcases List.mem_append.mp q with q | q
    · exact r.out q
    · exact ea (List.mem_singleton.mp q).symm
  · by_cases c : i < as.length
    · rw [List.getElem?_append_left c] at he'
      rw [List.getElem?_append_left (by rw [← r.len]; exact c)] at hp'
      obtain ⟨xs', ys', f1, f2, f3, f4⟩ := r.at_ i e' p' he' hp'
      have ne : e' ≠ a := fun q => r.out (q ▸ List.mem_of_getElem? he')
      exact ⟨xs', ys', by rw [upd_ne ne]; exact f1, f2.keep t, f3, fun s hs => f4 s fun q => hs (m i s q)⟩
    · rw [List.getElem?_append_right (by omega)] at he'
      rw [List.getElem?_append_right (by rw [← r.len]; omega)] at hp'
      have i0 : i = as.length := by
        by_cases c2 : i - as.length = 0
        · omega
        · rw [List.getElem?_eq_none_iff.mpr (by show 1 ≤ _; omega)] at he'
          cases he'
      subst i0
      rw [Nat.sub_self] at he'
      rw [r.len, Nat.sub_self] at hp'
      cases he'
      cases hp'
      refine ⟨xs, ys, by rw [upd_ne ea]; exact he, pv.keep t, hl, fun s hs => ag s ?_⟩
      rw [← r.len]
      exact hs
/-- all else stays, the new rows were not there -/
structure Lays (a : Addr) (as n : List Addr) (H H' : Hp) : Prop where
  keep : ∀ b o, b ≠ a → b ∉ as → H b = some o → H' b = some o
  new : ∀ e ∈ n, H e = none
theorem Lays.refl {a : Addr} {as : List Addr} {H : Hp} : Lays a as [] H H := ⟨fun _ _ _ _ h => h, fun _ h => nomatch h⟩
theorem Lays.same {a : Addr} {as : List Addr} {H H' : Hp} (s : Same H H') : Lays a as [] H H' := ⟨fun _ _ _ _ h => s _ _ h, fun _ h => nomatch h⟩
theorem Lays.tups {a : Addr} {as n : List Addr} {H H' : Hp} {ps : List Pl} {h : Nat → Nat → Prop} (k : Lays a as n H H') (r : RwAt H a as ps h) : Tups H H' := fun t xs e => k.keep t _ (ne_of e r.lst (by intro z; cases z)) (fun m => by
  obtain ⟨ys, q⟩ := r.mem m
  rw [q] at e
  cases e) e
theorem Lays.trans {a : Addr} {as n m : List Addr} {H H1 H2 : Hp} {ps : List Pl} {h : Nat → Nat → Prop} (k : Lays a as n H H1) (r : RwAt H1 a (as ++ n) ps h) (g : Lays a (as ++ n) m H1 H2) : Lays a as (n ++ m) H H2 := by
  refine ⟨fun b o b1 b2 b3 => g.keep b o b1 (fun q => ?_) (k.keep b o b1 b2 b3), fun e he => ?_⟩
  · rcases List.mem_append.mp q with q | q
    · exact b2 q
    · rw [k.new b q] at b3
      cases b3
  · rcases List.mem_append.mp he with he | he
    · exact k.new e he
    · have h1 := g.new e he
      cases z : H e with
      | none => rfl
      | some o =>
        by_cases c : e = a
        · rw [c, r.lst] at h1
          cases h1
        · by_cases c2 : e ∈ as
          · obtain ⟨xs, q⟩ := r.mem (List.mem_append.mpr (.inl c2))
            rw [q] at h1
            cases h1
          · rw [k.keep e o c c2 z] at h1
            cases h1
theorem Kr.lays {a : Addr} {as : List Addr} {H H' : Hp} (k : Kr as H H') : Lays a as [] H H' := ⟨fun b o _ b2 h => k b o b2 h, fun _ h => nomatch h⟩
theorem LooseAt.keep {H H' : Hp} {L a : Addr} {as n : List Addr} {l : List (Nat × Nat)} {ps : List Pl} {h : Nat → Nat → Prop} (z : LooseAt H L l) (k : Lays a as n H H') (r : RwAt H a as ps h) (La : L ≠ a) (Ln : L ∉ as) : LooseAt H' L l := by
  obtain ⟨ts, h1, h2⟩ := z
  exact ⟨ts, k.keep _ _ La Ln h1, paired_imp (fun _ _ y => k.tups r _ _ y) h2⟩
/-- a thing that is new is none of the rows -/
theorem RwAt.fresh {H : Hp} {a e : Addr} {as : List Addr} {ps : List Pl} {h : Nat → Nat → Prop} (r : RwAt H a as ps h) (n : H e = none) : e ≠ a ∧ e ∉ as := by
  refine ⟨fun q => ?_, fun q => ?_⟩
  · rw [q, r.lst] at n
    cases n
  · obtain ⟨xs, z⟩ := r.mem q
    rw [z] at n
    cases n
/-! places put behind others -/
mutual
theorem addS_pre : ∀ (s : Sg) (ps : List Pl) (j : Int), ∃ m, addS ps j s = ps ++ m
  | .ifs t a b, ps, j => by
    unfold addS
    obtain ⟨m1, e1⟩ := addB_pre a (ps ++ [.ifp t (begI a (ps.length + 1) j) (begI b (ps.length + 1 + a.sz) j)]) j
    rw [e1]
    obtain ⟨m2, e2⟩ := addB_pre b (ps ++ [.ifp t (begI a (ps.length + 1) j) (begI b (ps.length + 1 + a.sz) j)] ++ m1) j
    rw [e2]
    exact ⟨_, by rw [List.append_assoc, List.append_assoc]⟩
  | .fors e m a, ps, j => by
    unfold addS
    obtain ⟨m1, e1⟩ := addB_pre a (ps ++ [.forp (fors ps) e m (ps.length + 1)] ++ [.chk (fors ps) (begI a (ps.length + 1 + 1) (ps.length + 1)) j]) (ps.length + 1)
    rw [e1]
    exact ⟨_, by rw [List.append_assoc, List.append_assoc]⟩
  | .call x r e, ps, j => by
    unfold addS
    exact ⟨_, by rw [List.append_assoc, List.append_assoc]⟩
  | .set x e, ps, j => by unfold addS; exact ⟨_, rfl⟩
  | .say x e, ps, j => by unfold addS; exact ⟨_, rfl⟩
  | .hear x, ps, j => by unfold addS; exact ⟨_, rfl⟩
theorem addB_pre : ∀ (b : Bd) (ps : List Pl) (j : Int), ∃ m, addB ps j b = ps ++ m
  | .nil, ps, j => ⟨[], by unfold addB; rw [List.append_nil]⟩
  | .cons s b, ps, j => by
    unfold addB
    obtain ⟨m1, e1⟩ := addS_pre s ps (begI b (ps.length + s.sz) j)
    rw [e1]
    obtain ⟨m2, e2⟩ := addB_pre b (ps ++ m1) j
    rw [e2]
    exact ⟨_, by rw [List.append_assoc]⟩
end
theorem addB_at (b : Bd) (ps : List Pl) (j : Int) {i : Nat} {p : Pl} (h : ps[i]? = some p) : (addB ps j b)[i]? = some p := by
  obtain ⟨m, e⟩ := addB_pre b ps j
  rw [e, List.getElem?_append_left (List.getElem?_eq_some_iff.mp h).1]
  exact h
def forH (as : List Addr) (ps : List Pl) : List (Option V) := List.zipWith (fun e p => if p.isFor = true then some (V.ref e) else none) as ps
theorem forH_len : ∀ {as : List Addr} {ps : List Pl}, as.length = ps.length → (forH as ps).length = as.length := fun h => by
  unfold forH
  rw [List.length_zipWith, ← h, Nat.min_self]
theorem forH_fm : ∀ {as : List Addr} {ps : List Pl}, as.length = ps.length → (((forH as ps).filterMap id).length : Int) = fors ps
  | [], [], _ => rfl
  | e :: as, p :: ps, h => by
    have ih := forH_fm (as := as) (ps := ps) (by simpa using h)
    show ((((if p.isFor = true then some (V.ref e) else none) :: forH as ps).filterMap id).length : Int) = _
    unfold fors at ih ⊢
    cases c : p.isFor with
    | true =>
      rw [if_pos rfl, List.filterMap_cons, List.filter_cons, if_pos c]
      simp only [id, List.length_cons]
      omega
    | false =>
      rw [if_neg (by decide), List.filterMap_cons, List.filter_cons, if_neg (by rw [c]; decide)]
      exact ih
theorem forH_at {as : List Addr} {ps : List Pl} {i : Nat} {e : Addr} {p : Pl} {o : Option V} (h : as[i]? = some e) (g : ps[i]? = some p) (q : (forH as ps)[i]? = some o) : o = if p.isFor = true then some (V.ref e) else none := by
  unfold forH at q
  rw [List.getElem?_zipWith, h, g] at q
  exact (Option.some.inj q).symm
end Any
set_option pp.maxSteps 600
namespace Any
open L2 PySem PySem.Spec PyProof.Rows LamX NdefX
/-! ### _law_lay: the steps -/
abbrev sLay : Stmt := top 94
abbrev psLy : List Str := ["_law_steps_here", "_law_rows", "_law_loose"]
abbrev nmLy : List Str := ["_law_steps_here", "_law_rows", "_law_loose", "_law_step", "_law_here", "_law_number", "_law_one"]
theorem scLy : FnScope nmLy psLy (defScope sLay) := ⟨rfl, rfl, rfl, by decide +kernel, rfl, by decide +kernel, by decide +kernel⟩
/-- rows some goals of which are open -/
structure LayIn (H : Hp) (a L : Addr) (as : List Addr) (ps : List Pl) (l : List (Nat × Nat)) (hs : Nat → Nat → Prop) (g : Int) : Prop where
  rw_ : RwAt H a as ps (fun i s => hs i s ∨ (i, s) ∈ l)
  lo : LooseAt H L l
  La : L ≠ a
  Ln : L ∉ as
  h0 : ∀ i, ¬ hs i 0
  go : ∀ q ∈ l, ∃ p, ps[q.1]? = some p ∧ p.goal q.2 = some g
def spLay (n : Nat) : Sp := fun vs H Q _ => ∃ (bd a L : Addr) (as : List Addr) (ps : List Pl) (b : Bd) (j : Int) (l : List (Nat × Nat)) (hs : Nat → Nat → Prop) (xs ws rs : List Str), vs = [.ref bd, .ref a, .ref L] ∧ BdAt H bd b ∧ b.dp < n ∧ b.ok xs ws rs ∧ b.len ≤ 12 ∧ ps.length + b.sz ≤ 1000 ∧ l.length + 2 * b.sz ≤ 4000 ∧ LayIn H a L as ps l hs (begI b ps.length j) ∧
  ∀ (H' : Hp) (L' : Addr) (l' : List (Nat × Nat)) (n' : List Addr), Lays a as n' H H' → LayIn H' a L' (as ++ n') (addB ps j b) l' hs j → l'.length ≤ l.length + 2 * b.sz → Q (.ref L') H'
theorem Lays.more {a : Addr} {as m : List Addr} {H H1 H2 : Hp} {ps : List Pl} {h : Nat → Nat → Prop} (k : Lays a as [] H H1) (r : RwAt H1 a as ps h) (g : Lays a as m H1 H2) : Lays a as m H H2 := by
  have r' : RwAt H1 a (as ++ []) ps h := by rw [List.append_nil]; exact r
  have g' : Lays a (as ++ []) m H1 H2 := by rw [List.append_nil]; exact g
  have := k.trans r' g'
  rwa [List.nil_append] at this
theorem Lays.after {a : Addr} {as n : List Addr} {H H1 H2 : Hp} (k : Lays a as n H H1) (s : Same H1 H2) : Lays a as n H H2 := ⟨fun b o b1 b2 h => s _ _ (k.keep b o b1 b2 h), k.new⟩
theorem Lays.push {a e : Addr} {as : List Addr} {H : Hp} {xs ys : List V} (n : H e = none) : Lays a as [e] H (upd (upd H e (.lst xs)) a (.lst ys)) := ⟨fun b o b1 _ h => by
  rw [upd_ne b1, upd_ne (ne_of_none h n)]
  exact h, fun x hx => by rw [List.mem_singleton.mp hx]; exact n⟩
/-- a set, a say, a hear -/
def Sg.plain : Sg → Bool
  | .set _ _ => true
  | .say _ _ => true
  | .hear _ => true
  | _ => false
theorem plain_at {H : Hp} {v : V} {sg : Sg} (h : SgAt H v sg) (pl : sg.plain = true) (g : Int) : ∃ c zs p, v = .ref c ∧ H c = some (.tup zs) ∧ PlV H (zs ++ [.int g]) p ∧ p.goal zs.length = some g ∧ zs.length ≤ 3 ∧ 1 ≤ zs.length ∧ (∀ ps, addS ps g sg = ps ++ [p]) ∧ sg.sz = 1 := by
  cases sg with
  | set x e =>
    unfold SgAt at h
    obtain ⟨c, u, rfl, h1, h2⟩ := h
    exact ⟨c, _, .set x e g, rfl, h1, .set x g h2, rfl, (by show 3 ≤ 3; decide), (by show 1 ≤ 3; decide), fun ps => by unfold addS; rfl, by unfold Sg.sz; rfl⟩
  | say x e =>
    unfold SgAt at h
    obtain ⟨c, u, rfl, h1, h2⟩ := h
    exact ⟨c, _, .say x e g, rfl, h1, .say x g h2, rfl, (by show 3 ≤ 3; decide), (by show 1 ≤ 3; decide), fun ps => by unfold addS; rfl, by unfold Sg.sz; rfl⟩
  | hear x =>
    unfold SgAt at h
    obtain ⟨c, rfl, h1⟩ := h
    exact ⟨c, _, .hear x g, rfl, h1, .hear x g, rfl, (by show 2 ≤ 3; decide), (by show 1 ≤ 2; decide), fun ps => by unfold addS; rfl, by unfold Sg.sz; rfl⟩
  | call x r e => cases pl
  | ifs t a b => cases pl
  | fors e m a => cases pl
/-- what is wanted behind a step -/
def LayOut (nx : L2.St → Hp → Prop) (bd a : Addr) (v : V) (as : List Addr) (ps : List Pl) (hs : Nat → Nat → Prop) (H : Hp) (sg : Sg) (g : Int) (y4 y5 y6 : Option V) : Prop :=
  ∀ (L3 : Addr) (l3 : List (Nat × Nat)) (n3 : List Addr) (H3 : Hp), Lays a as n3 H H3 → LayIn H3 a L3 (as ++ n3) (addS ps g sg) l3 hs g → l3.length ≤ 2 * sg.sz → nx [some (.ref bd), some (.ref a), some (.ref L3), some v, y4, y5, y6] H3
abbrev blk0 : Stmt := stAt (forBody (stAt (defBody sLay) 0)) 1
abbrev blk1 : Stmt := stAt (elBody blk0) 0
abbrev blk2 : Stmt := stAt (elBody blk1) 0
section
variable {P : Program} {w : World} {K : PySem.W.Frag} {mg : Str → Option Value} {base : Heap} {f : Addr} {cdv : Value} {A : Around} {outer : List Env} {s : Shared} {H : Hp} {E : XK}
abbrev XLy (P : Program) (w : World) (K : PySem.W.Frag) (mg : Str → Option Value) (base : Heap) (f : Addr) (cdv : Value) (A : Around) (outer : List Env) (s : Shared) (H : Hp) (E : XK) : Cx := (cxOf CX0 P w K mg base nmLy "_law_lay" (defScope sLay) f cdv A outer s H E).nox
theorem lay_plain (O : Own mg) (DP : Df P w K mg base 1 "_law_patched" psPt spPat) (hr : Room 1 (XLy P w K mg base f cdv A outer s H E).A) : ∃ t, PSs (XLy P w K mg base f cdv A outer s H E) (elBody blk2) t ∧
    ∀ (D : Ends) (Hc : Hp) (bd a L : Addr) (v : V) (as : List Addr) (ps : List Pl) (l : List (Nat × Nat)) (hs : Nat → Nat → Prop) (sg : Sg) (g : Int) (y5 y6 : Option V), LayIn Hc a L as ps l hs ps.length → SgAt Hc v sg → sg.plain = true → ps.length + sg.sz ≤ 1000 → LayOut D.nx bd a v as ps hs Hc sg g (some (.int ps.length)) y5 y6 →
      t D [some (.ref bd), some (.ref a), some (.ref L), some v, some (.int ps.length), y5, y6] Hc := by
  have hs' : sizeLine = 16777216 := sizeLine_eq
  refine ⟨_, pss_cons (ps_expr (pe_D DP hr rfl (pa_cons (pv 1) (pa_cons (pv 2) (pa_cons (pv 4) pa_nil)))))
    (pss_cons (ps_expr (pe_bm PySem.F.plainAttrs_list PySem.F.slot_list_append PySem.F.type_list_append mt_append (pv 1) (pa_cons (pe_op op_cat (pe_callTy call_list_of rfl O.list (by decide +kernel) (pa_cons (pv 3) pa_nil)) (pe_lst (pa_cons pe_non pa_nil))) pa_nil)))
    (pss_one (ps_set (i := 2) scLy.nd rfl (Or.inl rfl) (pe_lst (pa_cons (pe_tup (pa_cons (pv 4) (pa_cons (pe_callB call_len_seq rfl O.len PySem.boot_len (pa_cons (pv 3) pa_nil)) pa_nil))) pa_nil))))), ?_⟩
  intro D Hc bd a L v as ps l hs sg g y5 y6 li hv pl hz out
  obtain ⟨c, zs, p, rfl, e1, e2, e3, e4, e5, e6, e7⟩ := plain_at hv pl g
  refine ⟨_, rfl, _, rfl, _, rfl, a, L, as, ps, l, hs, ps.length, rfl, li.rw_, li.lo, li.Ln, li.h0, li.go, fun H1 k1 r1 => ?_⟩
  have t1 := li.rw_.tups k1
  refine ⟨_, rfl, .inl ⟨rfl, _, SqL.of r1.lst⟩, ?_⟩
  refine ⟨_, rfl, c, zs, rfl, .inr (SqT.of (t1 _ _ e1)), fun p1 n1 => ⟨(by show 1 ≤ sizeLine; omega), fun p2 n2 => ?_⟩⟩
  have s1 := same_new n1 (.lst zs)
  have s2 := same_new n2 (.lst [.non])
  have s12 := s1.trans s2
  have r2 := r1.keep s12
  refine ⟨p1, p2, zs, [.non], rfl, rfl, s2 p1 _ upd_same, upd_same, by show zs.length + 1 ≤ sizeLine; omega, fun p3 n3 => ?_⟩
  obtain ⟨f1, f2⟩ := r2.fresh n3
  have s3 := same_new n3 (.lst (zs ++ [.non]))
  have r3 := r2.keep s3
  have e3' : upd (upd (upd H1 p1 (.lst zs)) p2 (.lst [.non])) p3 (.lst (zs ++ [.non])) p3 = some (.lst (zs ++ [.non])) := upd_same
  refine ⟨a, _, _, rfl, rfl, r3.lst, by rw [List.length_map, r1.len]; omega, ?_⟩
  have r4 := r3.push (h' := fun i s => hs i s ∨ (i, s) ∈ [(ps.length, zs.length)]) f1 f2 e3' (((e2.keep t1).keep (Same.tups s12)).keep (Same.tups s3)) (by rw [List.length_append, List.length_append]; rfl)
    (fun s ns => by
      have : s ≠ zs.length := fun q => ns (.inr (by rw [q]; exact List.mem_singleton.mpr rfl))
      by_cases c : s < zs.length
      · rw [List.getElem?_append_left c, List.getElem?_append_left c]
      · rw [List.getElem?_eq_none_iff.mpr (by rw [List.length_append]; show zs.length + 1 ≤ s; omega), List.getElem?_eq_none_iff.mpr (by rw [List.length_append]; show zs.length + 1 ≤ s; omega)])
    (fun i s z => .inl z) (fun i z => by
      rcases z with z | z
      · exact li.h0 i z
      · have := congrArg Prod.snd (List.mem_singleton.mp z)
        have : 0 = zs.length := this
        omega)
  have la : Lays a as [p3] Hc (upd (upd (upd (upd H1 p1 (.lst zs)) p2 (.lst [.non])) p3 (.lst (zs ++ [.non]))) a (.lst (as.map V.ref ++ [.ref p3]))) := (Lays.after k1.lays s12).more r2 (Lays.push n3)
  have ec : Tups H1 (upd (upd (upd (upd H1 p1 (.lst zs)) p2 (.lst [.non])) p3 (.lst (zs ++ [.non]))) a (.lst (as.map V.ref ++ [.ref p3]))) := fun b ts hb => by
    have h3 := (s12.trans s3) _ _ hb
    rw [upd_ne (ne_of h3 r3.lst (by intro z; cases z))]
    exact h3
  clear s3 r3 e3'
  generalize upd (upd (upd (upd H1 p1 (.lst zs)) p2 (.lst [.non])) p3 (.lst (zs ++ [.non]))) a (.lst (as.map V.ref ++ [.ref p3])) = H4 at *
  refine ⟨_, rfl, _, rfl, c, _, rfl, .inr (SqT.of (ec _ _ (t1 _ _ e1))), (by show 2 ≤ sizeLine; omega), fun p4 n4 => ⟨(by show 1 ≤ sizeLine; omega), fun p5 n5 => ?_⟩⟩
  have s4 := same_new n4 (.tup [.int ps.length, .int zs.length])
  have s5 := same_new n5 (.lst [.ref p4])
  obtain ⟨g1, g2⟩ := (r4.keep s4).fresh n5
  refine out p5 [(ps.length, zs.length)] [p3] _ (la.after (s4.trans s5)) ⟨?_, ⟨[p4], upd_same, .cons (s5 p4 _ upd_same) .nil⟩, g1, g2, li.h0, fun q hq => ?_⟩ (by rw [e7]; show 1 ≤ 2 * 1; decide)
  · rw [e6]
    exact r4.keep (s4.trans s5)
  · rw [List.mem_singleton.mp hq, e6]
    exact ⟨p, by simp, e3⟩
end
end Any
set_option pp.maxSteps 600
namespace Any
open L2 PySem PySem.Spec PyProof.Rows LamX NdefX
theorem Lays.put {a : Addr} {as n : List Addr} {H H1 : Hp} {o : HO} (s : Same H H1) (m : ∀ e ∈ n, H e = none) : Lays a as n H (upd H1 a o) := ⟨fun b u b1 _ h => by
  rw [upd_ne b1]
  exact s _ _ h, m⟩
theorem RwAt.push2 {H : Hp} {a e e2 : Addr} {as : List Addr} {ps : List Pl} {h h' : Nat → Nat → Prop} {xs ys xs2 ys2 : List V} {p p2 : Pl} (r : RwAt H a as ps h) (ea : e ≠ a) (en : e ∉ as) (ea2 : e2 ≠ a) (en2 : e2 ∉ as) (ee : e2 ≠ e) (he : H e = some (.lst xs)) (he2 : H e2 = some (.lst xs2)) (pv : PlV H ys p) (pv2 : PlV H ys2 p2) (hl : xs.length = ys.length) (hl2 : xs2.length = ys2.length)
    (ag : ∀ s, ¬ h' ps.length s → xs[s]? = ys[s]?) (ag2 : ∀ s, ¬ h' (ps.length + 1) s → xs2[s]? = ys2[s]?) (m : ∀ i s, h i s → h' i s) (z : ∀ i, ¬ h' i 0) : RwAt (upd H a (.lst (as.map V.ref ++ [.ref e, .ref e2]))) a (as ++ [e, e2]) (ps ++ [p] ++ [p2]) h' := by
  have r1 := r.push (h' := h') ea en he pv hl ag m z
  have t : Tups H (upd H a (.lst (as.map V.ref ++ [.ref e]))) := fun b zs hb => by
    rw [upd_ne (ne_of hb r.lst (by intro z; cases z))]
    exact hb
  have r2 := r1.push (e := e2) (h' := h') (xs := xs2) (ys := ys2) (p := p2) ea2 (fun q => by
    rcases List.mem_append.mp q with q | q
    · exact en2 q
    · exact ee (List.mem_singleton.mp q)) (by rw [upd_ne ea2]; exact he2) (pv2.keep t) hl2 (fun s ns => ag2 s (by rw [List.length_append] at ns; exact ns)) (fun _ _ q => q) z
  rw [upd_upd, List.map_append, List.append_assoc, List.append_assoc] at r2
  exact r2
section
variable {P : Program} {w : World} {K : PySem.W.Frag} {mg : Str → Option Value} {base : Heap} {f : Addr} {cdv : Value} {A : Around} {outer : List Env} {s : Shared} {H : Hp} {E : XK}
theorem lay_call (O : Own mg) (DP : Df P w K mg base 1 "_law_patched" psPt spPat) (hr : Room 1 (XLy P w K mg base f cdv A outer s H E).A) : ∃ t, PSs (XLy P w K mg base f cdv A outer s H E) (ifBody blk2) t ∧
    ∀ (D : Ends) (Hc : Hp) (bd a L : Addr) (v : V) (as : List Addr) (ps : List Pl) (l : List (Nat × Nat)) (hs : Nat → Nat → Prop) (x r : Str) (e : Ex) (g : Int) (y5 y6 : Option V), LayIn Hc a L as ps l hs ps.length → SgAt Hc v (.call x r e) → ps.length + 3 ≤ 1000 → LayOut D.nx bd a v as ps hs Hc (.call x r e) g (some (.int ps.length)) y5 y6 →
      t D [some (.ref bd), some (.ref a), some (.ref L), some v, some (.int ps.length), y5, y6] Hc := by
  have hs' : sizeLine = 16777216 := sizeLine_eq
  refine ⟨_, pss_cons (ps_expr (pe_D DP hr rfl (pa_cons (pv 1) (pa_cons (pv 2) (pa_cons (pv 4) pa_nil)))))
    (pss_cons (ps_expr (pe_bm PySem.F.plainAttrs_list PySem.F.slot_list_append PySem.F.type_list_append mt_append (pv 1) (pa_cons (pe_op op_cat (pe_op op_cat (pe_lst (pa_cons pe_str pa_nil)) (pe_callTy call_list_of rfl O.list (by decide +kernel) (pa_cons (pe_slice sl_tup (pv 3) (po_some pe_int) po_none) pa_nil)))
        (pe_lst (pa_cons (pe_op op_add (pv 4) pe_int) (pa_cons (pe_op op_add (pv 4) pe_int) pa_nil)))) pa_nil)))
    (pss_cons (ps_expr (pe_bm PySem.F.plainAttrs_list PySem.F.slot_list_extend PySem.F.type_list_extend mt_extend (pv 1) (pa_cons (pe_lst (pa_cons (pe_lst (pa_cons pe_str (pa_cons (pe_ix ix_tup (pv 3) pe_int (fun _ _ => rfl)) (pa_cons pe_non pa_nil)))) (pa_cons (pe_lst (pa_cons pe_str (pa_cons (pe_ix ix_tup (pv 3) pe_int (fun _ _ => rfl)) (pa_cons (pv 4) pa_nil)))) pa_nil))) pa_nil)))
    (pss_one (ps_set (i := 2) scLy.nd rfl (Or.inl rfl) (pe_lst (pa_cons (pe_tup (pa_cons (pe_op op_add (pv 4) pe_int) (pa_cons pe_int pa_nil))) pa_nil)))))), ?_⟩
  intro D Hc bd a L v as ps l hs x r e g y5 y6 li hv hz out
  unfold SgAt at hv
  obtain ⟨c, u, rfl, e1, e2⟩ := hv
  refine ⟨_, rfl, _, rfl, _, rfl, a, L, as, ps, l, hs, ps.length, rfl, li.rw_, li.lo, li.Ln, li.h0, li.go, fun H1 k1 r1 => ?_⟩
  have t1 := li.rw_.tups k1
  have c1 := t1 _ _ e1
  have u1 := e2.keep t1
  refine ⟨_, rfl, .inl ⟨rfl, _, SqL.of r1.lst⟩, ?_⟩
  refine ⟨(by show 1 ≤ sizeLine; omega), fun p1 n1 => ?_⟩
  have s1 := same_new n1 (.lst [.str "ask"])
  refine ⟨_, rfl, 1, rfl, c, _, rfl, SqT.of (s1 _ _ c1), (by show ¬ (1 = 0 ∧ _); omega), fun p2 n2 => ?_⟩
  rw [cut1]
  have s2 := same_new n2 (.tup [.str x, .str r, u])
  refine ⟨p2, _, rfl, .inr (SqT.of upd_same), fun p3 n3 => ?_⟩
  have s3 := same_new n3 (.lst [.str x, .str r, u])
  refine ⟨p1, p3, _, _, rfl, rfl, (s2.trans s3) p1 _ upd_same, upd_same, by show 1 + 3 ≤ sizeLine; omega, fun p4 n4 => ?_⟩
  have s4 := same_new n4 (.lst ([.str "ask"] ++ [.str x, .str r, u]))
  refine ⟨_, rfl, _, _, rfl, rfl, _, rfl, _, _, rfl, rfl, (by show 2 ≤ sizeLine; omega), fun p5 n5 => ?_⟩
  have s5 := same_new n5 (.lst [.int (ps.length + 1), .int (ps.length + 2)])
  have s15 := s1.trans (s2.trans (s3.trans (s4.trans s5)))
  have r5 := r1.keep s15
  refine ⟨p4, p5, _, _, rfl, rfl, s5 p4 _ upd_same, upd_same, by show 4 + 2 ≤ sizeLine; omega, fun p6 n6 => ?_⟩
  obtain ⟨f1, f2⟩ := r5.fresh n6
  have s6 := same_new n6 (.lst (([.str "ask"] ++ [.str x, .str r, u]) ++ [.int (ps.length + 1), .int (ps.length + 2)]))
  have r6 := r5.keep s6
  have c6 := (s15.trans s6) _ _ c1
  have u6 := u1.keep (Same.tups (s15.trans s6))
  have k5 : Lays a as [] Hc _ := Lays.after k1.lays s15
  have e6 := @upd_same (upd (upd (upd (upd (upd H1 p1 (.lst [.str "ask"])) p2 (.tup [.str x, .str r, u])) p3 (.lst [.str x, .str r, u])) p4 (.lst ([.str "ask"] ++ [.str x, .str r, u]))) p5 (.lst [.int (ps.length + 1), .int (ps.length + 2)])) p6 (.lst (([.str "ask"] ++ [.str x, .str r, u]) ++ [.int (ps.length + 1), .int (ps.length + 2)]))
  refine ⟨a, _, _, rfl, rfl, r6.lst, by rw [List.length_map, r1.len]; omega, ?_⟩
  have r7 := r6.push (h' := hs) (ys := [.str "ask", .str x, .str r, u, .int (ps.length + 1), .int (ps.length + 2)]) f1 f2 e6 (.ask x r (ps.length + 1) (ps.length + 2) u6) rfl (fun s ns => rfl) (fun i s z => z) li.h0
  have k7 : Lays a as [p6] Hc _ := k5.more r5 (Lays.put (o := .lst (as.map V.ref ++ [.ref p6])) s6 (fun e he => by rw [List.mem_singleton.mp he]; exact n6))
  have c7 : upd (upd (upd (upd (upd (upd (upd H1 p1 (.lst [.str "ask"])) p2 (.tup [.str x, .str r, u])) p3 (.lst [.str x, .str r, u])) p4 (.lst ([.str "ask"] ++ [.str x, .str r, u]))) p5 (.lst [.int (ps.length + 1), .int (ps.length + 2)])) p6 (.lst (([.str "ask"] ++ [.str x, .str r, u]) ++ [.int (ps.length + 1), .int (ps.length + 2)]))) a (.lst (as.map V.ref ++ [.ref p6])) c = some (.tup [.str "call", .str x, .str r, u]) := by
    rw [upd_ne (ne_of c6 r6.lst (by intro z; cases z))]
    exact c6
  clear e6 s6 s15 s5 s4 s3 s2 s1 r6 r5 c6 u6 k5
  generalize upd (upd (upd (upd (upd (upd (upd H1 p1 (.lst [.str "ask"])) p2 (.tup [.str x, .str r, u])) p3 (.lst [.str x, .str r, u])) p4 (.lst ([.str "ask"] ++ [.str x, .str r, u]))) p5 (.lst [.int (ps.length + 1), .int (ps.length + 2)])) p6 (.lst (([.str "ask"] ++ [.str x, .str r, u]) ++ [.int (ps.length + 1), .int (ps.length + 2)]))) a (.lst (as.map V.ref ++ [.ref p6])) = H7 at *
  refine ⟨_, rfl, .inl ⟨rfl, _, SqL.of r7.lst⟩, ?_⟩
  refine ⟨_, rfl, c, _, _, _, rfl, rfl, SqT.of c7, atI_nat (j := 2) rfl, (by show 3 ≤ sizeLine; omega), fun q1 m1 => ?_⟩
  have v1 := same_new m1 (.lst [.str "clear", .str r, .non])
  refine ⟨_, rfl, c, _, _, _, rfl, rfl, SqT.of (v1 _ _ c7), atI_nat (j := 2) rfl, _, rfl, (by show 3 ≤ sizeLine; omega), fun q2 m2 => ⟨(by show 2 ≤ sizeLine; omega), fun q3 m3 => ?_⟩⟩
  have v2 := same_new m2 (.lst [.str "again", .str r, .int ps.length])
  have v3 := same_new m3 (.lst [.ref q1, .ref q2])
  have v23 := v2.trans v3
  have v13 := v1.trans v23
  obtain ⟨g1, g2⟩ := r7.fresh m1
  obtain ⟨g3, g4⟩ := r7.fresh (v1.free m2)
  have ne21 : q2 ≠ q1 := fun z => by rw [z, upd_same] at m2; cases m2
  have r9 := r7.keep v13
  refine ⟨a, q3, _, _, rfl, rfl, r9.lst, upd_same, by rw [List.length_map, List.length_append, r1.len]; show ps.length + 1 + 2 ≤ sizeLine; omega, ?_⟩
  have ra := r9.push2 (h' := fun i s => hs i s ∨ (i, s) ∈ [(ps.length + 1, 2)]) (ys := [.str "clear", .str r, .int g]) (ys2 := [.str "again", .str r, .int ps.length]) g1 g2 g3 g4 ne21 (v23 q1 _ upd_same) (v3 q2 _ upd_same) (.clear r g) (.again r ps.length) rfl rfl
    (fun s ns => by
      match s with
      | 0 => rfl
      | 1 => rfl
      | 2 => exact absurd (.inr (by rw [List.length_append]; exact List.mem_singleton.mpr rfl)) ns
      | k + 3 => rfl)
    (fun s ns => rfl) (fun i s z => .inl z) (fun i z => by
      rcases z with z | z
      · exact li.h0 i z
      · exact absurd (congrArg Prod.snd (List.mem_singleton.mp z)) (show ¬ ((0 : Nat) = 2) by decide))
  have ka := k7.trans r7 (Lays.put (o := .lst ((as ++ [p6]).map V.ref ++ [.ref q1, .ref q2])) v13 (n := [q1, q2]) (fun e he => by
    rcases List.mem_cons.mp he with z | z
    · rw [z]; exact m1
    · rw [List.mem_singleton.mp z]; exact v1.free m2))
  clear r9
  generalize upd (upd (upd (upd H7 q1 (.lst [.str "clear", .str r, .non])) q2 (.lst [.str "again", .str r, .int ps.length])) q3 (.lst [.ref q1, .ref q2])) a (.lst ((as ++ [p6]).map V.ref ++ [.ref q1, .ref q2])) = Ha at *
  refine ⟨_, rfl, _, _, rfl, rfl, (by show 2 ≤ sizeLine; omega), fun w4 o4 => ⟨(by show 1 ≤ sizeLine; omega), fun w5 o5 => ?_⟩⟩
  have x4 := same_new o4 (.tup [.int (ps.length + 1), .int 2])
  have x5 := same_new o5 (.lst [.ref w4])
  rw [List.append_assoc] at ra
  obtain ⟨y1, y2⟩ := (ra.keep x4).fresh o5
  refine out w5 [(ps.length + 1, 2)] ([p6] ++ [q1, q2]) _ (ka.after (x4.trans x5)) ⟨?_, ⟨[w4], upd_same, .cons (x5 w4 _ upd_same) .nil⟩, y1, y2, li.h0, fun q hq => ?_⟩ (by unfold Sg.sz; show 1 ≤ 2 * 3; decide)
  · unfold addS
    exact ra.keep (x4.trans x5)
  · rw [List.mem_singleton.mp hq]
    unfold addS
    exact ⟨.clear r g, by simp, rfl⟩
end
end Any
set_option pp.maxSteps 600
namespace Any
open L2 PySem PySem.Spec PyProof.Rows LamX NdefX
section
variable {P : Program} {w : World} {K : PySem.W.Frag} {mg : Str → Option Value} {base : Heap} {f : Addr} {cdv : Value} {A : Around} {outer : List Env} {s : Shared} {H : Hp} {E : XK} {n k : Nat}
theorem lay_for (O : Own mg) (DP : Df P w K mg base 1 "_law_patched" psPt spPat) (DG : Df P w K mg base k "_law_lay" psLy (spLay n)) (hk : 1 ≤ k) (hr : Room k (XLy P w K mg base f cdv A outer s H E).A) : ∃ t, PSs (XLy P w K mg base f cdv A outer s H E) (ifBody blk1) t ∧
    ∀ (D : Ends) (Hc : Hp) (bd a L : Addr) (v : V) (as : List Addr) (ps : List Pl) (l : List (Nat × Nat)) (hs : Nat → Nat → Prop) (e : Ex) (m : Int) (p : Bd) (g : Int) (y6 : Option V) (xs ws rs : List Str), LayIn Hc a L as ps l hs ps.length → SgAt Hc v (.fors e m p) → p.dp < n → p.ok xs ws rs → p.len ≤ 12 → ps.length + (2 + p.sz) ≤ 1000 →
      LayOut D.nx bd a v as ps hs Hc (.fors e m p) g (some (.int ps.length)) (some (.int (fors ps))) y6 →
      t D [some (.ref bd), some (.ref a), some (.ref L), some v, some (.int ps.length), some (.int (fors ps)), y6] Hc := by
  have hs' : sizeLine = 16777216 := sizeLine_eq
  have hr1 := hr.mono hk
  refine ⟨_, pss_cons (ps_expr (pe_D DP hr1 rfl (pa_cons (pv 1) (pa_cons (pv 2) (pa_cons (pv 4) pa_nil)))))
    (pss_cons (ps_expr (pe_bm PySem.F.plainAttrs_list PySem.F.slot_list_extend PySem.F.type_list_extend mt_extend (pv 1) (pa_cons (pe_lst (pa_cons (pe_lst (pa_cons pe_str (pa_cons (pv 5) (pa_cons (pe_ix ix_tup (pv 3) pe_int (fun _ _ => rfl)) (pa_cons (pe_ix ix_tup (pv 3) pe_int (fun _ _ => rfl)) (pa_cons (pe_op op_add (pv 4) pe_int) pa_nil))))))
        (pa_cons (pe_lst (pa_cons pe_str (pa_cons (pv 5) (pa_cons pe_non (pa_cons pe_non pa_nil))))) pa_nil))) pa_nil)))
    (pss_cons (ps_expr (pe_D DP hr1 rfl (pa_cons (pv 1) (pa_cons (pe_D DG hr rfl (pa_cons (pe_ix ix_tup (pv 3) pe_int (fun _ _ => rfl)) (pa_cons (pv 1) (pa_cons (pe_lst (pa_cons (pe_tup (pa_cons (pe_op op_add (pv 4) pe_int) (pa_cons pe_int pa_nil))) pa_nil)) pa_nil)))) (pa_cons (pe_op op_add (pv 4) pe_int) pa_nil)))))
    (pss_one (ps_set (i := 2) scLy.nd rfl (Or.inl rfl) (pe_lst (pa_cons (pe_tup (pa_cons (pe_op op_add (pv 4) pe_int) (pa_cons pe_int pa_nil))) pa_nil)))))), ?_⟩
  intro D Hc bd a L v as ps l hs e m p g y6 xs ws rs li hv hpd hpo hpl hz out
  unfold SgAt at hv
  obtain ⟨c, u, pb, us, rfl, e1, e2, e3, e4⟩ := hv
  refine ⟨_, rfl, _, rfl, _, rfl, a, L, as, ps, l, hs, ps.length, rfl, li.rw_, li.lo, li.Ln, li.h0, li.go, fun H1 k1 r1 => ?_⟩
  have t1 := li.rw_.tups k1
  have c1 := t1 _ _ e1
  have u1 := e2.keep t1
  have b1 : BdAt H1 pb p := ⟨us, t1 _ _ e3, BdL.keep t1 p e4⟩
  refine ⟨_, rfl, .inl ⟨rfl, _, SqL.of r1.lst⟩, ?_⟩
  refine ⟨_, rfl, _, rfl, c, _, _, _, rfl, rfl, SqT.of c1, atI_nat (j := 1) rfl, _, rfl, c, _, _, _, rfl, rfl, SqT.of c1, atI_nat (j := 2) rfl, _, rfl, _, _, rfl, rfl, (by show 5 ≤ sizeLine; omega), fun q1 m1 => ⟨_, rfl, (by show 4 ≤ sizeLine; omega), fun q2 m2 => ⟨(by show 2 ≤ sizeLine; omega), fun q3 m3 => ?_⟩⟩⟩
  have v1 := same_new m1 (.lst [.str "for", .int (fors ps), u, .int m, .int (ps.length + 1)])
  have v2 := same_new m2 (.lst [.str "check", .int (fors ps), .non, .non])
  have v3 := same_new m3 (.lst [.ref q1, .ref q2])
  have v23 := v2.trans v3
  have v13 := v1.trans v23
  obtain ⟨g1, g2⟩ := r1.fresh m1
  obtain ⟨g3, g4⟩ := r1.fresh (v1.free m2)
  have ne21 : q2 ≠ q1 := fun z => by rw [z, upd_same] at m2; cases m2
  have r9 := r1.keep v13
  refine ⟨a, q3, _, _, rfl, rfl, r9.lst, upd_same, by rw [List.length_map, r1.len]; show ps.length + 2 ≤ sizeLine; omega, ?_⟩
  have no3 : ∀ i : Nat, (i, 0) ∉ [(ps.length + 1, 3)] := fun i z => absurd (congrArg Prod.snd (List.mem_singleton.mp z)) (show ¬ ((0 : Nat) = 3) by decide)
  have no2 : ∀ i : Nat, (i, 0) ∉ [(ps.length + 1, 2)] := fun i z => absurd (congrArg Prod.snd (List.mem_singleton.mp z)) (show ¬ ((0 : Nat) = 2) by decide)
  have ra := r9.push2 (h' := fun i s => (hs i s ∨ (i, s) ∈ [(ps.length + 1, 3)]) ∨ (i, s) ∈ [(ps.length + 1, 2)]) (ys := [.str "for", .int (fors ps), u, .int m, .int (ps.length + 1)]) (ys2 := [.str "check", .int (fors ps), .int (begI p (ps.length + 1 + 1) (ps.length + 1)), .int g])
    g1 g2 g3 g4 ne21 (v23 q1 _ upd_same) (v3 q2 _ upd_same) (.forp (fors ps) m (ps.length + 1) (u1.keep (Same.tups v13))) (.chk _ _ _) rfl rfl (fun s ns => rfl)
    (fun s ns => by
      match s with
      | 0 => rfl
      | 1 => rfl
      | 2 => exact absurd (.inr (List.mem_singleton.mpr rfl)) ns
      | 3 => exact absurd (.inl (.inr (List.mem_singleton.mpr rfl))) ns
      | k + 4 => rfl)
    (fun i s z => .inl (.inl z)) (fun i z => by
      rcases z with (z | z) | z
      · exact li.h0 i z
      · exact no3 i z
      · exact no2 i z)
  have ka := (k1.lays (a := a)).more r1 (Lays.put (o := .lst (as.map V.ref ++ [.ref q1, .ref q2])) v13 (n := [q1, q2]) (fun e he => by
    rcases List.mem_cons.mp he with z | z
    · rw [z]; exact m1
    · rw [List.mem_singleton.mp z]; exact v1.free m2))
  have ta : Tups H1 (upd (upd (upd (upd H1 q1 (.lst [.str "for", .int (fors ps), u, .int m, .int (ps.length + 1)])) q2 (.lst [.str "check", .int (fors ps), .non, .non])) q3 (.lst [.ref q1, .ref q2])) a (.lst (as.map V.ref ++ [.ref q1, .ref q2]))) := fun b zs hb => by
    have hb := v13 _ _ hb
    rw [upd_ne (ne_of hb r9.lst (by intro z; cases z))]
    exact hb
  clear r9 v1 v2 v3 v23 v13
  generalize upd (upd (upd (upd H1 q1 (.lst [.str "for", .int (fors ps), u, .int m, .int (ps.length + 1)])) q2 (.lst [.str "check", .int (fors ps), .non, .non])) q3 (.lst [.ref q1, .ref q2])) a (.lst (as.map V.ref ++ [.ref q1, .ref q2])) = Ha at *
  refine ⟨_, rfl, _, rfl, c, _, _, _, rfl, rfl, SqT.of (ta _ _ c1), atI_nat (j := 3) rfl, _, rfl, _, rfl, _, _, rfl, rfl, (by show 2 ≤ sizeLine; omega), fun w4 o4 => ⟨(by show 1 ≤ sizeLine; omega), fun w5 o5 => ?_⟩⟩
  have x4 := same_new o4 (.tup [.int (ps.length + 1), .int 2])
  have x5 := same_new o5 (.lst [.ref w4])
  have x45 := x4.trans x5
  obtain ⟨y1, y2⟩ := (ra.keep x4).fresh o5
  have l2 : (ps ++ [Pl.forp (fors ps) e m (ps.length + 1)] ++ [Pl.chk (fors ps) (begI p (ps.length + 1 + 1) (ps.length + 1)) g]).length = ps.length + 2 := by
    rw [List.length_append, List.length_append, List.length_singleton, List.length_singleton]
  have at1 : (ps ++ [Pl.forp (fors ps) e m (ps.length + 1)] ++ [Pl.chk (fors ps) (begI p (ps.length + 1 + 1) (ps.length + 1)) g])[ps.length + 1]? = some (Pl.chk (fors ps) (begI p (ps.length + 1 + 1) (ps.length + 1)) g) := by simp
  refine ⟨pb, a, w5, as ++ [q1, q2], _, p, (ps.length : Int) + 1, [(ps.length + 1, 2)], fun i s => hs i s ∨ (i, s) ∈ [(ps.length + 1, 3)], xs, ws, rs, rfl, b1.keep (fun b zs hb => (Same.tups x45) _ _ (ta _ _ hb)), hpd, hpo, hpl, by rw [l2]; omega, by show 1 + 2 * p.sz ≤ 4000; omega,
    ⟨ra.keep x45, ⟨[w4], upd_same, .cons (x5 w4 _ upd_same) .nil⟩, y1, y2, fun i z => ?_, fun q hq => ?_⟩, fun H2 L2 l' n' la li2 hl2 => ?_⟩
  · rcases z with z | z
    · exact li.h0 i z
    · exact no3 i z
  · rw [List.mem_singleton.mp hq]
    refine ⟨_, at1, ?_⟩
    rw [l2]
    show some (begI p ((ps.length : Int) + 1 + 1) (ps.length + 1)) = some (begI p ((ps.length + 2 : Nat) : Int) (ps.length + 1))
    rw [show ((ps.length + 2 : Nat) : Int) = (ps.length : Int) + 1 + 1 by omega]
  refine ⟨_, rfl, _, _, rfl, rfl, a, L2, _, _, l', fun i s => hs i s ∨ (i, s) ∈ [(ps.length + 1, 3)], _, rfl, li2.rw_, li2.lo, li2.Ln, li2.h0, li2.go, fun H3 k3 r3 => ?_⟩
  have k2 : Lays a as [q1, q2] Hc _ := Lays.after ka x45
  have kb := k2.trans (ra.keep x45) la
  have r2' := li2.rw_
  rw [List.append_assoc] at r2' r3 k3
  have kc := kb.trans r2' k3.lays
  rw [List.append_nil] at kc
  refine ⟨_, rfl, _, _, rfl, rfl, (by show 2 ≤ sizeLine; omega), fun z4 o6 => ⟨(by show 1 ≤ sizeLine; omega), fun z5 o7 => ?_⟩⟩
  have x6 := same_new o6 (.tup [.int (ps.length + 1), .int 3])
  have x7 := same_new o7 (.lst [.ref z4])
  have x67 := x6.trans x7
  obtain ⟨y3, y4⟩ := (r3.keep x6).fresh o7
  refine out z5 [(ps.length + 1, 3)] ([q1, q2] ++ n') _ (kc.after x67) ⟨?_, ⟨[z4], upd_same, .cons (x7 z4 _ upd_same) .nil⟩, y3, y4, li.h0, fun q hq => ?_⟩ (by unfold Sg.sz; show 1 ≤ 2 * (2 + p.sz); omega)
  · unfold addS
    exact r3.keep x67
  · rw [List.mem_singleton.mp hq]
    unfold addS
    exact ⟨_, addB_at _ _ _ at1, rfl⟩
theorem lay_if (O : Own mg) (DP : Df P w K mg base 1 "_law_patched" psPt spPat) (DG : Df P w K mg base k "_law_lay" psLy (spLay n)) (hk : 1 ≤ k) (hr : Room k (XLy P w K mg base f cdv A outer s H E).A) : ∃ t, PSs (XLy P w K mg base f cdv A outer s H E) (ifBody blk0) t ∧
    ∀ (D : Ends) (Hc : Hp) (bd a L : Addr) (v : V) (as : List Addr) (ps : List Pl) (l : List (Nat × Nat)) (hs : Nat → Nat → Prop) (tt_ : Ts) (p q : Bd) (g : Int) (y5 y6 : Option V) (xs ws rs : List Str), LayIn Hc a L as ps l hs ps.length → SgAt Hc v (.ifs tt_ p q) → p.dp < n → p.ok xs ws rs → p.len ≤ 12 → q.dp < n → q.ok xs ws rs → q.len ≤ 12 → ps.length + (1 + p.sz + q.sz) ≤ 1000 →
      LayOut D.nx bd a v as ps hs Hc (.ifs tt_ p q) g (some (.int ps.length)) y5 y6 →
      t D [some (.ref bd), some (.ref a), some (.ref L), some v, some (.int ps.length), y5, y6] Hc := by
  have hs' : sizeLine = 16777216 := sizeLine_eq
  have hr1 := hr.mono hk
  refine ⟨_, pss_cons (ps_expr (pe_D DP hr1 rfl (pa_cons (pv 1) (pa_cons (pv 2) (pa_cons (pv 4) pa_nil)))))
    (pss_cons (ps_expr (pe_bm PySem.F.plainAttrs_list PySem.F.slot_list_append PySem.F.type_list_append mt_append (pv 1) (pa_cons (pe_lst (pa_cons pe_str (pa_cons (pe_ix ix_tup (pv 3) pe_int (fun _ _ => rfl)) (pa_cons pe_non (pa_cons pe_non pa_nil))))) pa_nil)))
    (pss_cons (ps_set (i := 2) scLy.nd rfl (Or.inl rfl) (pe_D DG hr rfl (pa_cons (pe_ix ix_tup (pv 3) pe_int (fun _ _ => rfl)) (pa_cons (pv 1) (pa_cons (pe_lst (pa_cons (pe_tup (pa_cons (pv 4) (pa_cons pe_int pa_nil))) pa_nil)) pa_nil)))))
    (pss_one (ps_set (i := 2) scLy.nd rfl (Or.inl rfl) (pe_op op_cat (pv 2) (pe_D DG hr rfl (pa_cons (pe_ix ix_tup (pv 3) pe_int (fun _ _ => rfl)) (pa_cons (pv 1) (pa_cons (pe_lst (pa_cons (pe_tup (pa_cons (pv 4) (pa_cons pe_int pa_nil))) pa_nil)) pa_nil))))))))), ?_⟩
  intro D Hc bd a L v as ps l hs tt_ p q g y5 y6 xs ws rs li hv hpd hpo hpl hqd hqo hql hz out
  unfold SgAt at hv
  obtain ⟨c, u, pb, pc, us, vs2, rfl, e1, e2, e3, e4, e5, e6⟩ := hv
  refine ⟨_, rfl, _, rfl, _, rfl, a, L, as, ps, l, hs, ps.length, rfl, li.rw_, li.lo, li.Ln, li.h0, li.go, fun H1 k1 r1 => ?_⟩
  have t1 := li.rw_.tups k1
  have c1 := t1 _ _ e1
  have u1 := e2.keep t1
  have b1 : BdAt H1 pb p := ⟨us, t1 _ _ e3, BdL.keep t1 p e4⟩
  have b2 : BdAt H1 pc q := ⟨vs2, t1 _ _ e5, BdL.keep t1 q e6⟩
  refine ⟨_, rfl, .inl ⟨rfl, _, SqL.of r1.lst⟩, ?_⟩
  refine ⟨_, rfl, c, _, _, _, rfl, rfl, SqT.of c1, atI_nat (j := 1) rfl, (by show 4 ≤ sizeLine; omega), fun q1 m1 => ?_⟩
  have v1 := same_new m1 (.lst [.str "if", u, .non, .non])
  obtain ⟨g1, g2⟩ := r1.fresh m1
  have r9 := r1.keep v1
  refine ⟨a, _, _, rfl, rfl, r9.lst, by rw [List.length_map, r1.len]; omega, ?_⟩
  have no3 : ∀ i : Nat, (i, 0) ∉ [(ps.length, 3)] := fun i z => absurd (congrArg Prod.snd (List.mem_singleton.mp z)) (show ¬ ((0 : Nat) = 3) by decide)
  have no2 : ∀ i : Nat, (i, 0) ∉ [(ps.length, 2)] := fun i z => absurd (congrArg Prod.snd (List.mem_singleton.mp z)) (show ¬ ((0 : Nat) = 2) by decide)
  have ra := r9.push (h' := fun i s => (hs i s ∨ (i, s) ∈ [(ps.length, 3)]) ∨ (i, s) ∈ [(ps.length, 2)]) (ys := [.str "if", u, .int (begI p (ps.length + 1) g), .int (begI q (ps.length + 1 + p.sz) g)]) g1 g2 (@upd_same H1 q1 (.lst [.str "if", u, .non, .non])) (.ifp _ _ (u1.keep (Same.tups v1))) rfl
    (fun s ns => by
      match s with
      | 0 => rfl
      | 1 => rfl
      | 2 => exact absurd (.inr (List.mem_singleton.mpr rfl)) ns
      | 3 => exact absurd (.inl (.inr (List.mem_singleton.mpr rfl))) ns
      | k + 4 => rfl)
    (fun i s z => .inl (.inl z)) (fun i z => by
      rcases z with (z | z) | z
      · exact li.h0 i z
      · exact no3 i z
      · exact no2 i z)
  have ka := (k1.lays (a := a)).more r1 (Lays.put (o := .lst (as.map V.ref ++ [.ref q1])) v1 (n := [q1]) (fun e he => by rw [List.mem_singleton.mp he]; exact m1))
  have ta : Tups H1 (upd (upd H1 q1 (.lst [.str "if", u, .non, .non])) a (.lst (as.map V.ref ++ [.ref q1]))) := fun b zs hb => by
    have hb := v1 _ _ hb
    rw [upd_ne (ne_of hb r9.lst (by intro z; cases z))]
    exact hb
  clear r9 v1
  generalize upd (upd H1 q1 (.lst [.str "if", u, .non, .non])) a (.lst (as.map V.ref ++ [.ref q1])) = Ha at *
  -- the first body
  refine ⟨_, rfl, c, _, _, _, rfl, rfl, SqT.of (ta _ _ c1), atI_nat (j := 2) rfl, _, rfl, _, rfl, (by show 2 ≤ sizeLine; omega), fun w4 o4 => ⟨(by show 1 ≤ sizeLine; omega), fun w5 o5 => ?_⟩⟩
  have x4 := same_new o4 (.tup [.int ps.length, .int 2])
  have x5 := same_new o5 (.lst [.ref w4])
  have x45 := x4.trans x5
  obtain ⟨y1, y2⟩ := (ra.keep x4).fresh o5
  have l0 : (ps ++ [Pl.ifp tt_ (begI p (ps.length + 1) g) (begI q (ps.length + 1 + p.sz) g)]).length = ps.length + 1 := by rw [List.length_append, List.length_singleton]
  have at0 : (ps ++ [Pl.ifp tt_ (begI p (ps.length + 1) g) (begI q (ps.length + 1 + p.sz) g)])[ps.length]? = some (Pl.ifp tt_ (begI p (ps.length + 1) g) (begI q (ps.length + 1 + p.sz) g)) := by simp
  have tb : Tups H1 _ := fun b zs hb => (Same.tups x45) _ _ (ta b zs hb)
  refine ⟨pb, a, w5, as ++ [q1], _, p, g, [(ps.length, 2)], fun i s => hs i s ∨ (i, s) ∈ [(ps.length, 3)], xs, ws, rs, rfl, b1.keep tb, hpd, hpo, hpl, by rw [l0]; omega, by show 1 + 2 * p.sz ≤ 4000; omega, ⟨ra.keep x45, ⟨[w4], upd_same, .cons (x5 w4 _ upd_same) .nil⟩, y1, y2, fun i z => ?_, fun z hq => ?_⟩, fun H2 L2 l1 n1 la li2 hl2 => ?_⟩
  · rcases z with z | z
    · exact li.h0 i z
    · exact no3 i z
  · rw [List.mem_singleton.mp hq]
    refine ⟨_, at0, ?_⟩
    rw [l0]
    rfl
  have k2 : Lays a as [q1] Hc _ := Lays.after ka x45
  have kb := k2.trans (ra.keep x45) la
  have t2 : Tups H1 H2 := fun b zs hb => la.tups (ra.keep x45) _ _ (tb _ _ hb)
  -- the second body
  refine ⟨_, rfl, _, rfl, c, _, _, _, rfl, rfl, SqT.of (t2 _ _ c1), atI_nat (j := 3) rfl, _, rfl, _, rfl, (by show 2 ≤ sizeLine; omega), fun z4 o6 => ⟨(by show 1 ≤ sizeLine; omega), fun z5 o7 => ?_⟩⟩
  have x6 := same_new o6 (.tup [.int ps.length, .int 3])
  have x7 := same_new o7 (.lst [.ref z4])
  have x67 := x6.trans x7
  obtain ⟨y3, y4⟩ := (li2.rw_.keep x6).fresh o7
  have l1' : (addB (ps ++ [Pl.ifp tt_ (begI p (ps.length + 1) g) (begI q (ps.length + 1 + p.sz) g)]) g p).length = ps.length + 1 + p.sz := by rw [addB_len, l0]
  have no1 : ∀ i : Nat, (i, 0) ∉ l1 := fun i z => li2.rw_.h0 i (.inr z)
  have rb : RwAt H2 a ((as ++ [q1]) ++ n1) (addB (ps ++ [Pl.ifp tt_ (begI p (ps.length + 1) g) (begI q (ps.length + 1 + p.sz) g)]) g p) (fun i s => (hs i s ∨ (i, s) ∈ l1) ∨ (i, s) ∈ [(ps.length, 3)]) := li2.rw_.mono (fun i s z => by
    rcases z with (z | z) | z
    · exact .inl (.inl z)
    · exact .inr z
    · exact .inl (.inr z)) (fun i z => by
    rcases z with (z | z) | z
    · exact li.h0 i z
    · exact no1 i z
    · exact no3 i z)
  refine ⟨pc, a, z5, (as ++ [q1]) ++ n1, _, q, g, [(ps.length, 3)], fun i s => hs i s ∨ (i, s) ∈ l1, xs, ws, rs, rfl, (b2.keep t2).keep (Same.tups x67), hqd, hqo, hql, by rw [l1']; omega, by show 1 + 2 * q.sz ≤ 4000; omega, ⟨rb.keep x67, ⟨[z4], upd_same, .cons (x7 z4 _ upd_same) .nil⟩, y3, y4, fun i z => ?_, fun z hq => ?_⟩, fun H3 L3 l2 n2 lb li3 hl3 => ?_⟩
  · rcases z with z | z
    · exact li.h0 i z
    · exact no1 i z
  · rw [List.mem_singleton.mp hq]
    refine ⟨_, addB_at _ _ _ at0, ?_⟩
    rw [l1']
    show some (begI q ((ps.length : Int) + 1 + p.sz) g) = some (begI q ((ps.length + 1 + p.sz : Nat) : Int) g)
    rw [show ((ps.length + 1 + p.sz : Nat) : Int) = (ps.length : Int) + 1 + p.sz by omega]
  have k67 : Lays a ((as ++ [q1]) ++ n1) [] H2 _ := Lays.same x67
  have r2' := li2.rw_
  have lo1 := ((li2.lo.keep k67 li2.rw_ li2.La li2.Ln).keep lb (rb.keep x67) li2.La li2.Ln)
  obtain ⟨ts1, d1, d2⟩ := lo1
  obtain ⟨ts2, d3, d4⟩ := li3.lo
  have hl1' : l1.length ≤ 1 + 2 * p.sz := hl2
  have hl2' : l2.length ≤ 1 + 2 * q.sz := hl3
  have pl1 := paired_len d2
  have pl2 := paired_len d4
  refine ⟨L2, L3, _, _, rfl, rfl, d1, d3, by rw [List.length_map, List.length_map]; omega, fun z6 o8 => ?_⟩
  have x8 := same_new o8 (.lst (ts1.map V.ref ++ ts2.map V.ref))
  have r3' := li3.rw_
  obtain ⟨y5', y6'⟩ := r3'.fresh o8
  have lc : Lays a ((as ++ [q1]) ++ n1) n2 H2 H3 := k67.more (rb.keep x67) lb
  have e3 : ((as ++ [q1]) ++ n1) ++ n2 = as ++ (([q1] ++ n1) ++ n2) := by rw [List.append_assoc, List.append_assoc, List.append_assoc]
  have e4' : (as ++ [q1]) ++ n1 = as ++ ([q1] ++ n1) := List.append_assoc ..
  rw [e3] at r3' y6'
  rw [e4'] at lc rb
  have kd := kb.trans rb lc
  refine out z6 (l1 ++ l2) (([q1] ++ n1) ++ n2) _ (kd.after x8) ⟨?_, ⟨ts1 ++ ts2, by rw [upd_same, List.map_append], paired_app (paired_imp (fun _ _ y => x8 _ _ y) d2) (paired_imp (fun _ _ y => x8 _ _ y) d4)⟩, y5', y6', li.h0, fun z hq => ?_⟩ (by unfold Sg.sz; rw [List.length_append]; omega)
  · unfold addS
    refine (r3'.keep x8).mono (fun i s z => ?_) (fun i z => ?_)
    · rcases z with (z | z) | z
      · exact .inl z
      · exact .inr (List.mem_append.mpr (.inl z))
      · exact .inr (List.mem_append.mpr (.inr z))
    · rcases z with z | z
      · exact li.h0 i z
      · rcases List.mem_append.mp z with z | z
        · exact no1 i z
        · exact li3.rw_.h0 i (.inr z)
  · unfold addS
    rcases List.mem_append.mp hq with hq | hq
    · obtain ⟨pp, w1, w2⟩ := li2.go z hq
      exact ⟨pp, addB_at _ _ _ w1, w2⟩
    · exact li3.go z hq
end
end Any
set_option pp.maxSteps 600
namespace Any
open L2 PySem PySem.Spec PyProof.Rows LamX NdefX
theorem sz_cons (s : Sg) (r : Bd) : (Bd.cons s r).sz = s.sz + r.sz := by rw [Bd.sz]
theorem no_lay {P : Program} {w : World} {K : PySem.W.Frag} {mg : Str → Option Value} {base : Heap} {f : Addr} {fd : FuncData} {k : Nat} : FnOk P w K mg base CX0 k f fd psLy (spLay 0) := by
  have no : ∀ vs H Q E, ¬ spLay 0 vs H Q E := fun vs H Q E h => by
    obtain ⟨bd, a, L, as, ps, b, j, l, hs, xs, ws, rs, _, _, hd, _⟩ := h
    omega
  exact ⟨fun vs H Q E h => absurd h (no vs H Q E), fun A outer s H args us vs Q E _ _ _ _ h => absurd h (no vs H Q E)⟩
section
variable {P : Program} {w : World} {K : PySem.W.Frag} {mg : Str → Option Value} {base : Heap} {f : Addr} {fd : FuncData} {n k : Nat}
set_option maxHeartbeats 2000000 in
theorem ok_lay (O : Own mg) (F : Fun K "_law_lay" "_law_lay" sLay f fd) (DP : Df P w K mg base 1 "_law_patched" psPt spPat) (DG : Df P w K mg base k "_law_lay" psLy (spLay n)) (hk : 1 ≤ k) : FnOk P w K mg base CX0 (k + 1) f fd psLy (spLay (n + 1)) := by
  refine F.ok scLy (fun vs H Q E h => ?_) (fun cdv A outer s H vs Q E hr h => ?_)
  · obtain ⟨bd, a, L, as, ps, b, j, l, hs, xs, ws, rs, rfl, _⟩ := h
    rfl
  obtain ⟨bd, a, L, as, ps, b, j, l, hs, xs, ws, rs, rfl, ⟨us, hus, hbl⟩, hd, ho, hlen, hz, hz2, li, q⟩ := h
  have hs' : sizeLine = 16777216 := sizeLine_eq
  obtain ⟨tI, htI, leafI⟩ := lay_if (f := f) (cdv := cdv) (A := A) (outer := outer) (s := s) (H := H) (E := E) O DP DG hk hr
  obtain ⟨tF, htF, leafF⟩ := lay_for (f := f) (cdv := cdv) (A := A) (outer := outer) (s := s) (H := H) (E := E) O DP DG hk hr
  obtain ⟨tC, htC, leafC⟩ := lay_call (f := f) (cdv := cdv) (A := A) (outer := outer) (s := s) (H := H) (E := E) O DP (hr.mono hk)
  obtain ⟨tP, htP, leafP⟩ := lay_plain (f := f) (cdv := cdv) (A := A) (outer := outer) (s := s) (H := H) (E := E) O DP (hr.mono hk)
  refine ⟨_, pss_cons (ps_for PassesOwn.never rfl (pi_tup (pv 0)) (pg_name (i := 3) scLy.nd rfl (Or.inl rfl))
      (pss_cons (ps_par (i := 4) (j := 5) (by rfl) scLy.nd rfl rfl (by decide) rfl rfl (pa_cons (pe_callB call_len_seq rfl O.len PySem.boot_len (pa_cons (pv 1) pa_nil)) (pa_cons (pe_callB call_len_seq rfl O.len PySem.boot_len (pa_cons (pe_lc (own := [("_law_one", 6)]) (g := gName 6) rfl scLy.nd (pi_list (pv 1)) (blkOk_by (N := nmLy) (sc := defScope sLay) (by decide +kernel))
          (fun _ _ _ _ _ => pg_name (i := 6) scLy.nd rfl (Or.inl rfl)) (fun _ _ _ _ _ => pts_one (pt_cmpR op_eq (pe_ix (show IxR _ (rIxL K) from ix_list) (pv 6) pe_int (fun _ _ => rfl)) pe_str (nomark _))) (fun _ _ _ _ _ => pv 6)) pa_nil)) pa_nil)) (by rfl))
      (pss_one (ps_if (pt_cmpR op_eq (pe_ix ix_tup (pv 3) pe_int (fun _ _ => rfl)) pe_str (nomark _)) htI
        (pss_one (ps_if (pt_cmpR op_eq (pe_ix ix_tup (pv 3) pe_int (fun _ _ => rfl)) pe_str (nomark _)) htF
          (pss_one (ps_if (pt_cmpR op_eq (pe_ix ix_tup (pv 3) pe_int (fun _ _ => rfl)) pe_str (nomark _)) htC htP))))))))
    (pss_one (ps_ret (pv 2))), ?_⟩
  refine ⟨_, rfl, bd, rfl, ⟨_, SqT.of hus⟩, ?_⟩
  refine for_tup (K := K) (a := bd) (xs := us) (fun i σ Hc => ∃ (L2 : Addr) (l2 : List (Nat × Nat)) (n2 : List Addr) (ps2 : List Pl) (r : Bd) (y3 y4 y5 y6 : Option V), σ = [some (.ref bd), some (.ref a), some (.ref L2), y3, y4, y5, y6] ∧ BdL Hc (us.drop i) r ∧ r.dp < n + 1 ∧ r.ok xs ws rs ∧ addB ps2 j r = addB ps j b ∧
    ps2.length + r.sz = ps.length + b.sz ∧ LayIn Hc a L2 (as ++ n2) ps2 l2 hs (begI r ps2.length j) ∧ Lays a as n2 H Hc ∧ l2.length + 2 * r.sz ≤ l.length + 2 * b.sz) ⟨L, l, [], ps, b, none, none, none, none, rfl, hbl, hd, ho, rfl, rfl, by rw [List.append_nil]; exact li, .refl, Nat.le_refl _⟩ ?_ ?_ ?_
  · rintro i σ Hc _ ⟨L2, l2, n2, ps2, r, y3, y4, y5, y6, rfl, _, _, _, _, _, _, la, _⟩
    exact SqT.of (la.tups li.rw_ _ _ hus)
  · rintro i v σ Hc hv ⟨L2, l2, n2, ps2, r, y3, y4, y5, y6, rfl, g1, g2, g3, g4, g5, g6, g7, g8⟩
    have dr : us.drop i = v :: us.drop (i + 1) := by
      obtain ⟨lt, ee⟩ := List.getElem?_eq_some_iff.mp hv
      rw [← ee]
      exact List.drop_eq_getElem_cons lt
    rw [dr] at g1
    cases r with
    | nil =>
      unfold BdL at g1
      cases g1
    | cons sg r =>
      unfold BdL at g1
      obtain ⟨v', us', e9, hsg, hr'⟩ := g1
      cases e9
      unfold Bd.dp at g2
      unfold Bd.ok at g3
      rw [sz_cons] at g5 g8
      rw [addB_cons] at g4
      have g6 : LayIn Hc a L2 (as ++ n2) ps2 l2 hs ps2.length := g6
      have r6 := g6.rw_
      refine ⟨_, rfl, a, _, rfl, .inl (SqL.of r6.lst), ?_⟩
      rw [List.length_map, r6.len]
      refine ⟨_, rfl, a, rfl, ⟨_, SqL.of r6.lst⟩, fun C nC => ?_⟩
      refine turns_list (K := K) (a := a) (xs := (as ++ n2).map V.ref) (forH (as ++ n2) ps2) nC (fun Hd sm => SqL.of (sm _ _ r6.lst)) (by rw [forH_len r6.len, List.length_map]) (by rw [List.length_map, r6.len]; omega) ?_ ?_
      · intro i' z o Hd Y N hz' ho' sm hY hN
        obtain ⟨e, he, rfl⟩ := refs_at hz'
        obtain ⟨p, hp⟩ : ∃ p, ps2[i']? = some p := ⟨_, List.getElem?_eq_getElem (by rw [← r6.len]; exact (List.getElem?_eq_some_iff.mp he).1)⟩
        have eo := forH_at he hp ho'
        obtain ⟨zs, ys, f1, f2, f3, f4⟩ := r6.at_ i' e p he hp
        have z0 : zs[0]? = some (.str p.word) := (f4 0 (r6.h0 i')).trans f2.word
        refine ⟨rfl, _, rfl, e, zs, _, _, rfl, rfl, SqL.of (sm _ _ f1), atI_nat (j := 0) z0, rfl, _, rfl, ?_⟩
        rw [Pl.word_for]
        cases e8 : p.isFor with
        | true =>
          rw [e8, if_pos rfl] at eo
          exact itT rfl ⟨_, rfl, hY _ eo Hd same_refl⟩
        | false =>
          rw [e8, if_neg (by decide)] at eo
          exact itF rfl (hN eo Hd same_refl)
      intro H1 hC s1
      refine ⟨C, _, rfl, .inl (SqL.of hC), _, _, rfl, ?_⟩
      rw [forH_fm r6.len]
      have k1 : Lays a (as ++ n2) [] Hc H1 := Lays.same s1
      have in1 : LayIn H1 a L2 (as ++ n2) ps2 l2 hs ps2.length := ⟨r6.keep s1, by
        obtain ⟨ts, d1, d2⟩ := g6.lo
        exact ⟨ts, s1 _ _ d1, paired_imp (fun _ _ y => s1 _ _ y) d2⟩, g6.La, g6.Ln, g6.h0, g6.go⟩
      have hsg1 := SgAt.keep (Same.tups s1) sg hsg
      have hr1 := BdL.keep (Same.tups s1) r hr'
      have out : ∀ (D : Ends) (nx : _root_.L2.St → Hp → Prop), (∀ σ' H', (∃ (L2 : Addr) (l2 : List (Nat × Nat)) (n2 : List Addr) (ps2 : List Pl) (r : Bd) (y3 y4 y5 y6 : Option V), σ' = [some (.ref bd), some (.ref a), some (.ref L2), y3, y4, y5, y6] ∧ BdL H' (us.drop (i + 1)) r ∧ r.dp < n + 1 ∧ r.ok xs ws rs ∧ addB ps2 j r = addB ps j b ∧
          ps2.length + r.sz = ps.length + b.sz ∧ LayIn H' a L2 (as ++ n2) ps2 l2 hs (begI r ps2.length j) ∧ Lays a as n2 H H' ∧ l2.length + 2 * r.sz ≤ l.length + 2 * b.sz) → nx σ' H') →
          ∀ y4 y5 y6, LayOut nx bd a v (as ++ n2) ps2 hs H1 sg (begI r (ps2.length + sg.sz) j) y4 y5 y6 := by
        intro D nx hnx y4 y5 y6 L3 l3 n3 H3 la li3 hl3
        refine hnx _ _ ⟨L3, l3, n2 ++ n3, addS ps2 (begI r (ps2.length + sg.sz) j) sg, r, _, _, _, _, rfl, BdL.keep (la.tups in1.rw_) r hr1, by omega, g3.2, g4, by rw [addS_len]; omega, ?_, g7.trans g6.rw_ (k1.more in1.rw_ la), by omega⟩
        rw [← List.append_assoc, addS_len]
        exact li3
      have n4 : ps2.length + sg.sz ≤ 1000 := by omega
      cases sg with
      | ifs t p q' =>
        have keep := hsg1
        unfold SgAt at hsg1
        obtain ⟨c, u, pb, pc, bs, cs_, rfl, h1, _⟩ := hsg1
        have o3 := g3.1
        unfold Sg.ok at o3
        unfold Sg.dp at g2
        refine ⟨_, rfl, c, _, _, _, rfl, rfl, SqT.of h1, atI_nat (j := 0) rfl, rfl, _, rfl, itT eq_str ?_⟩
        exact leafI _ H1 bd a L2 (.ref c) (as ++ n2) ps2 l2 hs t p q' _ _ _ xs ws rs in1 keep (by omega) o3.2.1.1 o3.2.1.2 (by omega) o3.2.2.1 o3.2.2.2 (by unfold Sg.sz at n4; omega) (out { nx := fun _ _ => True, rt := fun _ _ => True } _ (fun _ _ h => h) _ _ _)
      | fors e m p =>
        have keep := hsg1
        unfold SgAt at hsg1
        obtain ⟨c, u, pb, bs, rfl, h1, _⟩ := hsg1
        have o3 := g3.1
        unfold Sg.ok at o3
        unfold Sg.dp at g2
        refine ⟨_, rfl, c, _, _, _, rfl, rfl, SqT.of h1, atI_nat (j := 0) rfl, rfl, _, rfl, itF (ne_str (by decide)) ⟨_, rfl, c, _, _, _, rfl, rfl, SqT.of h1, atI_nat (j := 0) rfl, rfl, _, rfl, itT eq_str ?_⟩⟩
        exact leafF _ H1 bd a L2 (.ref c) (as ++ n2) ps2 l2 hs e m p _ _ xs ws rs in1 keep (by omega) o3.2.2.1 o3.2.2.2 (by unfold Sg.sz at n4; omega) (out { nx := fun _ _ => True, rt := fun _ _ => True } _ (fun _ _ h => h) _ _ _)
      | call x r' e =>
        have keep := hsg1
        unfold SgAt at hsg1
        obtain ⟨c, u, rfl, h1, _⟩ := hsg1
        refine ⟨_, rfl, c, _, _, _, rfl, rfl, SqT.of h1, atI_nat (j := 0) rfl, rfl, _, rfl, itF (ne_str (by decide)) ⟨_, rfl, c, _, _, _, rfl, rfl, SqT.of h1, atI_nat (j := 0) rfl, rfl, _, rfl, itF (ne_str (by decide)) ⟨_, rfl, c, _, _, _, rfl, rfl, SqT.of h1, atI_nat (j := 0) rfl, rfl, _, rfl, itT eq_str ?_⟩⟩⟩
        exact leafC _ H1 bd a L2 (.ref c) (as ++ n2) ps2 l2 hs x r' e _ _ _ in1 keep (by unfold Sg.sz at n4; omega) (out { nx := fun _ _ => True, rt := fun _ _ => True } _ (fun _ _ h => h) _ _ _)
      | set x e =>
        have keep := hsg1
        unfold SgAt at hsg1
        obtain ⟨c, u, rfl, h1, _⟩ := hsg1
        refine ⟨_, rfl, c, _, _, _, rfl, rfl, SqT.of h1, atI_nat (j := 0) rfl, rfl, _, rfl, itF (ne_str (by decide)) ⟨_, rfl, c, _, _, _, rfl, rfl, SqT.of h1, atI_nat (j := 0) rfl, rfl, _, rfl, itF (ne_str (by decide)) ⟨_, rfl, c, _, _, _, rfl, rfl, SqT.of h1, atI_nat (j := 0) rfl, rfl, _, rfl, itF (ne_str (by decide)) ?_⟩⟩⟩
        exact leafP _ H1 bd a L2 (.ref c) (as ++ n2) ps2 l2 hs (.set x e) _ _ _ in1 keep rfl n4 (out { nx := fun _ _ => True, rt := fun _ _ => True } _ (fun _ _ h => h) _ _ _)
      | say x e =>
        have keep := hsg1
        unfold SgAt at hsg1
        obtain ⟨c, u, rfl, h1, _⟩ := hsg1
        refine ⟨_, rfl, c, _, _, _, rfl, rfl, SqT.of h1, atI_nat (j := 0) rfl, rfl, _, rfl, itF (ne_str (by decide)) ⟨_, rfl, c, _, _, _, rfl, rfl, SqT.of h1, atI_nat (j := 0) rfl, rfl, _, rfl, itF (ne_str (by decide)) ⟨_, rfl, c, _, _, _, rfl, rfl, SqT.of h1, atI_nat (j := 0) rfl, rfl, _, rfl, itF (ne_str (by decide)) ?_⟩⟩⟩
        exact leafP _ H1 bd a L2 (.ref c) (as ++ n2) ps2 l2 hs (.say x e) _ _ _ in1 keep rfl n4 (out { nx := fun _ _ => True, rt := fun _ _ => True } _ (fun _ _ h => h) _ _ _)
      | hear x =>
        have keep := hsg1
        unfold SgAt at hsg1
        obtain ⟨c, rfl, h1⟩ := hsg1
        refine ⟨_, rfl, c, _, _, _, rfl, rfl, SqT.of h1, atI_nat (j := 0) rfl, rfl, _, rfl, itF (ne_str (by decide)) ⟨_, rfl, c, _, _, _, rfl, rfl, SqT.of h1, atI_nat (j := 0) rfl, rfl, _, rfl, itF (ne_str (by decide)) ⟨_, rfl, c, _, _, _, rfl, rfl, SqT.of h1, atI_nat (j := 0) rfl, rfl, _, rfl, itF (ne_str (by decide)) ?_⟩⟩⟩
        exact leafP _ H1 bd a L2 (.ref c) (as ++ n2) ps2 l2 hs (.hear x) _ _ _ in1 keep rfl n4 (out { nx := fun _ _ => True, rt := fun _ _ => True } _ (fun _ _ h => h) _ _ _)
  · rintro σ Hc ⟨L2, l2, n2, ps2, r, y3, y4, y5, y6, rfl, g1, g2, g3, g4, g5, g6, g7, g8⟩
    rw [List.drop_length] at g1
    cases r with
    | cons sg r =>
      unfold BdL at g1
      obtain ⟨v', us', e9, _⟩ := g1
      cases e9
    | nil =>
      rw [addB_nil] at g4
      subst g4
      exact ⟨_, rfl, q Hc L2 l2 n2 g7 g6 (by omega)⟩
/-- bodies that stand within one another n deep -/
theorem all_lay (O : Own mg) (N : Nd K mg "_law_lay" sLay psLy) (DP : Df P w K mg base 1 "_law_patched" psPt spPat) : ∀ n, Df P w K mg base (n + 1) "_law_lay" psLy (spLay n) := by
  obtain ⟨f, fd, hm, F, hb⟩ := N
  intro n
  induction n with
  | zero => exact ⟨f, fd, hm, F.kp, no_lay, hb⟩
  | succ n ih => exact ⟨f, fd, hm, F.kp, ok_lay O F DP ih (by omega), hb⟩
end
end Any
set_option pp.maxSteps 600
namespace Any
open L2 PySem PySem.Spec PyProof.Rows LamX NdefX
/-! ### _law_places -/
abbrev sLPl : Stmt := top 95
abbrev nmPl : List Str := ["_law_some", "_law_rows", "_law_loose", "_law_row"]
theorem scPl : FnScope nmPl ["_law_some"] (defScope sLPl) := ⟨rfl, rfl, rfl, by decide +kernel, rfl, by decide +kernel, by decide +kernel⟩
def spLPl : Sp := fun vs H Q _ => ∃ a r, vs = [.ref a] ∧ EightAt H a r ∧ r.lays ∧ ∀ p H', H p = none → Same H H' → FoundAt H' p r.places → Q (.ref p) H'
def rTupOf (K : PySem.W.Frag) : List V → Hp → VK → Prop := fun xs H Q => ∃ p ys, xs = [V.ref p] ∧ ((SqL K H p ys ∧ ∀ l, H l = none → Q (.ref l) (upd H l (.tup ys))) ∨ SqT K H p ys ∧ Q (.ref p) H)
/-- rows without open goals are places -/
theorem LiAt.closed {H : Hp} {e : Addr} {p : Pl} {h : Nat → Prop} (z : LiAt H e p h) (n : ∀ s, ¬ h s) : ∃ ys, H e = some (.lst ys) ∧ PlV H ys p := by
  obtain ⟨xs, ys, h1, h2, h3, h4⟩ := z
  have e : xs = ys := List.ext_getElem? fun s => h4 s (n s)
  rw [e] at h1
  exact ⟨ys, h1, h2⟩
section
variable {P : Program} {w : World} {K : PySem.W.Frag} {mg : Str → Option Value} {base : Heap} {f : Addr} {fd : FuncData}
set_option maxHeartbeats 2000000 in
theorem ok_lpl (O : Own mg) (F : Fun K "_law_places" "_law_places" sLPl f fd) (DP : Df P w K mg base 1 "_law_patched" psPt spPat) (DG : Df P w K mg base 6 "_law_lay" psLy (spLay 5)) : FnOk P w K mg base CX0 7 f fd ["_law_some"] spLPl := by
  refine F.ok scPl (fun vs H Q E h => ?_) (fun cdv A outer s H vs Q E hr h => ?_)
  · obtain ⟨a, r, rfl, _⟩ := h
    rfl
  obtain ⟨x, r, rfl, ⟨n, ab, b, s', k, t, p, y, hx, hp⟩, ⟨⟨xs, ws, rs, ho⟩, hl, hd, hz, ht⟩, q⟩ := h
  have ha := hp.above
  subst ha
  obtain ⟨c, rfl, hc⟩ := hp.body
  have hs' : sizeLine = 16777216 := sizeLine_eq
  have hr1 := hr.mono (show 1 ≤ 6 by decide)
  -- the rows become tuples
  obtain ⟨tE, htE, leafE⟩ : ∃ tE, PSs (cxOf CX0 P w K mg base nmPl "_law_places" (defScope sLPl) f cdv A outer s H E).nox ((defBody sLPl).drop 3) tE ∧
      ∀ (H1 : Hp) (a : Addr) (as : List Addr) (ps : List Pl) (z2 z3 : Option V), Same H H1 → RwAt H1 a as ps (fun _ _ => False) → ps.length ≤ 1000 → r.places = ps → tE { nx := fun _ H' => Q .non H', rt := Q } [some (.ref x), some (.ref a), z2, z3] H1 := by
    refine ⟨_, pss_one (ps_ret (pe_lc (own := [("_law_row", 3)]) (g := gName 3) (tt := tYes) rfl scPl.nd (pi_list (pv 1)) (blkOk_by (N := nmPl) (sc := defScope sLPl) (by decide +kernel))
        (fun _ _ _ _ _ => pg_name (i := 3) scPl.nd rfl (Or.inl rfl)) (fun _ _ _ _ _ => pts_nil) (fun _ _ _ _ _ => pe_callTy (show CallR _ (.type "tuple") (rTupOf K) from call_tuple_of) rfl O.tuple (by decide +kernel) (pa_cons (pv 3) pa_nil)))), ?_⟩
    intro H1 a as ps z2 z3 s1 r1 hps ep
    refine ⟨_, rfl, a, rfl, ⟨_, SqL.of r1.lst⟩, fun D nD => ?_⟩
    refine lc_list (K := K) (a := a) (xs := as.map V.ref) (fun i Hc => ∃ us : List V, Hc D = some (.lst us) ∧ Paired (PlAt Hc) us (ps.take i) ∧ Same H1 Hc) ⟨[], upd_same, .nil, same_new nD _⟩ ?_ ?_ ?_
    · rintro i Hc _ ⟨us, _, _, sm⟩
      exact SqL.of (sm _ _ r1.lst)
    · rintro i v Hc hv ⟨us, u1, u2, sm⟩
      obtain ⟨e, he, rfl⟩ := refs_at hv
      have il : i < ps.length := by rw [← r1.len]; exact (List.getElem?_eq_some_iff.mp he).1
      obtain ⟨pl, hpl⟩ : ∃ pl, ps[i]? = some pl := ⟨_, List.getElem?_eq_getElem il⟩
      obtain ⟨ys, y1, y2⟩ := (r1.at_ i e pl he hpl).closed fun s z => z
      have lu := paired_len u2
      rw [List.length_take] at lu
      refine ⟨rfl, _, rfl, e, ys, rfl, .inl ⟨SqL.of (sm _ _ y1), fun w nw => ?_⟩⟩
      have sw := same_new nw (.tup ys)
      have tL : Tups (upd Hc w (.tup ys)) (upd (upd Hc w (.tup ys)) D (.lst (us ++ [.ref w]))) := fun b zs hb => by
        rw [upd_ne (ne_of hb (sw _ _ u1) (by intro z; cases z))]
        exact hb
      refine ⟨us, sw _ _ u1, by omega, us ++ [.ref w], upd_same, ?_, fun b o hb => ?_⟩
      · rw [List.take_add_one, hpl]
        exact paired_snoc (paired_imp (fun _ _ z => (z.keep (Same.tups sw)).keep tL) u2) (PlAt.keep tL (((y2.keep (Same.tups sm)).keep (Same.tups sw)).pl upd_same))
      · rw [upd_ne (ne_of_none hb nD)]
        exact sw _ _ (sm _ _ hb)
    · rintro Hc ⟨us, u1, u2, sm⟩
      rw [List.length_map, r1.len, List.take_length] at u2
      refine q D Hc (s1.free nD) (s1.trans sm) ⟨us, u1, ?_⟩
      rw [ep]
      exact u2
  refine ⟨_, pss_cons (ps_set (i := 1) scPl.nd rfl (Or.inl rfl) (pe_lst (pa_cons (pe_lst (pa_cons pe_str (pa_cons pe_non pa_nil))) pa_nil)))
    (pss_cons (ps_set (i := 2) scPl.nd rfl (Or.inl rfl) (pe_D DG hr rfl (pa_cons (pe_ix ix_tup (pv 0) pe_int (fun _ _ => rfl)) (pa_cons (pv 1) (pa_cons (pe_lst (pa_cons (pe_tup (pa_cons pe_int (pa_cons pe_int pa_nil))) pa_nil)) pa_nil)))))
    (pss_cons (ps_if (pt_cmpR op_eq (pe_ix ix_tup (pv 0) pe_int (fun _ _ => rfl)) pe_str (nomark _))
      (pss_one (ps_expr (pe_D DP hr1 rfl (pa_cons (pv 1) (pa_cons (pv 2) (pa_cons pe_int pa_nil))))))
      (pss_cons (ps_expr (pe_D DP hr1 rfl (pa_cons (pv 1) (pa_cons (pv 2) (pa_cons (pe_callB call_len_seq rfl O.len PySem.boot_len (pa_cons (pv 1) pa_nil)) pa_nil)))))
      (pss_one (ps_expr (pe_bm PySem.F.plainAttrs_list PySem.F.slot_list_extend PySem.F.type_list_extend mt_extend (pv 1) (pa_cons (pe_lst (pa_cons (pe_lst (pa_cons pe_str (pa_cons (pe_ix ix_tup (pe_ix ix_tup (pv 0) pe_int (fun _ _ => rfl)) pe_int (fun _ _ => rfl)) (pa_cons (pe_ix ix_tup (pe_ix ix_tup (pv 0) pe_int (fun _ _ => rfl)) pe_int (fun _ _ => rfl)) (pa_cons (pe_op op_add (pe_callB call_len_seq rfl O.len PySem.boot_len (pa_cons (pv 1) pa_nil)) pe_int) pa_nil)))))
          (pa_cons (pe_lst (pa_cons pe_str (pa_cons pe_int pa_nil))) pa_nil))) pa_nil)))))) htE)), ?_⟩
  refine ⟨(by show 2 ≤ sizeLine; omega), fun q0 n0 => ⟨(by show 1 ≤ sizeLine; omega), fun a na => ?_⟩⟩
  have s0 := same_new n0 (.lst [.str "home", .non])
  have sa := same_new na (.lst [.ref q0])
  have s0a := s0.trans sa
  have q0a : q0 ≠ a := fun z => by rw [← z, upd_same] at na; cases na
  have r0 : RwAt (upd (upd H q0 (.lst [.str "home", .non])) a (.lst [.ref q0])) a [q0] [.home (begI r.body 1 r.behind)] (fun i s => False ∨ (i, s) ∈ [(0, 1)]) := by
    refine ⟨upd_same, rfl, by simp, fun z => q0a (List.mem_singleton.mp z).symm, fun i z => ?_, fun i e pl he hpl => ?_⟩
    · rcases z with z | z
      · exact z
      · exact absurd (congrArg Prod.snd (List.mem_singleton.mp z)) (show ¬ ((0 : Nat) = 1) by decide)
    · cases i with
      | succ i => simp at he
      | zero =>
        cases he
        cases hpl
        refine ⟨_, [.str "home", .int (begI r.body 1 r.behind)], sa q0 _ upd_same, .home _, rfl, fun s ns => ?_⟩
        match s with
        | 0 => rfl
        | 1 => exact absurd (.inr (List.mem_singleton.mpr rfl)) ns
        | k + 2 => rfl
  have na0 : H a = none := s0.free na
  clear sa
  generalize upd (upd H q0 (.lst [.str "home", .non])) a (.lst [.ref q0]) = H1 at *
  refine ⟨_, rfl, x, _, _, _, rfl, rfl, SqT.of (s0a _ _ hx), atI_nat (j := 7) rfl, _, rfl, (by show 2 ≤ sizeLine; omega), fun w4 o4 => ⟨(by show 1 ≤ sizeLine; omega), fun w5 o5 => ?_⟩⟩
  have x4 := same_new o4 (.tup [.int 0, .int 1])
  have x5 := same_new o5 (.lst [.ref w4])
  have x45 := x4.trans x5
  obtain ⟨y1, y2⟩ := (r0.keep x4).fresh o5
  refine ⟨c, a, w5, [q0], _, r.body, r.behind, [(0, 1)], fun _ _ => False, xs, ws, rs, rfl, hc.keep (Same.tups (s0a.trans x45)), by omega, ho, hl, by show 1 + r.body.sz ≤ 1000; omega, by show 1 + 2 * r.body.sz ≤ 4000; omega, ⟨r0.keep x45, ⟨[w4], upd_same, .cons (x5 w4 _ upd_same) .nil⟩, y1, y2, fun _ z => z, fun z hq => ?_⟩, fun H2 L2 l' n' la li hl' => ?_⟩
  · rw [List.mem_singleton.mp hq]
    exact ⟨_, rfl, rfl⟩
  have k2 : Lays a [q0] [] H1 _ := Lays.same x45
  have k3 := k2.more (r0.keep x45) la
  have out : ∀ {b : Addr} {o : HO}, H b = some o → b ≠ a ∧ b ∉ [q0] := fun h => ⟨ne_of_none h na0, fun z => by rw [List.mem_singleton.mp z, n0] at h; cases h⟩
  have s2 : Same H H2 := fun b o h => k3.keep b o (out h).1 (out h).2 (s0a _ _ h)
  have lens : (addB [Pl.home (begI r.body 1 r.behind)] r.behind r.body).length = 1 + r.body.sz := by rw [addB_len]; rfl
  refine ⟨_, rfl, x, _, _, _, rfl, rfl, SqT.of (s2 _ _ hx), atI_nat (j := 1) rfl, rfl, _, rfl, itD (fun c1 => ?_) (fun c1 => ?_)⟩
  · have c1 : r.above = "" := V.str.inj c1
    have bz : r.behind = 0 := if_pos c1
    refine ⟨_, rfl, _, rfl, a, L2, _, _, l', fun _ _ => False, 0, rfl, li.rw_, li.lo, li.Ln, li.h0, by rw [← bz]; exact li.go, fun H3 k4 r4 => ?_⟩
    have k5 := k3.trans li.rw_ (k4.lays (a := a))
    refine leafE H3 a _ _ _ _ (fun b o h => k5.keep b o (out h).1 (out h).2 (s0a _ _ h)) r4 (by rw [lens]; omega) ?_
    unfold Rm.places
    rw [if_pos c1]
  · have c1 : r.above ≠ "" := fun z => c1 (by rw [z])
    have bz : r.behind = r.body.sz + 1 := if_neg c1
    have ll : (([q0] ++ n').map V.ref).length = r.body.sz + 1 := by rw [List.length_map, li.rw_.len, lens]; omega
    refine ⟨_, rfl, _, rfl, _, rfl, a, _, rfl, .inl (SqL.of li.rw_.lst), ?_⟩
    rw [ll]
    refine ⟨a, L2, _, _, l', fun _ _ => False, r.behind, by rw [bz]; rfl, li.rw_, li.lo, li.Ln, li.h0, li.go, fun H3 k4 r4 => ?_⟩
    have k5 := k3.trans li.rw_ (k4.lays (a := a))
    have s3 : Same H H3 := fun b o h => k5.keep b o (out h).1 (out h).2 (s0a _ _ h)
    obtain ⟨i, e, et⟩ := ht c1
    have h2t := hp.told
    rw [et] at h2t
    obtain ⟨u, v, rfl, hu, hv⟩ := h2t
    have hx3 := s3 _ _ hx
    have hu3 := s3 _ _ hu
    refine ⟨_, rfl, .inl ⟨rfl, _, SqL.of r4.lst⟩, ?_⟩
    refine ⟨_, rfl, x, _, _, _, rfl, rfl, SqT.of hx3, atI_nat (j := 5) rfl, u, _, _, _, rfl, rfl, SqT.of hu3, atI_nat (j := 0) rfl, ?_⟩
    refine ⟨_, rfl, x, _, _, _, rfl, rfl, SqT.of hx3, atI_nat (j := 5) rfl, u, _, _, _, rfl, rfl, SqT.of hu3, atI_nat (j := 1) rfl, ?_⟩
    refine ⟨_, rfl, a, _, rfl, .inl (SqL.of r4.lst), ?_⟩
    rw [ll]
    refine ⟨_, _, rfl, rfl, (by show 4 ≤ sizeLine; omega), fun q1 m1 => ⟨(by show 2 ≤ sizeLine; omega), fun q2 m2 => ⟨(by show 2 ≤ sizeLine; omega), fun q3 m3 => ?_⟩⟩⟩
    have v1 := same_new m1 (.lst [.str "tell", .int i, v, .int (((r.body.sz + 1 : Nat) : Int) + 1)])
    have v2 := same_new m2 (.lst [.str "told", .int 0])
    have v3 := same_new m3 (.lst [.ref q1, .ref q2])
    have v23 := v2.trans v3
    have v13 := v1.trans v23
    obtain ⟨g1, g2⟩ := r4.fresh m1
    obtain ⟨g3, g4⟩ := r4.fresh (v1.free m2)
    have ne21 : q2 ≠ q1 := fun z => by rw [z, upd_same] at m2; cases m2
    have r9 := r4.keep v13
    refine ⟨a, q3, _, _, rfl, rfl, r9.lst, upd_same, by rw [ll]; show r.body.sz + 1 + 2 ≤ sizeLine; omega, ?_⟩
    have ra := r9.push2 (h' := fun _ _ => False) (ys := [.str "tell", .int i, v, .int (r.behind + 1)]) (ys2 := [.str "told", .int 0]) g1 g2 g3 g4 ne21 (v23 q1 _ upd_same) (v3 q2 _ upd_same) (.tell i (r.behind + 1) (hv.keep (Same.tups (s3.trans v13)))) (.told 0) rfl rfl
      (fun s ns => by rw [bz]; rfl) (fun s ns => rfl) (fun i s z => z) (fun i z => z)
    refine leafE _ a _ _ _ _ (fun b o h => ?_) ra (by rw [List.length_append, List.length_append, lens, List.length_singleton, List.length_singleton]; omega) ?_
    · rw [upd_ne (out h).1]
      exact v13 _ _ (s3 _ _ h)
    · unfold Rm.places
      rw [if_neg c1, et]
end
end Any
set_option pp.maxSteps 600
set_option maxHeartbeats 4000000
namespace Any
open L2 PySem PySem.Spec PyProof.Rows
/-! ### t * 0, t * 1 -/
theorem tuple_mulS (l : Addr) (items : Array Value) (n : Nat) (dd : Option Addr) (sl : Array (Option Value)) (x : Int) (u : Tok) (c0 : (decide (x < -(2 ^ 63)) || decide (x ≥ 2 ^ 63)) = false) (c1 : (items.isEmpty || x == 1) = true) :
    Meets (Builtin.«tuple.__mul__» ⟨[.ref l, .int x u], []⟩) (fun _ R s => s.heap.get? l = some { cls := .type "tuple", dict := dd, data := .seq items n, slots := sl } ∧ R (.ok (.ret (Value.ref l))) s) :=
  .of_wp fun prog w A R s h => by
    obtain ⟨hp, g, d, tk, os⟩ := s
    obtain ⟨hl, h⟩ := h
    have f1 := AutoSeq1.idx_int
    wp_walk using wpAny_loadPart' hl
    repeat (first
      | (refine wpAny_ite_false (decide_eq_false (by rw [c0]; exact Bool.false_ne_true)) ?_; wp_walk using wpAny_loadPart' hl)
      | (refine wpAny_ite_true (decide_eq_true c1) ?_; wp_walk using wpAny_loadPart' hl))
    exact ⟨_, rfl, h⟩
theorem tuple_mul0 (l : Addr) (items : Array Value) (n : Nat) (dd : Option Addr) (sl : Array (Option Value)) (u : Tok) (c1 : (items.isEmpty || (0 : Int) == 1) = false) :
    Meets (Builtin.«tuple.__mul__» ⟨[.ref l, .int 0 u], []⟩) (fun _ R s => s.heap.get? l = some { cls := .type "tuple", dict := dd, data := .seq items n, slots := sl } ∧
      R (.ok (.ret (Value.ref s.heap.objs.size))) { s with heap := s.heap.push { cls := Value.type "tuple", data := Data.seq #[] }, toks := s.toks }) :=
  .of_wp fun prog w A R s h => by
    obtain ⟨hp, g, d, tk, os⟩ := s
    obtain ⟨hl, h⟩ := h
    have f1 := AutoSeq1.idx_int
    have c0 : (decide ((0 : Int) < -(2 ^ 63)) || decide ((0 : Int) ≥ 2 ^ 63)) = false := by decide
    have c2 : (decide ((0 : Int) ≤ 0) || items.isEmpty) = true := rfl
    wp_walk using wpAny_loadPart' hl
    repeat (first
      | (refine wpAny_ite_false (decide_eq_false (by rw [c0]; exact Bool.false_ne_true)) ?_; wp_walk using wpAny_loadPart' hl)
      | (refine wpAny_ite_false (decide_eq_false (by rw [c1]; exact Bool.false_ne_true)) ?_; wp_walk using wpAny_loadPart' hl)
      | (refine wpAny_ite_true (decide_eq_true c2) ?_; wp_walk using wpAny_loadPart' hl))
    exact ⟨_, rfl, h⟩
section
variable {X : Cx}
def rRep01 (K : PySem.W.Frag) : R2 := fun x y H Q => ∃ l k xs, x = .ref l ∧ y = .int k ∧ SqT K H l xs ∧ (k = 0 ∨ k = 1) ∧ (xs = [] ∨ k = 1 → Q (.ref l) H) ∧ (xs ≠ [] → k = 0 → ∀ p, H p = none → Q (.ref p) (upd H p (.tup [])))
theorem op_rep01 : OpR X (binaryOp .Mult) (rRep01 X.K) := by
  intro pins s σ H x y v u Q I rx ry h
  obtain ⟨l, k, xs, rfl, rfl, hT, hk, q1, q2⟩ := h
  cases rx
  obtain ⟨t, rfl⟩ := ry
  obtain ⟨its, r, ⟨⟨cls, dd, data, sl⟩, ho, hc, n, hd⟩, hs⟩ := I.tuple hT
  simp only at hc hd
  subst hc hd
  have hle : its.length = xs.length := r.length.symm
  have c0 : (decide (k < -(2 ^ 63)) || decide (k ≥ 2 ^ 63)) = false := by
    rcases hk with rfl | rfl <;> decide
  by_cases c : xs = [] ∨ k = 1
  · have c1 : (its.toArray.isEmpty || k == 1) = true := by
      rcases c with c | c
      · have : its = [] := List.eq_nil_of_length_eq_zero (by rw [hle, c]; rfl)
        rw [this]
        rfl
      · rw [c]
        simp
    refine wpAny_binaryOp_repeat_ref (T := "tuple") (U := "int") (by decide) ⟨_, ho, rfl⟩ (fun s' => typeIs_int s' k t) noFill_tuple_mul F.fills_int_mul F.slot_int_rmul repeat_tuple F.slot_int_index.lookup
      (call_meets F.slot_int_rmul (typeIs_int s k t) F.entry_int_rmul (F.args_int_rmul_2 _ _) (int_rmul_tuple k t l its.toArray n dd sl)
        ⟨ho, rfl, ⟨_, ho, rfl⟩, call_meets F.slot_tuple_mul ⟨_, ho, rfl⟩ F.entry_tuple_mul (F.args_tuple_mul_2 _ _) (tuple_mulS l its.toArray n dd sl k t c0 c1) ⟨ho, ?_⟩⟩)
    exact ⟨.ref l, H, I, rfl, q1 c⟩
  · have k0 : k = 0 := hk.elim id fun z => absurd (.inr z) c
    subst k0
    have c1 : (its.toArray.isEmpty || (0 : Int) == 1) = false := by
      cases its with
      | nil => exact absurd (.inl (List.eq_nil_of_length_eq_zero hle.symm)) c
      | cons a b => rfl
    refine wpAny_binaryOp_repeat_ref (T := "tuple") (U := "int") (by decide) ⟨_, ho, rfl⟩ (fun s' => typeIs_int s' 0 t) noFill_tuple_mul F.fills_int_mul F.slot_int_rmul repeat_tuple F.slot_int_index.lookup
      (call_meets F.slot_int_rmul (typeIs_int s 0 t) F.entry_int_rmul (F.args_int_rmul_2 _ _) (int_rmul_tuple 0 t l its.toArray n dd sl)
        ⟨ho, rfl, ⟨_, ho, rfl⟩, call_meets F.slot_tuple_mul ⟨_, ho, rfl⟩ F.entry_tuple_mul (F.args_tuple_mul_2 _ _) (tuple_mul0 l its.toArray n dd sl t c1) ⟨ho, ?_⟩⟩)
    refine ⟨.ref s.heap.objs.size, _, I.laid (t' := s.toks) (o := .tup []) (fun b ob q => Heap.get?_push_of_some _ q) (Nat.le_refl _) ?_, rfl, q2 (fun z => c (.inl z)) rfl _ (I.hok.fresh (Nat.le_refl _))⟩
    exact ⟨by decide, [], .nil, IsTup.new _ _⟩
end
end Any
set_option pp.maxSteps 600
namespace Any
open L2 PySem PySem.Spec PyProof.Rows LamX NdefX
/-! ### _law_nest -/
abbrev sNest : Stmt := top 96
abbrev psNs : List Str := ["_law_bag_here", "_law_name", "_law_goal", "_law_deep"]
abbrev nmNs : List Str := ["_law_bag_here", "_law_name", "_law_goal", "_law_deep", "_law_one", "_law_inner", "_law_some"]
theorem scNs : FnScope nmNs psNs (defScope sNest) := ⟨rfl, rfl, rfl, by decide +kernel, rfl, by decide +kernel, by decide +kernel⟩
/-- as a nest's steps are -/
def NestOk (name goal : Str) (k t : Nat) (s : Sg) : Prop := (∀ xs ws rs : List Str, name ∈ xs → (goal ≠ "" → goal ∈ rs) → s.ok xs ws rs) ∧ s.dp ≤ k ∧ s.tot ≤ t
structure NestB (name goal : Str) (d : Nat) (b : Bd) : Prop where
  ok : ∀ xs ws rs : List Str, name ∈ xs → (goal ≠ "" → goal ∈ rs) → b.ok xs ws rs
  dp : b.dp ≤ d + 1
  len : b.len ≤ 3
  tot : b.tot ≤ 1 + 3 * d
def spNest (n : Nat) : Sp := fun vs H Q _ => ∃ (b : Addr) (name goal : Str) (d m : Nat), vs = [.ref b, .str name, .str goal, .int d] ∧ d < n ∧ Bag H b m ∧ m + 10 * d + 20 < 2 ^ 40 ∧ ∀ (p : Addr) (bd : Bd) (H' : Hp), Kept b H H' → Bag H' b (m + 10 * d + 10) → BdAt H' p bd → NestB name goal d bd → Q (.ref p) H'
section
variable {X : Cx}
/-- (one,) * take(bag, 2) -/
def tRep : TE := fun σ H Q => ∃ (b : Addr) (v : V) (m : Nat), σ[0]? = some (some (.ref b)) ∧ σ[4]? = some (some v) ∧ Bag H b m ∧ m + 1 < 2 ^ 40 ∧ ∀ (t : Addr) (zs : List V) (H' : Hp), Kept b H H' → Bag H' b (m + 1) → H' t = some (.tup zs) → (zs = [] ∨ zs = [v]) → Q (.ref t) H'
theorem pe_rep {e : Expr} (h : PE X e (tOp (rRep01 X.K) (tTup (tCons (tVar 4) tNil)) (tCall spTake [] E0 (tCons (tVar 0) (tCons (tC (.int 2)) tNil))))) : PE X e tRep := by
  refine ⟨fun pins s σ H Q I q => h.run pins s σ H Q I ?_⟩
  obtain ⟨b, v, m, h0, h4, hB, hm, q⟩ := q
  have hs : sizeLine = 16777216 := sizeLine_eq
  refine ⟨v, h4, (by show 1 ≤ sizeLine; omega), fun t nt => ?_⟩
  have st := same_new nt (.tup [v])
  refine ⟨_, h0, b, 2, m, rfl, hB.keep st, hm, by decide, by decide, fun d H1 k1 B1 d0 d1 => ?_⟩
  have kt := (Kept.of st).trans k1
  have et : H1 t = some (.tup [v]) := (hB.keep st).tups k1 _ _ upd_same
  refine ⟨t, d, [v], rfl, rfl, SqT.of et, by omega, fun _ => q t [v] H1 kt B1 et (.inr rfl), fun _ _ p np => ?_⟩
  have sp := same_new np (.tup [])
  exact q p [] _ (kt.trans (.of sp)) (B1.keep sp) upd_same (.inl rfl)
end
theorem ifs_dp (t : Ts) (a b : Bd) : (Sg.ifs t a b).dp = max a.dp b.dp + 1 := by rw [Sg.dp]
theorem ifs_tot (t : Ts) (a b : Bd) : (Sg.ifs t a b).tot = 1 + (a.tot + b.tot) := by rw [Sg.tot]
theorem nil_dp : Bd.nil.dp = 0 := by rw [Bd.dp]
theorem nil_tot : Bd.nil.tot = 0 := by rw [Bd.tot]
theorem mk_catA {K : PySem.W.Frag} {H : Hp} {Q : VK} {a b : Addr} {xs ys : List V} (ha : H a = some (.tup xs)) (hb : H b = some (.tup ys)) (hl : xs.length + ys.length ≤ 1000) (q : ∀ (p : Addr) (H' : Hp), Same H H' → H' p = some (.tup (xs ++ ys)) → Q (.ref p) H') : rCatA K (.ref a) (.ref b) H Q := by
  have hs : sizeLine = 16777216 := sizeLine_eq
  refine ⟨a, b, xs, ys, rfl, rfl, SqT.of ha, SqT.of hb, by omega, fun z => ?_, fun _ z => ?_, fun _ _ p np => ?_⟩
  · subst z
    exact q b H (fun _ _ h => h) hb
  · subst z
    exact q a H (fun _ _ h => h) (by rw [List.append_nil]; exact ha)
  · exact q p _ (same_new np _) upd_same
theorem mk_slA {K : PySem.W.Frag} {H : Hp} {Q : VK} {a : Addr} {xs : List V} (ha : H a = some (.tup xs)) (hl : xs.length ≤ 3) (q : Q (.ref a) H) : rSlA K (.ref a) none (some 3) H Q := by
  refine ⟨a, xs, rfl, SqT.of ha, fun _ => q, fun z => absurd ⟨rfl, ?_⟩ z⟩
  show min 3 xs.length = xs.length
  omega
theorem nest_list {H : Hp} {v : V} {zs : List V} {s : Sg} (h : zs = [] ∨ zs = [v]) (hv : SgAt H v s) : ∃ l : List Sg, Paired (SgAt H) zs l ∧ l.length ≤ 1 ∧ ∀ g ∈ l, g = s := by
  rcases h with h | h
  · subst h
    exact ⟨[], .nil, Nat.zero_le _, fun g hg => nomatch hg⟩
  · subst h
    exact ⟨[s], .cons hv .nil, Nat.le_refl _, fun g hg => List.mem_singleton.mp hg⟩
theorem nest_body {name goal : Str} {k t : Nat} {l : List Sg} (h : ∀ s ∈ l, NestOk name goal k t s) : (∀ xs ws rs : List Str, name ∈ xs → (goal ≠ "" → goal ∈ rs) → (Bd.of l).ok xs ws rs) ∧ (Bd.of l).dp ≤ k :=
  ⟨fun xs ws rs h1 h2 => of_ok fun s hs => (h s hs).1 xs ws rs h1 h2, of_dp fun s hs => (h s hs).2.1⟩
section
variable {P : Program} {w : World} {K : PySem.W.Frag} {mg : Str → Option Value} {base : Heap} {f : Addr} {fd : FuncData} {n : Nat}
theorem no_nest {k : Nat} : FnOk P w K mg base CX0 k f fd psNs (spNest 0) := by
  have no : ∀ vs H Q E, ¬ spNest 0 vs H Q E := fun vs H Q E h => by
    obtain ⟨b, name, goal, d, m, _, hd, _⟩ := h
    omega
  exact ⟨fun vs H Q E h => absurd h (no vs H Q E), fun A outer s H args us vs Q E _ _ _ _ h => absurd h (no vs H Q E)⟩
set_option maxHeartbeats 2000000 in
theorem ok_nest (F : Fun K "_law_nest" "_law_nest" sNest f fd) (DT : Df P w K mg base 1 "_law_take" ["_law_bag_here", "_law_many"] spTake) (DO : Df P w K mg base 2 "_law_of" ["_law_bag_here", "_law_some"] spOf) (DG : Df P w K mg base (n + 2) "_law_nest" psNs (spNest n)) : FnOk P w K mg base CX0 (n + 3) f fd psNs (spNest (n + 1)) := by
  refine F.ok scNs (fun vs H Q E h => ?_) (fun cdv A outer s H vs Q E hr h => ?_)
  · obtain ⟨b, name, goal, d, m, rfl, _⟩ := h
    rfl
  obtain ⟨b, name, goal, d, m, rfl, hd, hB, hm, q⟩ := h
  have hr1 := hr.mono (show 1 ≤ n + 2 by omega)
  have hr2 := hr.mono (show 2 ≤ n + 2 by omega)
  have hs : sizeLine = 16777216 := sizeLine_eq
  obtain ⟨t2, ht2, leaf⟩ : ∃ t2, PSs (cxOf CX0 P w K mg base nmNs "_law_nest" (defScope sNest) f cdv A outer s H E).nox ((defBody sNest).drop 2) t2 ∧
      ∀ (H1 : Hp) (v : V) (s1 : Sg) (z5 z6 : Option V), Kept b H H1 → Bag H1 b (m + 2) → SgAt H1 v s1 → NestOk name goal 1 1 s1 → t2 { nx := fun _ H' => Q .non H', rt := Q } [some (.ref b), some (.str name), some (.str goal), some (.int d), some v, z5, z6] H1 := by
    refine ⟨_, pss_cons (ps_if (pt_cmpR op_eq (pv 3) pe_int (nomark _)) (pss_one (ps_ret (pe_rep (pe_op op_rep01 (pe_tup (pa_cons (pv 4) pa_nil)) (pe_D DT hr1 rfl (pa_cons (pv 0) (pa_cons pe_int pa_nil))))))) pss_nil)
      (pss_cons (ps_set (i := 5) scNs.nd rfl (Or.inl rfl) (pe_D DG hr rfl (pa_cons (pv 0) (pa_cons (pv 1) (pa_cons (pv 2) (pa_cons (pe_op op_sub (pv 3) pe_int) pa_nil))))))
      (pss_cons (ps_set (i := 6) scNs.nd rfl (Or.inl rfl) (pe_lst (pa_cons (pe_tup (pa_cons pe_str (pa_cons (pe_tup (pa_cons pe_str (pa_cons pe_int pa_nil))) (pa_cons pe_int (pa_cons (pv 5) pa_nil)))))
          (pa_cons (pe_tup (pa_cons pe_str (pa_cons (pe_tup (pa_cons pe_str (pa_cons (pe_tup (pa_cons pe_str (pa_cons (pv 1) pa_nil))) (pa_cons (pe_tup (pa_cons pe_str (pa_cons pe_int pa_nil))) pa_nil)))) (pa_cons (pv 5) (pa_cons (pe_tup pa_nil) pa_nil))))) pa_nil))))
      (pss_cons (ps_expr (pe_bm PySem.F.plainAttrs_list PySem.F.slot_list_append PySem.F.type_list_append mt_append (pv 6) (pa_cons (pe_tup (pa_cons pe_str (pa_cons (pe_tup (pa_cons pe_str (pa_cons (pe_tup (pa_cons pe_str (pa_cons (pv 1) pa_nil))) (pa_cons (pe_tup (pa_cons pe_str (pa_cons pe_int pa_nil))) pa_nil)))) (pa_cons (pe_tup pa_nil) (pa_cons (pv 5) pa_nil))))) pa_nil)))
      (pss_one (ps_ret (pe_slice sl_tupA (pe_op op_catA (pe_op op_catA (pe_rep (pe_op op_rep01 (pe_tup (pa_cons (pv 4) pa_nil)) (pe_D DT hr1 rfl (pa_cons (pv 0) (pa_cons pe_int pa_nil))))) (pe_tup (pa_cons (pe_D DO hr2 rfl (pa_cons (pv 0) (pa_cons (pv 6) pa_nil))) pa_nil)))
          (pe_rep (pe_op op_rep01 (pe_tup (pa_cons (pv 4) pa_nil)) (pe_D DT hr1 rfl (pa_cons (pv 0) (pa_cons pe_int pa_nil)))))) po_none (po_some pe_int))))))), ?_⟩
    intro H1 v s1 z5 z6 k1 B1 hv hs1
    refine ⟨_, rfl, rfl, _, rfl, itEq (fun c1 => ?_) (fun c1 => ?_)⟩
    · have d0 : d = 0 := by omega
      subst d0
      refine ⟨b, v, m + 2, rfl, rfl, B1, by omega, fun t zs H2 k2 B2 ht hz => ?_⟩
      obtain ⟨l, l1, l2, l3⟩ := nest_list hz (SgAt.keep (B1.tups k2) _ hv)
      obtain ⟨b1, b2⟩ := nest_body (k := 1) (t := 1) (fun g hg => by rw [l3 g hg]; exact hs1)
      refine q t (Bd.of l) H2 (k1.trans k2) (B2.more (by omega)) ⟨zs, ht, of_at l1⟩ ⟨b1, b2, by rw [of_len]; omega, ?_⟩
      rw [of_tot]
      have := tot_le l (fun g hg => by rw [l3 g hg]; exact hs1.2.2)
      omega
    obtain ⟨e, rfl⟩ : ∃ e, d = e + 1 := ⟨d - 1, by omega⟩
    have i1 : (((e + 1 : Nat) : Int)) - 1 = ((e : Nat) : Int) := by omega
    refine ⟨_, rfl, _, rfl, _, rfl, _, rfl, _, _, rfl, rfl, b, name, goal, e, m + 2, (by rw [← i1]; rfl), by omega, B1, by omega, fun pi bi H2 k2 B2 hbi nb => ?_⟩
    have hv2 := SgAt.keep (B1.tups k2) _ hv
    refine ⟨(by show 2 ≤ sizeLine; omega), fun p1 n1 => ⟨_, rfl, (by show 4 ≤ sizeLine; omega), fun p2 n2 => ⟨_, rfl, (by show 2 ≤ sizeLine; omega), fun p3 n3 => ⟨(by show 2 ≤ sizeLine; omega), fun p4 n4 => ⟨(by show 3 ≤ sizeLine; omega), fun p5 n5 => ⟨_, rfl, (by show 0 ≤ sizeLine; omega), fun p6 n6 => ⟨(by show 4 ≤ sizeLine; omega), fun p7 n7 => ⟨(by show 2 ≤ sizeLine; omega), fun ps nps => ?_⟩⟩⟩⟩⟩⟩⟩⟩
    have s1' := same_new n1 (.tup [.str "number", .int 3])
    have s2' := same_new n2 (.tup [.str "for", .ref p1, .int 4, .ref pi])
    have s3' := same_new n3 (.tup [.str "box", .str name])
    have s4' := same_new n4 (.tup [.str "number", .int 1])
    have s5' := same_new n5 (.tup [.str "is", .ref p3, .ref p4])
    have s6' := same_new n6 (.tup [])
    have s7' := same_new n7 (.tup [.str "if", .ref p5, .ref pi, .ref p6])
    have s8' := same_new nps (.lst [.ref p2, .ref p7])
    have s78 := s7'.trans s8'
    have s68 := s6'.trans s78
    have s58 := s5'.trans s68
    have s48 := s4'.trans s58
    have s38 := s3'.trans s48
    have s28 := s2'.trans s38
    have s18 := s1'.trans s28
    have e1 := s28 p1 _ upd_same
    have e2 := s38 p2 _ upd_same
    have e3 := s48 p3 _ upd_same
    have e4 := s58 p4 _ upd_same
    have e5 := s68 p5 _ upd_same
    have e6 := s78 p6 _ upd_same
    have e7 := s8' p7 _ upd_same
    have e8 := @upd_same (upd (upd (upd (upd (upd (upd (upd H2 p1 (.tup [.str "number", .int 3])) p2 (.tup [.str "for", .ref p1, .int 4, .ref pi])) p3 (.tup [.str "box", .str name])) p4 (.tup [.str "number", .int 1])) p5 (.tup [.str "is", .ref p3, .ref p4])) p6 (.tup [])) p7 (.tup [.str "if", .ref p5, .ref pi, .ref p6])) ps (.lst [.ref p2, .ref p7])
    have B3 := B2.keep s18
    have k3 : Kept b H _ := k1.trans (k2.trans (.of s18))
    have hv3 := SgAt.keep (Same.tups s18) _ hv2
    have bi3 := hbi.keep (Same.tups s18)
    have bps : ps ≠ b := fun z => by
      obtain ⟨_, y⟩ := ((B2.keep s1').keep (s2'.trans (s3'.trans (s4'.trans (s5'.trans (s6'.trans s7')))))).lst
      rw [z, y] at nps
      cases nps
    have nps0 : H ps = none := by
      cases z : H ps with
      | none => rfl
      | some o =>
        have y := (s1'.trans (s2'.trans (s3'.trans (s4'.trans (s5'.trans (s6'.trans s7')))))) _ _ ((k1.trans k2) ps o bps z)
        rw [y] at nps
        cases nps
    clear s1' s2' s3' s4' s5' s6' s7' s8' s78 s68 s58 s48 s38 s28 s18
    generalize upd (upd (upd (upd (upd (upd (upd (upd H2 p1 (.tup [.str "number", .int 3])) p2 (.tup [.str "for", .ref p1, .int 4, .ref pi])) p3 (.tup [.str "box", .str name])) p4 (.tup [.str "number", .int 1])) p5 (.tup [.str "is", .ref p3, .ref p4])) p6 (.tup [])) p7 (.tup [.str "if", .ref p5, .ref pi, .ref p6])) ps (.lst [.ref p2, .ref p7]) = H3 at *
    refine ⟨_, rfl, .inl ⟨rfl, _, SqL.of e8⟩, ?_⟩
    refine ⟨_, rfl, (by show 2 ≤ sizeLine; omega), fun r1 m1 => ⟨(by show 2 ≤ sizeLine; omega), fun r2 m2 => ⟨(by show 3 ≤ sizeLine; omega), fun r3 m3 => ⟨(by show 0 ≤ sizeLine; omega), fun r4 m4 => ⟨_, rfl, (by show 4 ≤ sizeLine; omega), fun r5 m5 => ?_⟩⟩⟩⟩⟩
    have u1 := same_new m1 (.tup [.str "box", .str name])
    have u2 := same_new m2 (.tup [.str "number", .int 1])
    have u3 := same_new m3 (.tup [.str "is", .ref r1, .ref r2])
    have u4 := same_new m4 (.tup [])
    have u5 := same_new m5 (.tup [.str "if", .ref r3, .ref r4, .ref pi])
    have u45 := u4.trans u5
    have u35 := u3.trans u45
    have u25 := u2.trans u35
    have u15 := u1.trans u25
    refine ⟨ps, _, _, rfl, rfl, u15 _ _ e8, by show 2 < sizeLine; omega, ?_⟩
    have tL : Tups (upd (upd (upd (upd (upd H3 r1 (.tup [.str "box", .str name])) r2 (.tup [.str "number", .int 1])) r3 (.tup [.str "is", .ref r1, .ref r2])) r4 (.tup [])) r5 (.tup [.str "if", .ref r3, .ref r4, .ref pi]))
        (upd (upd (upd (upd (upd (upd H3 r1 (.tup [.str "box", .str name])) r2 (.tup [.str "number", .int 1])) r3 (.tup [.str "is", .ref r1, .ref r2])) r4 (.tup [])) r5 (.tup [.str "if", .ref r3, .ref r4, .ref pi])) ps (.lst ([.ref p2, .ref p7] ++ [.ref r5]))) := fun a' ts ha => by
      rw [upd_ne (ne_of ha (u15 _ _ e8) (by intro z; cases z))]
      exact ha
    have tA : Tups H3 _ := fun a' ts ha => tL _ _ (Same.tups u15 _ _ ha)
    have f1 := tL _ _ (u25 r1 _ upd_same)
    have f2 := tL _ _ (u35 r2 _ upd_same)
    have f3 := tL _ _ (u45 r3 _ upd_same)
    have f4 := tL _ _ (u5 r4 _ upd_same)
    have f5 := tL _ _ (@upd_same (upd (upd (upd (upd H3 r1 (.tup [.str "box", .str name])) r2 (.tup [.str "number", .int 1])) r3 (.tup [.str "is", .ref r1, .ref r2])) r4 (.tup [])) r5 (.tup [.str "if", .ref r3, .ref r4, .ref pi]))
    have B4 := (B3.keep u15).off bps (.lst ([.ref p2, .ref p7] ++ [.ref r5]))
    have e9 := @upd_same (upd (upd (upd (upd (upd H3 r1 (.tup [.str "box", .str name])) r2 (.tup [.str "number", .int 1])) r3 (.tup [.str "is", .ref r1, .ref r2])) r4 (.tup [])) r5 (.tup [.str "if", .ref r3, .ref r4, .ref pi])) ps (.lst ([.ref p2, .ref p7] ++ [.ref r5]))
    have k4 : Kept b H (upd (upd (upd (upd (upd (upd H3 r1 (.tup [.str "box", .str name])) r2 (.tup [.str "number", .int 1])) r3 (.tup [.str "is", .ref r1, .ref r2])) r4 (.tup [])) r5 (.tup [.str "if", .ref r3, .ref r4, .ref pi])) ps (.lst ([.ref p2, .ref p7] ++ [.ref r5]))) := fun a' o na ha => by
      rw [upd_ne (fun z => by rw [z, nps0] at ha; cases ha)]
      exact u15 _ _ (k3 _ _ na ha)
    have g1 := tA _ _ e1
    have g2 := tA _ _ e2
    have g3 := tA _ _ e3
    have g4 := tA _ _ e4
    have g5 := tA _ _ e5
    have g6 := tA _ _ e6
    have g7 := tA _ _ e7
    have hv4 := SgAt.keep tA _ hv3
    have bi4 := bi3.keep tA
    clear u1 u2 u3 u4 u5 u45 u35 u25 u15 tL e1 e2 e3 e4 e5 e6 e7
    generalize upd (upd (upd (upd (upd (upd H3 r1 (.tup [.str "box", .str name])) r2 (.tup [.str "number", .int 1])) r3 (.tup [.str "is", .ref r1, .ref r2])) r4 (.tup [])) r5 (.tup [.str "if", .ref r3, .ref r4, .ref pi])) ps (.lst ([.ref p2, .ref p7] ++ [.ref r5])) = H4 at *
    refine ⟨b, v, _, rfl, rfl, B4, by omega, fun t1 zs1 H5 k5 B5 ht1 hz1 => ?_⟩
    have T5 := B4.tups k5
    have l5 := k5 _ _ bps e9
    refine ⟨_, rfl, _, rfl, b, ps, _, _, rfl, B5, by omega, l5, bps, (by show 1 ≤ 3; omega), (by show 3 ≤ 1000; omega), fun vo H6 k6 B6 hvo => ?_⟩
    refine ⟨(by show 1 ≤ sizeLine; omega), fun pt npt => ?_⟩
    have T6 := B5.tups k6
    have npt' := same_new npt (.tup [vo])
    refine mk_catA (npt' _ _ (T6 _ _ ht1)) upd_same (by rcases hz1 with z | z <;> subst z <;> simp) fun p8 H8 s8 e8' => ?_
    refine ⟨b, v, _, rfl, rfl, (B6.keep npt').keep s8, by omega, fun t2 zs2 H9 k9 B9 ht2 hz2 => ?_⟩
    have T9 := ((B6.keep npt').keep s8).tups k9
    refine mk_catA (T9 _ _ e8') ht2 (by rcases hz1 with z | z <;> subst z <;> rcases hz2 with z' | z' <;> subst z' <;> simp) fun p10 H10 s10 e10 => ?_
    have TZ : Tups H4 H10 := fun a' ts ha => s10 _ _ (T9 _ _ (s8 _ _ (npt' _ _ (T6 _ _ (T5 _ _ ha)))))
    have kZ : Kept b H H10 := k4.trans (k5.trans (k6.trans ((Kept.of (npt'.trans s8)).trans (k9.trans (.of s10)))))
    refine ⟨3, rfl, mk_slA e10 (by rcases hz1 with z | z <;> subst z <;> rcases hz2 with z' | z' <;> subst z' <;> simp) ?_⟩
    have hvZ := SgAt.keep TZ _ hv4
    have biZ := bi4.keep TZ
    obtain ⟨sx, hx, x1, x2, x3⟩ : ∃ sx, SgAt H10 vo sx ∧ (∀ xs ws rs : List Str, name ∈ xs → (goal ≠ "" → goal ∈ rs) → sx.ok xs ws rs) ∧ sx.dp ≤ e + 2 ∧ sx.tot ≤ 2 + 3 * e := by
      obtain ⟨bs, hb1, hb2⟩ := biZ
      have hd := nb.dp
      have ht := nb.tot
      have hl := nb.len
      rcases List.mem_cons.mp hvo with z | hvo
      · refine ⟨.fors (.num 3) 4 bi, ?_, fun xs ws rs h1 h2 => ?_, ?_, ?_⟩
        · unfold SgAt
          exact ⟨p2, _, pi, bs, z, TZ _ _ g2, .num (TZ _ _ g1), hb1, hb2⟩
        · unfold Sg.ok
          exact ⟨⟨by unfold Ex.fit; decide, by decide, by decide⟩, by decide, nb.ok xs ws rs h1 h2, by omega⟩
        · unfold Sg.dp
          omega
        · unfold Sg.tot
          omega
      have tsr : ∀ xs ws : List Str, name ∈ xs → (Ts.is (.box name) (.num 1)).right xs ws := fun xs ws h1 => ⟨by unfold Ts.fit Ex.fit; exact ⟨h1, by decide⟩, by show 2 ≤ 5; omega, by show 3 ≤ 16; omega⟩
      rcases List.mem_cons.mp hvo with z | hvo
      · refine ⟨.ifs (.is (.box name) (.num 1)) bi .nil, ?_, fun xs ws rs h1 h2 => ?_, ?_, ?_⟩
        · unfold SgAt
          exact ⟨p7, _, pi, p6, bs, [], z, TZ _ _ g7, .is (TZ _ _ g5) (.box (TZ _ _ g3)) (.num (TZ _ _ g4)), hb1, hb2, TZ _ _ g6, by unfold BdL; rfl⟩
        · unfold Sg.ok
          exact ⟨tsr xs ws h1, ⟨nb.ok xs ws rs h1 h2, by omega⟩, by unfold Bd.ok; trivial, by show 0 ≤ 12; omega⟩
        · rw [ifs_dp, nil_dp]
          omega
        · rw [ifs_tot, nil_tot]
          omega
      · have z := List.mem_singleton.mp hvo
        refine ⟨.ifs (.is (.box name) (.num 1)) .nil bi, ?_, fun xs ws rs h1 h2 => ?_, ?_, ?_⟩
        · unfold SgAt
          exact ⟨r5, _, r4, pi, [], bs, z, TZ _ _ f5, .is (TZ _ _ f3) (.box (TZ _ _ f1)) (.num (TZ _ _ f2)), TZ _ _ f4, by unfold BdL; rfl, hb1, hb2⟩
        · unfold Sg.ok
          exact ⟨tsr xs ws h1, ⟨by unfold Bd.ok; trivial, by show 0 ≤ 12; omega⟩, nb.ok xs ws rs h1 h2, by omega⟩
        · rw [ifs_dp, nil_dp]
          omega
        · rw [ifs_tot, nil_tot]
          omega
    obtain ⟨l1, a1, a2, a3⟩ := nest_list hz1 hvZ
    obtain ⟨l2, b1, b2, b3⟩ := nest_list hz2 hvZ
    have al : ∀ g ∈ l1 ++ [sx] ++ l2, NestOk name goal (e + 2) (2 + 3 * e) g := fun g hg => by
      rcases List.mem_append.mp hg with hg | hg
      · rcases List.mem_append.mp hg with hg | hg
        · rw [a3 g hg]
          exact ⟨hs1.1, by have := hs1.2.1; omega, by have := hs1.2.2; omega⟩
        · rw [List.mem_singleton.mp hg]
          exact ⟨x1, x2, x3⟩
      · rw [b3 g hg]
        exact ⟨hs1.1, by have := hs1.2.1; omega, by have := hs1.2.2; omega⟩
    obtain ⟨c1, c2⟩ := nest_body al
    refine q p10 (Bd.of (l1 ++ [sx] ++ l2)) H10 kZ ((B9.keep s10).more (by omega)) ⟨_, e10, of_at (paired_app (paired_snoc a1 hx) b1)⟩ ⟨c1, c2, ?_, ?_⟩
    · rw [of_len, List.length_append, List.length_append, List.length_singleton]
      omega
    · rw [of_tot, List.map_append, List.map_append, List.sum_append, List.sum_append]
      have t1 := tot_le l1 (fun g hg => by rw [a3 g hg]; exact hs1.2.2)
      have t2 := tot_le l2 (fun g hg => by rw [b3 g hg]; exact hs1.2.2)
      have t3 : (List.map Sg.tot [sx]).sum = sx.tot := by simp
      omega
  refine ⟨_, pss_cons (ps_set (i := 4) scNs.nd rfl (Or.inl rfl) (pe_ix ix_list (pe_lst (pa_cons (pe_tup (pa_cons pe_str (pa_cons (pv 1) pa_nil))) (pa_cons (pe_tup (pa_cons pe_str (pa_cons (pv 1) (pa_cons (pe_tup (pa_cons pe_str (pa_cons pe_int pa_nil))) pa_nil))))
      (pa_cons (pe_tup (pa_cons pe_str (pa_cons (pv 1) (pa_cons (pe_tup (pa_cons pe_str (pa_cons pe_int pa_nil))) pa_nil)))) pa_nil)))) (pe_D DT hr1 rfl (pa_cons (pv 0) (pa_cons pe_int pa_nil))) (fun _ _ => rfl)))
    (pss_cons (ps_if (PW.pt (pw_and (pt_cmpR op_ne (pv 2) pe_str (nomark _)) (pw_and1 (pt_cmpR op_eq (pe_D DT hr1 rfl (pa_cons (pv 0) (pa_cons pe_int pa_nil))) pe_int (nomark _)))))
      (pss_one (ps_set (i := 4) scNs.nd rfl (Or.inl rfl) (pe_tup (pa_cons pe_str (pa_cons (pv 1) (pa_cons (pv 2) (pa_cons (pe_tup (pa_cons pe_str (pa_cons (pv 1) pa_nil))) pa_nil))))))) pss_nil)
    ht2), ?_⟩
  refine ⟨_, rfl, (by show 2 ≤ sizeLine; omega), fun p1 n1 => ⟨_, rfl, (by show 2 ≤ sizeLine; omega), fun p2 n2 => ⟨(by show 3 ≤ sizeLine; omega), fun p3 n3 => ⟨_, rfl, (by show 2 ≤ sizeLine; omega), fun p4 n4 => ⟨(by show 3 ≤ sizeLine; omega), fun p5 n5 => ⟨(by show 3 ≤ sizeLine; omega), fun pl nl => ?_⟩⟩⟩⟩⟩⟩
  have s1 := same_new n1 (.tup [.str "hear", .str name])
  have s2 := same_new n2 (.tup [.str "number", .int 2])
  have s3 := same_new n3 (.tup [.str "say", .str name, .ref p2])
  have s4 := same_new n4 (.tup [.str "number", .int 0])
  have s5 := same_new n5 (.tup [.str "set", .str name, .ref p4])
  have s6 := same_new nl (.lst [.ref p1, .ref p3, .ref p5])
  have s56 := s5.trans s6
  have s46 := s4.trans s56
  have s36 := s3.trans s46
  have s26 := s2.trans s36
  have s16 := s1.trans s26
  have e1 := s26 p1 _ upd_same
  have e2 := s36 p2 _ upd_same
  have e3 := s46 p3 _ upd_same
  have e4 := s56 p4 _ upd_same
  have e5 := s6 p5 _ upd_same
  have e6 := @upd_same (upd (upd (upd (upd (upd H p1 (.tup [.str "hear", .str name])) p2 (.tup [.str "number", .int 2])) p3 (.tup [.str "say", .str name, .ref p2])) p4 (.tup [.str "number", .int 0])) p5 (.tup [.str "set", .str name, .ref p4])) pl (.lst [.ref p1, .ref p3, .ref p5])
  have B1 := hB.keep s16
  have k1 : Kept b H _ := .of s16
  have bpl : pl ≠ b := (hB.keep (s1.trans (s2.trans (s3.trans (s4.trans s5))))).ne nl
  clear s1 s2 s3 s4 s5 s6 s56 s46 s36 s26 s16
  generalize upd (upd (upd (upd (upd (upd H p1 (.tup [.str "hear", .str name])) p2 (.tup [.str "number", .int 2])) p3 (.tup [.str "say", .str name, .ref p2])) p4 (.tup [.str "number", .int 0])) p5 (.tup [.str "set", .str name, .ref p4])) pl (.lst [.ref p1, .ref p3, .ref p5]) = H1 at *
  refine ⟨_, rfl, b, 3, m, rfl, B1, by omega, by decide, by decide, fun d1 H2 k2 B2 z0 z1 => ?_⟩
  have T2 := B1.tups k2
  have l2 := k2 _ _ bpl e6
  obtain ⟨v, sg, hat, hsg, hok⟩ : ∃ (v : V) (sg : Sg), atI [V.ref p1, .ref p3, .ref p5] d1 = some v ∧ SgAt H2 v sg ∧ NestOk name goal 1 1 sg := by
    have q : d1 = 0 ∨ d1 = 1 ∨ d1 = 2 := by omega
    rcases q with q | q | q <;> subst q
    · refine ⟨_, .hear name, rfl, ?_, ⟨fun xs ws rs h1 h2 => ?_, ?_, ?_⟩⟩
      · unfold SgAt
        exact ⟨p1, rfl, T2 _ _ e1⟩
      · unfold Sg.ok
        exact h1
      · unfold Sg.dp
        omega
      · unfold Sg.tot
        omega
    · refine ⟨_, .say name (.num 2), rfl, ?_, ⟨fun xs ws rs h1 h2 => ?_, ?_, ?_⟩⟩
      · unfold SgAt
        exact ⟨p3, _, rfl, T2 _ _ e3, .num (T2 _ _ e2)⟩
      · unfold Sg.ok
        exact ⟨h1, by unfold Ex.fit; decide, by decide, by decide⟩
      · unfold Sg.dp
        omega
      · unfold Sg.tot
        omega
    · refine ⟨_, .set name (.num 0), rfl, ?_, ⟨fun xs ws rs h1 h2 => ?_, ?_, ?_⟩⟩
      · unfold SgAt
        exact ⟨p5, _, rfl, T2 _ _ e5, .num (T2 _ _ e4)⟩
      · unfold Sg.ok
        exact ⟨h1, by unfold Ex.fit; decide, by decide, by decide⟩
      · unfold Sg.dp
        omega
      · unfold Sg.tot
        omega
  have k12 := k1.trans k2
  refine ⟨pl, _, _, _, rfl, rfl, SqL.of l2, hat, ?_⟩
  refine ⟨_, rfl, rfl, _, rfl, itN (fun c1 => ?_) (fun c1 => itF rfl (leaf _ _ sg _ _ k12 (B2.more (by omega)) hsg hok))⟩
  refine ⟨_, rfl, b, 3, m + 1, rfl, B2, by omega, by decide, by decide, fun d2 H3 k3 B3 y0 y1 => ?_⟩
  refine ⟨rfl, _, rfl, itEq (fun c2 => ?_) (fun c2 => leaf _ _ sg _ _ (k12.trans k3) B3 (SgAt.keep (B2.tups k3) _ hsg) hok)⟩
  refine ⟨_, rfl, _, rfl, _, rfl, (by show 2 ≤ sizeLine; omega), fun q1 m1 => ⟨(by show 4 ≤ sizeLine; omega), fun q2 m2 => ?_⟩⟩
  have r1 := same_new m1 (.tup [.str "box", .str name])
  have r2 := same_new m2 (.tup [.str "call", .str name, .str goal, .ref q1])
  refine leaf _ _ (.call name goal (.box name)) _ _ (k12.trans (k3.trans (.of (r1.trans r2)))) (B3.keep (r1.trans r2)) ?_ ⟨fun xs ws rs h1 h2 => ?_, ?_, ?_⟩
  · unfold SgAt
    exact ⟨q2, _, rfl, upd_same, .box (r2 _ _ upd_same)⟩
  · unfold Sg.ok
    exact ⟨h1, h2 (fun z => c1 (by rw [z])), by unfold Ex.fit; exact h1, by show 1 ≤ 5; omega, by show 1 ≤ 16; omega⟩
  · unfold Sg.dp
    omega
  · unfold Sg.tot
    omega
end
end Any
set_option pp.maxSteps 600
set_option maxHeartbeats 1000000
namespace Any
open L2 PySem PySem.Spec PyProof.Rows LamX NdefX
/-! ### isinstance of a caught exception that has a dict -/
section
variable {X : Cx} {a D : Addr} {oe : Obj} {cls : Value} {d : Option Addr} {pn : List (Addr × Obj)}
/-- the class and the dict of what was caught -/
def Held (cls : Value) (d : Option Addr) (D : Addr) (H : Hp) : Prop := cls = .ref D ∧ ∃ (b : Addr) (fs : List (Str × V)), d = some b ∧ H b = some (.xd fs)
theorem held_kit (C : ExcC X.K D) (hz : Zc cls d oe) (hf : ∃ vs, oe.data = .fields vs) {pins : List (Addr × Obj)} {σ : L2.St} {H : Hp} {s : Shared} (I : Inv (X.suite a ((a, oe) :: pn)) pins σ H s) (h : Held cls d D H) :
    ∃ Pr : Heap → Prop, PySem.W.KitX X.K (.ref a) (.ref D) Pr ∧ Pr s.heap := by
  obtain ⟨rfl, b, fs, rfl, hb⟩ := h
  have at_ := (I.pin (a, oe) (List.mem_append_left _ List.mem_cons_self)).1
  obtain ⟨vs, ev⟩ := hf
  obtain ⟨mA, ns, _⟩ := (show ObjOk X.prog X.w H s.heap b (.xd fs) from I.hok b _ hb)
  obtain ⟨od, ho, _⟩ := lookIn_ns ns
  have hcl : (PySem.W.clsIn X.K D).isSome = true := by
    obtain ⟨cd, hc, _⟩ := PySem.W.any_some C.hd
    rw [hc]
    rfl
  refine ⟨_, PySem.W.kitx_exc (ox := oe) (od := some od) hcl C.hg C.hk C.hs C.ha C.hn C.ht C.hm, at_, hz.1, ?_, ?_⟩
  · unfold PySem.W.notCls
    rw [ev]
  · rw [hz.2]
    exact ho
theorem call_isX1 (C : ExcC X.K D) (hz : Zc cls d oe) (hf : ∃ vs, oe.data = .fields vs) : CallR (X.suite a ((a, oe) :: pn)) (.builtin "isinstance")
    (fun xs H Q => ∃ (c : V) (u : Value) (b : Bool), xs = [.ref a, c] ∧ Held cls d D H ∧ ClsV c u ∧ PySem.W.kitOne X.K (.ref D) u = some b ∧ Q (.bl b) H) := by
  intro pins s σ H xs us Q I r h
  obtain ⟨c, u, b, rfl, hh, cv, e, q⟩ := h
  obtain ⟨u1, u2, rfl, r1, r2⟩ := vals2 r
  obtain rfl := cv.eq r2
  cases r1
  obtain ⟨Pr, Z, z⟩ := held_kit C hz hf I hh
  exact PySem.W.kia_one Z I.kIn z e (fun z => nomatch z) fun tk => ⟨.bl b, H, I.tok tk, rfl, q⟩
end
/-! ### _law_refused -/
abbrev sRf : Stmt := top 97
abbrev nmRf : List Str := ["_law_house", "_law_thing", "e"]
abbrev psRf : List Str := ["_law_house", "_law_thing"]
theorem scRf : FnScope nmRf psRf (defScope sRf) := ⟨rfl, rfl, rfl, by decide +kernel, rfl, by decide +kernel, by decide +kernel⟩
def spRf (K : PySem.W.Frag) (C D : Addr) : Sp := fun vs H Q _ => ∃ (x R : Addr) (v : V) (d : PyData) (rs : List Rm), vs = [.ref x, v] ∧ HeldAt D H x R ∧ RsAt C H R rs ∧ Dp K H v d ∧ SeqAt.shaped d = true ∧ (∀ r ∈ rs, SeqAt.shaped (.str r.name) = true ∧ PyData.eqv (.str r.name) d = false) ∧
  (∀ H', Same H H' → Small K H' v) ∧ ∀ p H', Same H H' → H' p = some (.tup [v, .bl true]) → Q (.ref p) H'
section
variable {P : Program} {w : World} {K : PySem.W.Frag} {mg : Str → Option Value} {base : Heap} {f C D CN pf : Addr} {fd pd : FuncData}
theorem ok_rf (O : Own mg) (Z : NoRoomC K mg CN) (hp : mg "places" = some (.ref pf)) (kp : PySem.W.keepIn K (.ref pf) = true) (G : FnG P w K mg base (L2.CX P w) 16 pf pd ["program", "name"] (spROX K C D CN)) (bG : Binds K pd ["program", "name"] [])
    (F : Fun K "_law_refused" "_law_refused" sRf f fd) : FnG P w K mg base CX0 17 f fd psRf (spRf K C D) := by
  refine fun_g F scRf (fun vs H Q E h => ?_) (fun cdv A outer s H vs Q E hG hr h => ?_)
  · obtain ⟨x, R, v, d, rs, rfl, _⟩ := h
    rfl
  obtain ⟨x, R, v, d, rs, rfl, hx, hR, hd, hsh, hne, hsm, q⟩ := h
  have hG' : (A.deeper (envOfC "_law_refused" (defScope sRf) s.heap.objs.size f cdv)).guards = some [] := hG
  have hs : sizeLine = 16777216 := sizeLine_eq
  refine ⟨_, pss_cons (ps_try_as (i := 2) rfl rfl scRf.nd rfl rfl ⟨rfl, by decide, .inl Z.mN⟩ L2.takes0
      (fun W pn xe tk _ => pss_one (ps_expr (pe_callGX (E := fun cls d H => ∀ σ : _root_.L2.St, σ.length = 3 → W cls d σ H) G hG' hr rfl hp kp bG (fun pins σ H s e s' I c => tk e s' (XE.of_call I (fun cls d H' h => h σ I.len) c)) (pa_cons (pv 0) (pa_cons (pv 1) pa_nil)))))
      (fun a oe cls d pn hz hf => pss_one (ps_ret (pe_tup (pa_cons (pe_xf Z.xf Z.no hz hf (pv 2)) (pa_cons (pe_callB (call_isX1 Z.ex hz hf) rfl O.isi (by decide +kernel) (pa_cons (pv 2) (pa_cons (pe_bltn (v := .ty "LookupError") rfl Z.mL (by decide +kernel) rfl) pa_nil))) pa_nil))))))
    (pss_one (ps_ret pe_non)), ?_⟩
  refine ⟨_, rfl, _, rfl, x, R, v, d, rs, rfl, hx, hR, hd, hsh, hne, hsm, fun b H' s1 hb σ hl => ?_⟩
  match σ, hl with
  | [z0, z1, z2], _ =>
    refine ⟨true, Z.me, fun _ a ha => ?_, fun z => nomatch z⟩
    have held : Held (.ref CN) (some b) CN H' := ⟨rfl, b, _, rfl, hb⟩
    exact ⟨_, rfl, rfl, rfl, b, _, _, rfl, hb, lk_hit, _, rfl, _, _, true, rfl, held, .ty "LookupError", Z.le, (by show 2 ≤ sizeLine; omega), fun p np => q p _ (s1.trans (same_new np _)) upd_same⟩
end
end Any
set_option pp.maxSteps 600
namespace Any
open L2 PySem PySem.Spec PyProof.Rows LamX NdefX
/-! ### places as data -/
/-- data that can be laid, so deep at most, with no dict -/
structure Lay (d : PyData) (k : Nat) : Prop where
  lay : d.canLay0 = true
  dp : d.depth ≤ k
  pl : d.plain = true
structure LayAll (ds : List PyData) (k : Nat) : Prop where
  lay : PyData.canLayAll0 ds = true
  dp : PyData.depthAll ds ≤ k
  pl : PyData.plainAll ds = true
theorem LayAll.nil {k : Nat} : LayAll [] k := ⟨rfl, Nat.zero_le _, rfl⟩
theorem LayAll.cons {d : PyData} {ds : List PyData} {k : Nat} (h : Lay d k) (t : LayAll ds k) : LayAll (d :: ds) k := by
  refine ⟨?_, ?_, ?_⟩
  · show (d.canLay0 && PyData.canLayAll0 ds) = true
    rw [h.lay, t.lay]
    rfl
  · show max d.depth (PyData.depthAll ds) ≤ k
    have := h.dp
    have := t.dp
    omega
  · show (d.plain && PyData.plainAll ds) = true
    rw [h.pl, t.pl]
    rfl
theorem Lay.more {d : PyData} {j k : Nat} (h : Lay d j) (l : j ≤ k) : Lay d k := ⟨h.lay, Nat.le_trans h.dp l, h.pl⟩
theorem Lay.tup {ds : List PyData} {k : Nat} (h : LayAll ds k) : Lay (.tuple ds) (k + 1) := ⟨h.lay, Nat.succ_le_succ h.dp, h.pl⟩
theorem Lay.lst {ds : List PyData} {k : Nat} (h : LayAll ds k) : Lay (.list ds) (k + 1) := ⟨h.lay, Nat.succ_le_succ h.dp, h.pl⟩
theorem Lay.int {i : Int} {k : Nat} : Lay (.int i) k := ⟨rfl, Nat.zero_le _, rfl⟩
theorem Lay.bool {i : Bool} {k : Nat} : Lay (.bool i) k := ⟨rfl, Nat.zero_le _, rfl⟩
theorem Lay.str {x : Str} {k : Nat} (h : PyData.strOk x = true) : Lay (.str x) k := ⟨h, Nat.zero_le _, rfl⟩
theorem Lay.shaped {d : PyData} {k : Nat} (h : Lay d k) (l : k ≤ 64) : SeqAt.shaped d = true := by
  unfold SeqAt.shaped
  rw [h.lay, decide_eq_true (Nat.le_trans h.dp l)]
  rfl
def exD : Ex → PyData
  | .num n => .tuple [.str "number", .int n]
  | .box x => .tuple [.str "box", .str x]
  | .asked => .tuple [.str "asked"]
  | .told => .tuple [.str "told"]
  | .op d l r => .tuple [.str d.word, exD l, exD r]
def tsD : Ts → PyData
  | .is l r => .tuple [.str "is", exD l, exD r]
  | .bel l r => .tuple [.str "below", exD l, exD r]
  | .nt t => .tuple [.str "not", tsD t]
  | .both t u => .tuple [.str "both", tsD t, tsD u]
  | .either t u => .tuple [.str "either", tsD t, tsD u]
def plD : Pl → PyData
  | .home i => .tuple [.str "home", .int i]
  | .ifp t y n => .tuple [.str "if", tsD t, .int y, .int n]
  | .forp k e m c => .tuple [.str "for", .int k, exD e, .int m, .int c]
  | .chk k b o => .tuple [.str "check", .int k, .int b, .int o]
  | .ask x r e i j => .tuple [.str "ask", .str x, .str r, exD e, .int i, .int j]
  | .clear r i => .tuple [.str "clear", .str r, .int i]
  | .again r i => .tuple [.str "again", .str r, .int i]
  | .set x e i => .tuple [.str "set", .str x, exD e, .int i]
  | .say x e i => .tuple [.str "say", .str x, exD e, .int i]
  | .hear x i => .tuple [.str "hear", .str x, .int i]
  | .tell b e i => .tuple [.str "tell", .int b, exD e, .int i]
  | .told i => .tuple [.str "told", .int i]
theorem exD_dp {K : PySem.W.Frag} {H : Hp} {v : V} {e : Ex} (h : ExAt H v e) : Dp K H v (exD e) := by
  induction h with
  | num h => exact .tup (SqT.of h) (.cons (.str _) (.cons (.int _) .nil))
  | box h => exact .tup (SqT.of h) (.cons (.str _) (.cons (.str _) .nil))
  | asked h => exact .tup (SqT.of h) (.cons (.str _) .nil)
  | told h => exact .tup (SqT.of h) (.cons (.str _) .nil)
  | op h _ _ i1 i2 => exact .tup (SqT.of h) (.cons (.str _) (.cons i1 (.cons i2 .nil)))
theorem tsD_dp {K : PySem.W.Frag} {H : Hp} {v : V} {e : Ts} (h : TsAt H v e) : Dp K H v (tsD e) := by
  induction h with
  | is h h1 h2 => exact .tup (SqT.of h) (.cons (.str _) (.cons (exD_dp h1) (.cons (exD_dp h2) .nil)))
  | bel h h1 h2 => exact .tup (SqT.of h) (.cons (.str _) (.cons (exD_dp h1) (.cons (exD_dp h2) .nil)))
  | nt h _ i1 => exact .tup (SqT.of h) (.cons (.str _) (.cons i1 .nil))
  | both h _ _ i1 i2 => exact .tup (SqT.of h) (.cons (.str _) (.cons i1 (.cons i2 .nil)))
  | either h _ _ i1 i2 => exact .tup (SqT.of h) (.cons (.str _) (.cons i1 (.cons i2 .nil)))
theorem plD_dp {K : PySem.W.Frag} {H : Hp} {v : V} {p : Pl} (h : PlAt H v p) : Dp K H v (plD p) := by
  cases h with
  | home h => exact .tup (SqT.of h) (.cons (.str _) (.cons (.int _) .nil))
  | ifp h g => exact .tup (SqT.of h) (.cons (.str _) (.cons (tsD_dp g) (.cons (.int _) (.cons (.int _) .nil))))
  | forp h g => exact .tup (SqT.of h) (.cons (.str _) (.cons (.int _) (.cons (exD_dp g) (.cons (.int _) (.cons (.int _) .nil)))))
  | chk h => exact .tup (SqT.of h) (.cons (.str _) (.cons (.int _) (.cons (.int _) (.cons (.int _) .nil))))
  | ask h g => exact .tup (SqT.of h) (.cons (.str _) (.cons (.str _) (.cons (.str _) (.cons (exD_dp g) (.cons (.int _) (.cons (.int _) .nil))))))
  | clear h => exact .tup (SqT.of h) (.cons (.str _) (.cons (.str _) (.cons (.int _) .nil)))
  | again h => exact .tup (SqT.of h) (.cons (.str _) (.cons (.str _) (.cons (.int _) .nil)))
  | set h g => exact .tup (SqT.of h) (.cons (.str _) (.cons (.str _) (.cons (exD_dp g) (.cons (.int _) .nil))))
  | say h g => exact .tup (SqT.of h) (.cons (.str _) (.cons (.str _) (.cons (exD_dp g) (.cons (.int _) .nil))))
  | hear h => exact .tup (SqT.of h) (.cons (.str _) (.cons (.str _) (.cons (.int _) .nil)))
  | tell h g => exact .tup (SqT.of h) (.cons (.str _) (.cons (.int _) (.cons (exD_dp g) (.cons (.int _) .nil))))
  | told h => exact .tup (SqT.of h) (.cons (.str _) (.cons (.int _) .nil))
def foundD (ps : List Pl) : PyData := .list (ps.map plD)
theorem pls_dp {K : PySem.W.Frag} {H : Hp} : ∀ {vs : List V} {ps : List Pl}, Paired (PlAt H) vs ps → DpAll K H vs (ps.map plD)
  | _, _, .nil => .nil
  | _, _, .cons r t => .cons (plD_dp r) (pls_dp t)
theorem found_dp {K : PySem.W.Frag} {H : Hp} {a : Addr} {ps : List Pl} (h : FoundAt H a ps) : Dp K H (.ref a) (foundD ps) := by
  obtain ⟨vs, h1, h2⟩ := h
  exact .lst (SqL.of h1) (pls_dp h2)
theorem word_ok (d : Dd) : PyData.strOk d.word = true := by cases d <;> decide +kernel
theorem exD_lay {xs ws : List Str} (hx : ∀ x ∈ xs, PyData.strOk x = true) : ∀ e : Ex, e.fit xs ws → Lay (exD e) e.deep
  | .num n, _ => .tup (.cons (.str (by decide +kernel)) (.cons .int .nil))
  | .box x, h => by
    unfold Ex.fit at h
    exact .tup (.cons (.str (by decide +kernel)) (.cons (.str (hx x h)) .nil))
  | .asked, _ => .tup (.cons (.str (by decide +kernel)) .nil)
  | .told, _ => .tup (.cons (.str (by decide +kernel)) .nil)
  | .op d l r, h => by
    unfold Ex.fit at h
    exact .tup (.cons (.str (word_ok d)) (.cons ((exD_lay hx l h.1).more (Nat.le_max_left _ _)) (.cons ((exD_lay hx r h.2).more (Nat.le_max_right _ _)) .nil)))
theorem tsD_lay {xs ws : List Str} (hx : ∀ x ∈ xs, PyData.strOk x = true) : ∀ e : Ts, e.fit xs ws → Lay (tsD e) e.dp
  | .is l r, h => by
    unfold Ts.fit at h
    exact .tup (.cons (.str (by decide +kernel)) (.cons ((exD_lay hx l h.1).more (Nat.le_max_left _ _)) (.cons ((exD_lay hx r h.2).more (Nat.le_max_right _ _)) .nil)))
  | .bel l r, h => by
    unfold Ts.fit at h
    exact .tup (.cons (.str (by decide +kernel)) (.cons ((exD_lay hx l h.1).more (Nat.le_max_left _ _)) (.cons ((exD_lay hx r h.2).more (Nat.le_max_right _ _)) .nil)))
  | .nt t, h => by
    unfold Ts.fit at h
    exact .tup (.cons (.str (by decide +kernel)) (.cons (tsD_lay hx t h) .nil))
  | .both l r, h => by
    unfold Ts.fit at h
    exact .tup (.cons (.str (by decide +kernel)) (.cons ((tsD_lay hx l h.1).more (Nat.le_max_left _ _)) (.cons ((tsD_lay hx r h.2).more (Nat.le_max_right _ _)) .nil)))
  | .either l r, h => by
    unfold Ts.fit at h
    exact .tup (.cons (.str (by decide +kernel)) (.cons ((tsD_lay hx l h.1).more (Nat.le_max_left _ _)) (.cons ((tsD_lay hx r h.2).more (Nat.le_max_right _ _)) .nil)))
section
variable {xs ws rs : List Str}
theorem add_one {ps : List Pl} {p : Pl} (h : ∀ q ∈ ps, Lay (plD q) 6) (hp : Lay (plD p) 6) : ∀ q ∈ ps ++ [p], Lay (plD q) 6 := fun q hq => by
  rcases List.mem_append.mp hq with hq | hq
  · exact h q hq
  · rw [List.mem_singleton.mp hq]
    exact hp
mutual
theorem addS_lay (hx : ∀ x ∈ xs, PyData.strOk x = true) (hr : ∀ x ∈ rs, PyData.strOk x = true) : ∀ (s : Sg) (ps : List Pl) (j : Int), s.ok xs ws rs → (∀ q ∈ ps, Lay (plD q) 6) → ∀ q ∈ addS ps j s, Lay (plD q) 6
  | .ifs t a b, ps, j, h, hp => by
    unfold Sg.ok at h
    unfold addS
    exact addB_lay hx hr b _ _ h.2.2.1 (addB_lay hx hr a _ _ h.2.1.1 (add_one hp (.tup (.cons (.str (by decide +kernel)) (.cons ((tsD_lay hx t h.1.1).more h.1.2.1) (.cons .int (.cons .int .nil)))))))
  | .fors e m a, ps, j, h, hp => by
    unfold Sg.ok at h
    unfold addS
    exact addB_lay hx hr a _ _ h.2.2.1 (add_one (add_one hp (.tup (.cons (.str (by decide +kernel)) (.cons .int (.cons ((exD_lay hx e h.1.1).more h.1.2.1) (.cons .int (.cons .int .nil)))))))
      (.tup (.cons (.str (by decide +kernel)) (.cons .int (.cons .int (.cons .int .nil))))))
  | .call x r e, ps, j, h, hp => by
    unfold Sg.ok at h
    unfold addS
    exact add_one (add_one (add_one hp (.tup (.cons (.str (by decide +kernel)) (.cons (.str (hx x h.1)) (.cons (.str (hr r h.2.1)) (.cons ((exD_lay hx e h.2.2.1).more h.2.2.2.1) (.cons .int (.cons .int .nil))))))))
      (.tup (.cons (.str (by decide +kernel)) (.cons (.str (hr r h.2.1)) (.cons .int .nil))))) (.tup (.cons (.str (by decide +kernel)) (.cons (.str (hr r h.2.1)) (.cons .int .nil))))
  | .set x e, ps, j, h, hp => by
    unfold Sg.ok at h
    unfold addS
    exact add_one hp (.tup (.cons (.str (by decide +kernel)) (.cons (.str (hx x h.1)) (.cons ((exD_lay hx e h.2.1).more h.2.2.1) (.cons .int .nil)))))
  | .say x e, ps, j, h, hp => by
    unfold Sg.ok at h
    unfold addS
    exact add_one hp (.tup (.cons (.str (by decide +kernel)) (.cons (.str (hx x h.1)) (.cons ((exD_lay hx e h.2.1).more h.2.2.1) (.cons .int .nil)))))
  | .hear x, ps, j, h, hp => by
    unfold Sg.ok at h
    unfold addS
    exact add_one hp (.tup (.cons (.str (by decide +kernel)) (.cons (.str (hx x h)) (.cons .int .nil))))
theorem addB_lay (hx : ∀ x ∈ xs, PyData.strOk x = true) (hr : ∀ x ∈ rs, PyData.strOk x = true) : ∀ (b : Bd) (ps : List Pl) (j : Int), b.ok xs ws rs → (∀ q ∈ ps, Lay (plD q) 6) → ∀ q ∈ addB ps j b, Lay (plD q) 6
  | .nil, ps, j, h, hp => by
    unfold addB
    exact hp
  | .cons s b, ps, j, h, hp => by
    unfold Bd.ok at h
    unfold addB
    exact addB_lay hx hr b _ _ h.2 (addS_lay hx hr s _ _ h.1 hp)
end
end
theorem lay_all {ps : List Pl} (h : ∀ q ∈ ps, Lay (plD q) 6) : LayAll (ps.map plD) 6 := by
  induction ps with
  | nil => exact .nil
  | cons p r ih => exact .cons (h p (List.mem_cons_self ..)) (ih fun q hq => h q (List.mem_cons_of_mem _ hq))
/-- what is asked of a room, so that its places are data -/
structure Rm.laid (r : Rm) : Prop where
  lays : r.lays
  ok : ∃ xs ws rs, (∀ x ∈ xs, PyData.strOk x = true) ∧ (∀ x ∈ rs, PyData.strOk x = true) ∧ r.body.ok xs ws rs ∧ (∀ i e, r.told = some (i, e) → e.fit xs ws ∧ e.deep ≤ 5)
theorem Rm.laid.lay {r : Rm} (h : r.laid) : Lay (foundD r.places) 7 := by
  obtain ⟨l, xs, ws, rs, hx, hr, hb, ht⟩ := h
  refine .lst (lay_all ?_)
  have h1 : ∀ q ∈ addB [Pl.home (begI r.body 1 r.behind)] r.behind r.body, Lay (plD q) 6 := addB_lay hx hr _ _ _ hb fun q hq => by
    rw [List.mem_singleton.mp hq]
    exact .tup (.cons (.str (by decide +kernel)) (.cons .int .nil))
  unfold Rm.places
  by_cases c : r.above = ""
  · rw [if_pos c]
    exact h1
  · rw [if_neg c]
    obtain ⟨i, e, et⟩ := l.told c
    rw [et]
    obtain ⟨f1, f2⟩ := ht i e et
    exact add_one (add_one h1 (.tup (.cons (.str (by decide +kernel)) (.cons .int (.cons ((exD_lay hx e f1).more f2) (.cons .int .nil)))))) (.tup (.cons (.str (by decide +kernel)) (.cons .int .nil)))
theorem Rm.laid.refl {r : Rm} (h : r.laid) : PyData.eqv (foundD r.places) (foundD r.places) = true := PySem.SeqAt.eqv_refl_plain _ h.lay.pl
end Any
set_option pp.maxSteps 600
namespace Any
open L2 PySem PySem.Spec PyProof.Rows LamX NdefX
/-! ### another body for one room -/
def Rm.put (r : Rm) (b : Bd) : Rm := { r with body := b }
theorem put_map {α : Type} (f : Rm → α) (hf : ∀ r b, f (Rm.put r b) = f r) {rs : List Rm} {k : Nat} {r : Rm} (hk : rs[k]? = some r) (b : Bd) : (rs.set k (r.put b)).map f = rs.map f := by
  refine List.ext_getElem? fun i => ?_
  rw [List.getElem?_map, List.getElem?_map, List.getElem?_set]
  by_cases c : k = i
  · subst c
    have hl : k < rs.length := (List.getElem?_eq_some_iff.mp hk).1
    rw [if_pos rfl, if_pos hl, hk]
    exact congrArg some (hf r b)
  · rw [if_neg c]
theorem fold_climb : ∀ {l l' : List Rm}, l.map (fun r => (r.name, r.above)) = l'.map (fun r => (r.name, r.above)) → ∀ st, l.foldl climb st = l'.foldl climb st
  | [], [], _, _ => rfl
  | [], _ :: _, h, _ => by cases h
  | _ :: _, [], h, _ => by cases h
  | r :: l, r' :: l', h, st => by
    rw [List.map_cons, List.map_cons] at h
    obtain ⟨h1, h2⟩ := List.cons.inj h
    have e : climb st r = climb st r' := by
      unfold climb
      rw [(Prod.mk.inj h1).1, (Prod.mk.inj h1).2]
    rw [List.foldl_cons, List.foldl_cons, e]
    exact fold_climb h2 _
theorem ben_of {l l' : List Rm} (h : l.map (fun r => (r.name, r.above)) = l'.map (fun r => (r.name, r.above))) (n : Str) : ben l n = ben l' n := by
  have e : ∀ l : List Rm, ben l n = ((l.map fun r => (r.name, r.above)).filter fun z => decide (z.2 = n)).map (·.1) := fun l => by
    unfold ben
    rw [List.filter_map, List.map_map]
    rfl
  rw [e, e, h]
theorem right_put {rs : List Rm} (h : Right rs) {k : Nat} {r : Rm} (hk : rs[k]? = some r) {b : Bd} (hb : ∀ ws, b.right r.bn ws (ben rs r.name)) : Right (rs.set k (r.put b)) := by
  have both : (rs.set k (r.put b)).map (fun r => (r.name, r.above)) = rs.map (fun r => (r.name, r.above)) := put_map _ (fun _ _ => rfl) hk b
  have nms : (rs.set k (r.put b)).map (·.name) = rs.map (·.name) := put_map _ (fun _ _ => rfl) hk b
  have bens : ∀ n, ben (rs.set k (r.put b)) n = ben rs n := ben_of both
  have fl : ∀ i a, floorOf (rs.set k (r.put b)) i a = floorOf rs i a := fun i a => by
    unfold floorOf
    rw [fold_climb (l' := (rs.take i).reverse)]
    rw [List.map_reverse, List.map_reverse, List.map_take, List.map_take, both]
  refine ⟨by rw [List.length_set]; exact h.lo, by rw [List.length_set]; exact h.hi, fun i r' hi => ?_⟩
  have ok : ∀ r0 : Rm, rs[i]? = some r0 → (r'.name = r0.name ∧ r'.above = r0.above ∧ r'.boxes = r0.boxes ∧ r'.sayings = r0.sayings ∧ r'.ask = r0.ask ∧ r'.told = r0.told ∧ r'.promise = r0.promise) → (∀ ws, r0.body.right r0.bn ws (ben rs r0.name) → r'.body.right r0.bn ws (ben rs r0.name)) → roomOk (rs.set k (r.put b)) i r' := by
    intro r0 h0 ⟨e1, e2, e3, e4, e5, e6, e7⟩ hb'
    have z := h.all i r0 h0
    have ebn : r'.bn = r0.bn := by unfold Rm.bn; rw [e3]
    refine ⟨by rw [e1]; exact z.name, by rw [List.map_take, nms, ← List.map_take, e1]; exact z.one, ?_, ?_, by rw [ebn]; exact z.asc, ?_, fun i0 => ?_, fun i0 => ?_⟩
    · have := z.above
      unfold aboveOk at this ⊢
      rw [e2, List.map_take, nms, ← List.map_take, fl]
      exact this
    · have := z.boxes
      unfold Rm.boxesOk at this ⊢
      rw [ebn, e3]
      exact this
    · have := z.says
      unfold Rm.saysOk Rm.firsts at this ⊢
      rw [ebn, e4, e3]
      exact this
    · obtain ⟨a1, a2⟩ := z.first i0
      refine ⟨?_, by rw [ebn, bens, e1]; exact hb' _ a2⟩
      unfold Rm.firstOk at a1 ⊢
      rw [e5, e6, e7]
      exact a1
    · obtain ⟨a1, a2⟩ := z.other i0
      refine ⟨?_, by rw [ebn, bens, e1]; exact hb' _ a2⟩
      unfold Rm.otherOk at a1 ⊢
      rw [e5, e6, e7, ebn]
      exact a1
  rw [List.getElem?_set] at hi
  by_cases c : k = i
  · subst c
    have hl : k < rs.length := (List.getElem?_eq_some_iff.mp hk).1
    rw [if_pos rfl, if_pos hl] at hi
    cases hi
    exact ok r hk ⟨rfl, rfl, rfl, rfl, rfl, rfl, rfl⟩ fun ws _ => hb ws
  · rw [if_neg c] at hi
    exact ok r' hi ⟨rfl, rfl, rfl, rfl, rfl, rfl, rfl⟩ fun ws h => h
/-- a nest is a right body -/
theorem nest_right {name goal : Str} {b : Bd} (h : NestB name goal 3 b) {xs rs : List Str} (hx : name ∈ xs) (hg : goal ≠ "" → goal ∈ rs) : ∀ ws, b.right xs ws rs := fun ws =>
  ⟨h.ok xs ws rs hx hg, by have := h.len; omega, by have := h.dp; omega, by have := h.tot; omega⟩
theorem right_bd {rs : List Rm} (h : Right rs) {i : Nat} {r : Rm} (hi : rs[i]? = some r) : ∃ ws, r.body.right r.bn ws (ben rs r.name) := by
  have z := h.all i r hi
  by_cases c : i = 0
  · exact ⟨_, (z.first c).2⟩
  · exact ⟨_, (z.other c).2⟩
theorem ben_nm {rs : List Rm} (h : Right rs) {n x : Str} (hx : x ∈ ben rs n) : Nm x := by
  unfold ben at hx
  obtain ⟨o, h1, rfl⟩ := List.mem_map.mp hx
  obtain ⟨j, hj⟩ := List.getElem?_of_mem (List.mem_filter.mp h1).1
  exact (h.all j o hj).name
theorem right_laid {rs : List Rm} (h : Right rs) {i : Nat} {r : Rm} (hi : rs[i]? = some r) : r.laid := by
  have z := h.all i r hi
  have told : r.above ≠ "" → r.otherOk := fun c => by
    by_cases i0 : i = 0
    · exact absurd (z.above.1 i0) c
    · exact (z.other i0).1
  have hx : ∀ x ∈ r.bn, PyData.strOk x = true := fun x hx => by
    unfold Rm.bn at hx
    obtain ⟨o, h1, rfl⟩ := List.mem_map.mp hx
    exact nm_ok (z.boxes.2.1 o h1).1
  have hr : ∀ x ∈ ben rs r.name, PyData.strOk x = true := fun x hx => nm_ok (ben_nm h hx)
  obtain ⟨ws, b1, b2, b3, b4⟩ := right_bd h hi
  refine ⟨⟨⟨_, _, _, b1⟩, b2, b3, ?_, fun c => ?_⟩, ?_⟩
  · have := Bd.sz_tot r.body
    omega
  · obtain ⟨_, ⟨i, e, et, _⟩, _⟩ := told c
    exact ⟨i, e, et⟩
  · by_cases c : i = 0
    · exact ⟨_, _, _, hx, hr, (z.first c).2.1, fun i e et => by rw [(z.first c).1.2.1] at et; cases et⟩
    · refine ⟨_, _, _, hx, hr, (z.other c).2.1, fun i e et => ?_⟩
      obtain ⟨_, ⟨i', e', et', _, er⟩, _⟩ := (z.other c).1
      rw [et'] at et
      cases et
      exact ⟨er.1, er.2.1⟩
/-- no room's name comes twice -/
theorem right_one {rs : List Rm} (h : Right rs) {i : Nat} {r : Rm} (hi : rs[i]? = some r) : ∀ (j : Nat) (r' : Rm), j < i → rs[j]? = some r' → r'.name ≠ r.name := fun j r' hj h' e => by
  refine (h.all i r hi).one ?_
  rw [← e]
  exact List.mem_map_of_mem (List.mem_of_getElem? (by rw [List.getElem?_take, if_pos hj]; exact h'))
end Any
set_option pp.maxSteps 600
namespace Any
open L2 PySem PySem.Spec PyProof.Rows LamX NdefX
/-! ### law -/
abbrev sLaw : Stmt := top 98
abbrev nmLaw : List Str := ["_law_script", "_law_at", "_law_bag_here", "_law_rooms_here", "_law_spot", "_law_some", "_law_beneath", "_law_house", "_law_due", "_law_found", "_law_thing", "_law_row"]
theorem scLaw : FnScope nmLaw ["_law_script"] (defScope sLaw) := ⟨rfl, rfl, rfl, by decide +kernel, rfl, by decide +kernel, by decide +kernel⟩
abbrev lwB : List Stmt := match defBody sLaw with
  | x :: _ => forBody x
  | [] => []
/-- a thing that is no drawn name -/
structure Tng (K : PySem.W.Frag) (H : Hp) (v : V) (d : PyData) : Prop where
  dp : Dp K H v d
  lay : Lay d 1
  ne : ∀ x ∈ eight8, PyData.eqv (.str x) d = false
  sm : Small K H v
theorem tng_non {K : PySem.W.Frag} {H : Hp} : Tng K H .non .none := ⟨.non, ⟨rfl, Nat.zero_le _, rfl⟩, fun _ _ => by simp only [PyData.eqv], _, .non, by decide +kernel⟩
theorem tng_int {K : PySem.W.Frag} {H : Hp} : Tng K H (.int 0) (.int 0) := ⟨.int 0, .int, fun _ _ => by simp only [PyData.eqv], _, .int 0 (by decide +kernel), by decide +kernel⟩
theorem tng_bl {K : PySem.W.Frag} {H : Hp} : Tng K H (.bl true) (.bool true) := ⟨.bl true, .bool, fun _ _ => by simp only [PyData.eqv], _, .bl true, by decide +kernel⟩
theorem tng_str {K : PySem.W.Frag} {H : Hp} (y : Str) (h1 : PyData.strOk y = true) (h2 : y ∉ eight8) (h3 : (reprText y).length ≤ 2000) : Tng K H (.str y) (.str y) :=
  ⟨.str y, .str h1, fun x hx => by
    simp only [PyData.eqv]
    exact decide_eq_false fun z => h2 (z ▸ hx), _, .str y, h3⟩
theorem tng_tup {K : PySem.W.Frag} {H : Hp} {p : Addr} (h : H p = some (.tup [.str "tick"])) : Tng K H (.ref p) (.tuple [.str "tick"]) :=
  ⟨.tup (SqT.of h) (.cons (.str _) .nil), .tup (.cons (.str (by decide +kernel)) .nil), fun x hx => by simp only [PyData.eqv], _, .dat (.seq (.tup (SqT.of h) (.cons (.str _) .nil)) rfl) (by decide +kernel) (by decide +kernel), by decide +kernel⟩
section
variable {P : Program} {w : World} {K : PySem.W.Frag} {mg : Str → Option Value} {base : Heap} {f C D_ : Addr} {cdv : Value} {A : Around} {outer : List Env} {s : Shared} {H : Hp} {E : XK}
abbrev XLw (P : Program) (w : World) (K : PySem.W.Frag) (mg : Str → Option Value) (base : Heap) (f : Addr) (cdv : Value) (A : Around) (outer : List Env) (s : Shared) (H : Hp) (E : XK) : Cx := (cxOf CX0 P w K mg base nmLaw "law" (defScope sLaw) f cdv A outer s H E).nox
theorem law_things (DF : DfG P w K mg base 17 "_law_refused" psRf (spRf K C D_)) (hG : (XLw P w K mg base f cdv A outer s H E).A.guards = some []) (hr : Room 17 (XLw P w K mg base f cdv A outer s H E).A) : ∃ t7, PSs (XLw P w K mg base f cdv A outer s H E) (lwB.drop 7) t7 ∧
    ∀ (D : Ends) (H9 : Hp) (z0 z1 z2 z3 z4 z5 z6 z8 z9 z10 z11 : Option V) (x R : Addr) (rs : List Rm), HeldAt D_ H9 x R → RsAt C H9 R rs → (∀ r ∈ rs, r.name ∈ eight8) →
      (∀ H' y10, Same H9 H' → D.nx [z0, z1, z2, z3, z4, z5, z6, some (.ref x), z8, z9, y10, z11] H') → t7 D [z0, z1, z2, z3, z4, z5, z6, some (.ref x), z8, z9, z10, z11] H9 := by
  refine ⟨_, pss_one (ps_for PassesOwn.never rfl (pi_list (pe_lst (pa_cons pe_non (pa_cons pe_str (pa_cons pe_str (pa_cons pe_int (pa_cons pe_bl (pa_cons (pe_tup (pa_cons pe_str pa_nil)) pa_nil)))))))) (pg_name (i := 10) scLaw.nd rfl (Or.inl rfl))
    (pss_one (ps_if (pt_cmpR (op_neD hr.units) (pe_DG DF hG hr rfl (pa_cons (pv 7) (pa_cons (pv 10) pa_nil))) (pe_tup (pa_cons (pv 10) (pa_cons pe_bl pa_nil))) (nomark _)) (pss_one (ps_ret pe_bl)) pss_nil))), ?_⟩
  intro D H9 z0 z1 z2 z3 z4 z5 z6 z8 z9 z10 z11 x R rs hx hR hn q
  refine ⟨(by show 1 ≤ sizeLine; rw [sizeLine_eq]; omega), fun pt nt => ⟨(by show 6 ≤ sizeLine; rw [sizeLine_eq]; omega), fun pl nl => ?_⟩⟩
  have s1 := same_new nt (.tup [.str "tick"])
  have s2 := same_new nl (.lst [.non, .str "", .str "nobody", .int 0, .bl true, .ref pt])
  have s12 := s1.trans s2
  refine ⟨pl, rfl, ⟨_, SqL.of upd_same⟩, ?_⟩
  refine for_list (K := K) (a := pl) (xs := [.non, .str "", .str "nobody", .int 0, .bl true, .ref pt]) (fun i σ Hc => ∃ y10, σ = [z0, z1, z2, z3, z4, z5, z6, some (.ref x), z8, z9, y10, z11] ∧ Same _ Hc) ⟨z10, rfl, same_refl⟩ ?_ ?_ ?_
  · rintro i σ Hc _ ⟨y, rfl, sm⟩
    exact SqL.of (sm _ _ upd_same)
  · rintro i v σ Hc hv ⟨y, rfl, sm⟩
    have s3 := s12.trans sm
    obtain ⟨d, td⟩ : ∃ d, ∀ H', Same Hc H' → Tng K H' v d := by
      have ht := sm _ _ (s2 _ _ upd_same)
      match i, hv with
      | 0, hv => cases hv; exact ⟨_, fun _ _ => tng_non⟩
      | 1, hv => cases hv; exact ⟨_, fun _ _ => tng_str _ (by decide +kernel) (by decide +kernel) (by decide +kernel)⟩
      | 2, hv => cases hv; exact ⟨_, fun _ _ => tng_str _ (by decide +kernel) (by decide +kernel) (by decide +kernel)⟩
      | 3, hv => cases hv; exact ⟨_, fun _ _ => tng_int⟩
      | 4, hv => cases hv; exact ⟨_, fun _ _ => tng_bl⟩
      | 5, hv => cases hv; exact ⟨_, fun H' k => tng_tup (k _ _ ht)⟩
      | i + 6, hv => simp at hv
    have t0 := td Hc same_refl
    refine ⟨_, rfl, _, rfl, x, R, v, d, rs, rfl, hx.keep s3, hR.keep s3, t0.dp, t0.lay.shaped (by decide), fun r hr => ⟨(Lay.str (nm_ok (eight_nm _ (hn r hr)))).shaped (by decide : 0 ≤ 64), t0.ne _ (hn r hr)⟩, fun H' k => (td H' k).sm, fun p H' k hp => ?_⟩
    refine ⟨_, rfl, (by show 2 ≤ sizeLine; rw [sizeLine_eq]; omega), fun p2 n2 => ?_⟩
    have s4 := same_new n2 (.tup [v, .bl true])
    have t4 := td _ (k.trans s4)
    have ly : Lay (.tuple [d, .bool true]) 2 := .tup (.cons t4.lay (.cons .bool .nil))
    refine ⟨.tuple [d, .bool true], .tuple [d, .bool true], .tup (SqT.of (s4 _ _ hp)) (.cons t4.dp (.cons (.bl true) .nil)), .tup (SqT.of upd_same) (.cons t4.dp (.cons (.bl true) .nil)), ly.shaped (by decide), ly.shaped (by decide), _, rfl, itF ?_ ⟨_, rfl, sm.trans (k.trans s4)⟩⟩
    rw [PySem.SeqAt.eqv_refl_plain _ ly.pl]
    rfl
  · rintro σ Hc ⟨y, rfl, sm⟩
    exact q _ _ (s12.trans sm)
end
end Any
set_option pp.maxSteps 600
namespace Any
open L2 PySem PySem.Spec PyProof.Rows LamX NdefX
theorem PlAt.tup {H : Hp} {v : V} {p : Pl} (h : PlAt H v p) : ∃ a ys, v = .ref a ∧ H a = some (.tup ys) := by
  cases h with
  | home h => exact ⟨_, _, rfl, h⟩
  | ifp h g => exact ⟨_, _, rfl, h⟩
  | forp h g => exact ⟨_, _, rfl, h⟩
  | chk h => exact ⟨_, _, rfl, h⟩
  | ask h g => exact ⟨_, _, rfl, h⟩
  | clear h => exact ⟨_, _, rfl, h⟩
  | again h => exact ⟨_, _, rfl, h⟩
  | set h g => exact ⟨_, _, rfl, h⟩
  | say h g => exact ⟨_, _, rfl, h⟩
  | hear h => exact ⟨_, _, rfl, h⟩
  | tell h g => exact ⟨_, _, rfl, h⟩
  | told h => exact ⟨_, _, rfl, h⟩
theorem places_len (r : Rm) : 1 ≤ r.places.length := by
  have h : 1 ≤ (addB [Pl.home (begI r.body 1 r.behind)] r.behind r.body).length := by
    rw [addB_len]
    show 1 ≤ 1 + _
    omega
  unfold Rm.places
  by_cases c : r.above = ""
  · rw [if_pos c]
    exact h
  · rw [if_neg c]
    cases r.told with
    | none => exact h
    | some z =>
      obtain ⟨b, e⟩ := z
      show 1 ≤ (addB [Pl.home (begI r.body 1 r.behind)] r.behind r.body ++ [Pl.tell b e (r.behind + 1)] ++ [Pl.told 0]).length
      rw [List.length_append, List.length_append]
      omega
theorem places_hi {r : Rm} (h : r.lays) : r.places.length ≤ 1000 := by
  have h1 := h.sz
  have h2 : (addB [Pl.home (begI r.body 1 r.behind)] r.behind r.body).length ≤ 901 := by
    rw [addB_len]
    show 1 + _ ≤ 901
    omega
  unfold Rm.places
  by_cases c : r.above = ""
  · rw [if_pos c]
    exact Nat.le_trans h2 (by omega)
  · rw [if_neg c]
    cases r.told with
    | none => exact Nat.le_trans h2 (by omega)
    | some z =>
      obtain ⟨b, e⟩ := z
      show (addB [Pl.home (begI r.body 1 r.behind)] r.behind r.body ++ [Pl.tell b e (r.behind + 1)] ++ [Pl.told 0]).length ≤ 1000
      rw [List.length_append, List.length_append, List.length_singleton, List.length_singleton]
      omega
section
variable {P : Program} {w : World} {K : PySem.W.Frag} {mg : Str → Option Value} {base : Heap} {f C D_ : Addr} {cdv : Value} {A : Around} {outer : List Env} {s : Shared} {H : Hp} {E : XK}
theorem law_each (O : Own mg) (DF : DfG P w K mg base 17 "_law_refused" psRf (spRf K C D_)) (DL : Df P w K mg base 7 "_law_places" ["_law_some"] spLPl) (DP : Df P w K mg base 16 "places" ["program", "name"] (spPls C D_))
    (hG : (XLw P w K mg base f cdv A outer s H E).A.guards = some []) (hr : Room 17 (XLw P w K mg base f cdv A outer s H E).A) : ∃ t6, PSs (XLw P w K mg base f cdv A outer s H E) (lwB.drop 6) t6 ∧
    ∀ (D : Ends) (H9 : Hp) (z0 z1 z2 z4 z5 z6 z8 z9 z10 z11 : Option V) (l x R : Addr) (as : List Addr) (rs : List Rm), HeldAt D_ H9 x R → RsAt C H9 R rs → H9 l = some (.lst (as.map V.ref)) → Paired (EightAt H9) as rs → Right rs → (∀ r ∈ rs, r.name ∈ eight8) →
      (∀ H' y5 y8 y9 y10 y11, Same H9 H' → D.nx [z0, z1, z2, some (.ref l), z4, y5, z6, some (.ref x), y8, y9, y10, y11] H') → t6 D [z0, z1, z2, some (.ref l), z4, z5, z6, some (.ref x), z8, z9, z10, z11] H9 := by
  obtain ⟨t7, ht7, leaf7⟩ := law_things (C := C) (D_ := D_) (f := f) (cdv := cdv) (A := A) (outer := outer) (s := s) (H := H) (E := E) DF hG hr
  have hr7 := hr.mono (show 7 ≤ 17 by omega)
  have hr16 := hr.mono (show 16 ≤ 17 by omega)
  refine ⟨_, pss_cons (ps_for PassesOwn.never rfl (pi_list (pv 3)) (pg_name (i := 5) scLaw.nd rfl (Or.inl rfl))
    (pss_cons (ps_par (i := 8) (j := 9) (by rfl) scLaw.nd rfl rfl (by decide) rfl rfl (pa_cons (pe_D DL hr7 rfl (pa_cons (pv 5) pa_nil)) (pa_cons (pe_D DP hr16 rfl (pa_cons (pv 7) (pa_cons (pe_ix ix_tup (pv 5) pe_int (fun _ _ => rfl)) pa_nil))) pa_nil)) (by rfl))
    (pss_cons (ps_if (PW.pt (pw_or (pt_cmpR (op_neD hr.units) (pv 9) (pv 8) (nomark _)) (pw_or (pt_not (pt_val (pe_callB call_isi rfl O.isi (by decide +kernel) (pa_cons (pv 9) (pa_cons (pe_bltn (v := .ty "list") rfl O.list (by decide +kernel) rfl) pa_nil)))))
        (pw_or1 (pt_not (pt_val (pe_callB (cr_all rfl) rfl O.all (by decide +kernel) (pa_cons (pe_lc (own := [("_law_row", 11)]) (g := gName 11) (tt := tYes) rfl scLaw.nd (pi_list (pv 9)) (blkOk_by (N := nmLaw) (sc := defScope sLaw) (by decide +kernel))
          (fun _ _ _ _ _ => pg_name (i := 11) scLaw.nd rfl (Or.inl rfl)) (fun _ _ _ _ _ => pts_nil) (fun _ _ _ _ _ => pe_callB (show CallR _ (.builtin "isinstance") (rIsi K) from call_isi) rfl O.isi (by decide +kernel) (pa_cons (pv 11) (pa_cons (pe_bltn (v := .ty "tuple") rfl O.tuple (by decide +kernel) rfl) pa_nil)))) pa_nil))))))))
      (pss_one (ps_ret pe_bl)) pss_nil)
    (pss_cons (ps_expr (pe_bm0 PySem.F.plainAttrs_list PySem.F.slot_list_pop PySem.F.type_list_pop mt_pop (pv 9)))
    (pss_one (ps_if (pt_cmpR (op_neD hr.units) (pe_D DP hr16 rfl (pa_cons (pv 7) (pa_cons (pe_ix ix_tup (pv 5) pe_int (fun _ _ => rfl)) pa_nil))) (pv 8) (nomark _)) (pss_one (ps_ret pe_bl)) pss_nil)))))) ht7, ?_⟩
  intro D H9 z0 z1 z2 z4 z5 z6 z8 z9 z10 z11 l x R as rs hx hR hl hp ok hn q
  have hs : sizeLine = 16777216 := sizeLine_eq
  refine ⟨_, rfl, l, rfl, ⟨_, SqL.of hl⟩, ?_⟩
  refine for_list (K := K) (a := l) (xs := as.map V.ref) (fun i σ Hc => ∃ y5 y8 y9 y11, σ = [z0, z1, z2, some (.ref l), z4, y5, z6, some (.ref x), y8, y9, z10, y11] ∧ Same H9 Hc) ⟨z5, z8, z9, z11, rfl, same_refl⟩ ?_ ?_ ?_
  · rintro i σ Hc _ ⟨y5, y8, y9, y11, rfl, sm⟩
    exact SqL.of (sm _ _ hl)
  · rintro i v σ Hc hv ⟨y5, y8, y9, y11, rfl, sm⟩
    obtain ⟨e, he, rfl⟩ := refs_at hv
    obtain ⟨r, hi, h8⟩ := paired_get hp he
    obtain ⟨n, ab, b, sy, k, t, pr, y, e1, pa⟩ := id h8
    have h8 := h8.keep (Same.tups sm)
    have ld := right_laid ok hi
    have ly := ld.lay
    have sh := ly.shaped (by decide)
    have en := pa.name
    subst en
    refine ⟨_, rfl, e, r, rfl, h8, ld.lays, fun p1 H1 n1 k1 f1 => ?_⟩
    refine ⟨_, rfl, _, rfl, e, _, _, _, rfl, rfl, SqT.of ((sm.trans k1) _ _ e1), atI_nat (j := 0) rfl, ?_⟩
    have s1 := sm.trans k1
    refine ⟨x, R, r.name, rs, i, r, rfl, hx.keep s1, hR.keep s1, hi, rfl, right_one ok hi, ld.lays, fun p2 H2 n2 k2 f2 => ?_⟩
    have s2 := s1.trans k2
    have f1' := f1.keep k2
    obtain ⟨vs, l2, q2⟩ := id f2
    have lv := paired_len q2
    have vpos : 1 ≤ vs.length := by
      have := places_len r
      omega
    refine ⟨_, _, rfl, ?_⟩
    refine ⟨_, rfl, _, rfl, _, _, found_dp f2, found_dp f1', sh, sh, _, rfl, itF (by rw [ld.refl]; rfl) ?_⟩
    refine ⟨_, rfl, _, _, _, _, true, rfl, .ty "list", .base (.lst l2), kb "list" "list" true, _, rfl, itF rfl ?_⟩
    refine ⟨_, rfl, p2, rfl, ⟨_, SqL.of l2⟩, fun Cc nC => ?_⟩
    refine lc_list (K := K) (a := p2) (xs := vs) (fun i Hc => Hc Cc = some (.lst ((List.replicate i true).map V.bl)) ∧ Same H2 Hc) ⟨upd_same, same_new nC _⟩ ?_ ?_ ?_
    · rintro j H3 _ ⟨_, k3⟩
      exact SqL.of (k3 _ _ l2)
    · rintro j v H3 hv ⟨c3, k3⟩
      obtain ⟨pl, hpl, hat⟩ := paired_get q2 hv
      obtain ⟨a, ys, ev, ha⟩ := hat.tup
      subst ev
      have jl : j < vs.length := (List.getElem?_eq_some_iff.mp hv).1
      refine ⟨rfl, _, rfl, _, _, _, _, true, rfl, .ty "tuple", .base (.tup (k3 _ _ ha)), kb "tuple" "tuple" true, _, c3, ?_, ?_, fun b o hb => ?_⟩
      · rw [List.length_map, List.length_replicate]
        have := places_hi ld.lays
        omega
      · rw [upd_same, List.replicate_succ', List.map_append]
        rfl
      · rw [upd_ne (ne_of_none hb nC)]
        exact k3 _ _ hb
    · rintro H3 ⟨c3, k3⟩
      refine ⟨_, _, rfl, SqL.of c3, ?_⟩
      rw [show (List.replicate vs.length true).all id = true by simp]
      refine ⟨_, rfl, itF rfl ?_⟩
      refine ⟨_, rfl, .inl ⟨rfl, _, SqL.of (k3 _ _ l2)⟩, p2, vs, vs[vs.length - 1], rfl, rfl, k3 _ _ l2, List.getElem?_eq_getElem (by omega), ?_⟩
      have n9 : H9 p2 = none := by
        cases z : H9 p2 with
        | none => rfl
        | some o =>
          rw [s1 _ _ z] at n2
          cases n2
      have n1' : p1 ≠ p2 := fun z => by
        obtain ⟨v1, w1, _⟩ := f1
        rw [z, n2] at w1
        cases w1
      have sp : Same H9 (upd H3 p2 (.lst vs.dropLast)) := fun b o hb => by
        rw [upd_ne (ne_of_none hb n9)]
        exact k3 _ _ (s2 _ _ hb)
      have fp : FoundAt (upd H3 p2 (.lst vs.dropLast)) p1 r.places := by
        obtain ⟨v1, w1, w2⟩ := f1'
        refine ⟨v1, ?_, paired_imp (fun _ _ z => z.keep fun b ts hb => ?_) w2⟩
        · rw [upd_ne n1']
          exact k3 _ _ w1
        · rw [upd_ne (ne_of hb l2 (by intro z; cases z))]
          exact k3 _ _ hb
      refine ⟨_, rfl, _, rfl, e, _, _, _, rfl, rfl, SqT.of (sp _ _ e1), atI_nat (j := 0) rfl, ?_⟩
      refine ⟨x, R, r.name, rs, i, r, rfl, hx.keep sp, hR.keep sp, hi, rfl, right_one ok hi, ld.lays, fun p3 H4 n4 k4 f4 => ?_⟩
      refine ⟨_, rfl, _, _, found_dp f4, found_dp (fp.keep k4), sh, sh, _, rfl, itF (by rw [ld.refl]; rfl) ?_⟩
      exact ⟨_, _, _, _, rfl, sp.trans k4⟩
  · rintro σ Hc ⟨y5, y8, y9, y11, rfl, sm⟩
    exact leaf7 _ _ _ _ _ _ _ _ _ _ _ _ _ x R rs (hx.keep sm) (hR.keep sm) hn fun H' y10 k => q H' _ _ _ _ _ (sm.trans k)
end
end Any
set_option pp.maxSteps 600
namespace Any
open L2 PySem PySem.Spec PyProof.Rows LamX NdefX
theorem paired_set' {α β : Type} {R : α → β → Prop} : ∀ {xs : List α} {ys : List β}, Paired R xs ys → ∀ {x : α} {y : β}, R x y → ∀ k, Paired R (xs.set k x) (ys.set k y)
  | _, _, .nil, _, _, _, _ => .nil
  | _, _, .cons _ t, _, _, h, 0 => .cons h t
  | _, _, .cons r t, _, _, h, k + 1 => .cons r (paired_set' t h k)
section
variable {P : Program} {w : World} {K : PySem.W.Frag} {mg : Str → Option Value} {base : Heap} {f C D_ : Addr} {cdv : Value} {A : Around} {outer : List Env} {s : Shared} {H : Hp} {E : XK} {T : List NTab}
set_option maxHeartbeats 2000000 in
theorem law_spot (O : Own mg) (DF : DfG P w K mg base 17 "_law_refused" psRf (spRf K C D_)) (DL : Df P w K mg base 7 "_law_places" ["_law_some"] spLPl) (DP : Df P w K mg base 16 "places" ["program", "name"] (spPls C D_))
    (DN : Df P w K mg base 6 "_law_nest" psNs (spNest 4)) (DM : Df P w K mg base 32 "_law_program" ["_law_rooms_here"] (spLProg T C D_))
    (hG : (XLw P w K mg base f cdv A outer s H E).A.guards = some []) (hr : Room 32 (XLw P w K mg base f cdv A outer s H E).A) : ∃ t3, PSs (XLw P w K mg base f cdv A outer s H E) (lwB.drop 3) t3 ∧
    ∀ (D : Ends) (H0 H9 : Hp) (z0 z1 z5 z6 z7 z8 z9 z10 z11 : Option V) (b l : Addr) (as : List Addr) (rs : List Rm) (k M : Nat), Gr T H0 H9 → H0 b = none → H0 l = none → l ≠ b → Bag H9 b M → M + 100 < 2 ^ 40 → H9 l = some (.lst (as.map V.ref)) → Paired (EightAt H9) as rs → Right rs →
      (∀ r ∈ rs, 1 ≤ r.boxes.length) → (∀ r ∈ rs, r.name ∈ eight8) → k < rs.length →
      (∀ H' y5 y6 y7 y8 y9 y10 y11, Gr T H0 H' → D.nx [z0, z1, some (.ref b), some (.ref l), some (.int k), y5, y6, y7, y8, y9, y10, y11] H') → t3 D [z0, z1, some (.ref b), some (.ref l), some (.int k), z5, z6, z7, z8, z9, z10, z11] H9 := by
  obtain ⟨t6, ht6, leaf6⟩ := law_each (C := C) (D_ := D_) (f := f) (cdv := cdv) (A := A) (outer := outer) (s := s) (H := H) (E := E) O DF DL DP hG (hr.mono (by omega))
  have hr6 := hr.mono (show 6 ≤ 32 by omega)
  have hs : sizeLine = 16777216 := sizeLine_eq
  refine ⟨_, pss_cons (ps_set (i := 6) scLaw.nd rfl (Or.inl rfl) (pe_op op_cat (pe_lc (own := [("_law_some", 5)]) (g := gName 5) rfl scLaw.nd (pi_list (pv 3)) (blkOk_by (N := nmLaw) (sc := defScope sLaw) (by decide +kernel))
          (fun _ _ _ _ _ => pg_name (i := 5) scLaw.nd rfl (Or.inl rfl)) (fun _ _ _ _ _ => pts_one (pt_cmpR op_eq (pe_ix (show IxR _ (rIxT K) from ix_tup) (pv 5) pe_int (fun _ _ => rfl)) (pe_ix (show IxR _ (rIxT K) from ix_tup) (pe_ix (show IxR _ (rIxL K) from ix_list) (pv 3) (pv 4) (fun _ _ => rfl)) pe_int (fun _ _ => rfl)) (nomark _)))
          (fun _ _ _ _ _ => pe_ix (show IxR _ (rIxT K) from ix_tup) (pv 5) pe_int (fun _ _ => rfl))) (pe_lst (pa_cons pe_str pa_nil))))
    (pss_cons (ps_asg (pe_op op_catA (pe_slice sl_tupA (pe_ix ix_list (pv 3) (pv 4) (fun _ _ => rfl)) po_none (po_some pe_int)) (pe_tup (pa_cons (pe_D DN hr6 rfl (pa_cons (pv 2) (pa_cons (pe_ix ix_tup (pe_ix ix_tup (pe_ix ix_tup (pe_ix ix_list (pv 3) (pv 4) (fun _ _ => rfl)) pe_int (fun _ _ => rfl)) pe_int (fun _ _ => rfl)) pe_int (fun _ _ => rfl))
        (pa_cons (pe_ix ix_list (pv 6) pe_int (fun _ _ => rfl)) (pa_cons pe_int pa_nil))))) pa_nil))) (pg_sub (pv 3) (pv 4) set_list))
    (pss_cons (ps_set (i := 7) scLaw.nd rfl (Or.inl rfl) (pe_D DM hr rfl (pa_cons (pv 3) pa_nil))) ht6)), ?_⟩
  intro D H0 H9 z0 z1 z5 z6 z7 z8 z9 z10 z11 b l as rs k M g nb0 nl0 lb hB hM hl hp ok hbx hn hk q
  have hlen := paired_len hp
  have h8 := ok.hi
  obtain ⟨e, r, he, hrk, hat⟩ : ∃ e r, as[k]? = some e ∧ rs[k]? = some r ∧ EightAt H9 e r := by
    have hrk : rs[k]? = some rs[k] := List.getElem?_eq_getElem hk
    obtain ⟨e, he, hat⟩ := paired_put hp hrk
    exact ⟨e, _, he, hrk, hat⟩
  obtain ⟨n, ab, bx, sy, ka, t, pr, y, e1, pa⟩ := id hat
  have en := pa.name
  subst en
  have lk : ∀ {Hc : Hp}, atI (as.map V.ref) (k : Int) = some (.ref e) := atI_nat (by rw [List.getElem?_map, he]; rfl)
  refine ⟨_, rfl, l, rfl, ⟨_, SqL.of hl⟩, fun Cc nC => ?_⟩
  refine turns_list (K := K) (a := l) (xs := as.map V.ref) (rs.map fun o => if o.above = r.name then some (V.str o.name) else none) nC (fun Hc sm => SqL.of (sm _ _ hl)) (by rw [List.length_map, List.length_map]; exact hlen.symm) (by rw [List.length_map]; omega) ?_ ?_
  · intro j z o Hc Y N hz2 ho sm hY hN
    obtain ⟨e', he', rfl⟩ := refs_at hz2
    obtain ⟨r', hr', n', ab', b', sy', k', t', p', y', h1', h2'⟩ := paired_get hp he'
    rw [List.getElem?_map, hr'] at ho
    have ho : o = if r'.above = r.name then some (V.str r'.name) else none := (Option.some.inj ho).symm
    have hn' := h2'.name
    have ha' := h2'.above
    subst hn' ha'
    refine ⟨rfl, _, rfl, e', _, _, _, rfl, rfl, SqT.of (sm _ _ h1'), atI_nat (j := 1) rfl, _, rfl, _, rfl, l, _, _, _, rfl, rfl, SqL.of (sm _ _ hl), lk (Hc := Hc), e, _, _, _, rfl, rfl, SqT.of (sm _ _ e1), atI_nat (j := 0) rfl, rfl, _, rfl, ite2 (fun c1 => ?_) (fun c1 => ?_)⟩
    · have e9 : r'.above = r.name := V.str.inj (of_decide_eq_true c1)
      rw [if_pos e9] at ho
      exact ⟨_, rfl, e', _, _, _, rfl, rfl, SqT.of (sm _ _ h1'), atI_nat (j := 0) rfl, hY _ ho Hc same_refl⟩
    · have e9 : ¬ r'.above = r.name := fun z => c1 (decide_eq_true (by rw [z]))
      rw [if_neg e9] at ho
      exact hN ho Hc same_refl
  intro HA hA sA
  rw [fm_ben] at hA
  refine ⟨(by show 1 ≤ sizeLine; omega), fun p1 n1 => ?_⟩
  have s1 := same_new n1 (.lst [.str ""])
  have bl : (ben rs r.name).length ≤ 8 := by
    unfold ben
    rw [List.length_map]
    exact Nat.le_trans (List.length_filter_le ..) h8
  refine ⟨Cc, p1, _, _, rfl, rfl, s1 _ _ hA, upd_same, (by rw [List.length_map]; show _ + 1 ≤ sizeLine; omega), fun p2 n2 => ?_⟩
  have s2 := same_new n2 (.lst ((ben rs r.name).map V.str ++ [.str ""]))
  obtain ⟨goal, hgl, hg0⟩ : ∃ goal : Str, atI ((ben rs r.name).map V.str ++ [.str ""]) 0 = some (.str goal) ∧ (goal ≠ "" → goal ∈ ben rs r.name) := by
    cases z : ben rs r.name with
    | nil => exact ⟨"", rfl, fun h => absurd rfl h⟩
    | cons x l => exact ⟨x, atI_nat (j := 0) rfl, fun _ => List.mem_cons_self ..⟩
  have sB := sA.trans (s1.trans s2)
  have B2 := hB.keep sB
  have p2b : p2 ≠ b := (hB.keep (sA.trans s1)).ne n2
  have e2 : _ = some (HO.lst ((ben rs r.name).map V.str ++ [.str ""])) := @upd_same (upd HA p1 (.lst [.str ""])) p2 (.lst ((ben rs r.name).map V.str ++ [.str ""]))
  have gB := g.same sB
  clear n1 n2 s1 s2 hA sA nC
  generalize upd (upd HA p1 (.lst [.str ""])) p2 (.lst ((ben rs r.name).map V.str ++ [.str ""])) = HB at *
  have hlB := sB _ _ hl
  have eB := sB _ _ e1
  refine ⟨_, rfl, _, rfl, l, _, _, _, rfl, rfl, SqL.of hlB, lk (Hc := HB), 7, rfl, e, _, rfl, SqT.of eB, fun w => ?_, fun _ p7 n7 => ?_⟩
  · have w2 : min 7 8 = 8 := w.2
    omega
  have s7 := same_new n7 (.tup (cutV [.str r.name, ab, bx, sy, ka, t, pr, y] none (some 7)))
  have h7 : _ = some (HO.tup [.str r.name, ab, bx, sy, ka, t, pr]) := @upd_same HB p7 (.tup (cutV [.str r.name, ab, bx, sy, ka, t, pr, y] none (some 7)))
  have gC := gB.same s7
  have B7 := B2.keep s7
  have hl7 := s7 _ _ hlB
  have e7 := s7 _ _ eB
  have e27 := s7 _ _ e2
  have sD := sB.trans s7
  generalize upd HB p7 (.tup (cutV [.str r.name, ab, bx, sy, ka, t, pr, y] none (some 7))) = HC at *
  obtain ⟨cb, ecb, as', hcb, pcb⟩ := pa.boxes
  subst ecb
  obtain ⟨z, zs, ez⟩ : ∃ z zs, r.boxes = z :: zs := by
    have := hbx r (List.mem_of_getElem? hrk)
    cases q : r.boxes with
    | nil => rw [q] at this; exact absurd this (by decide)
    | cons z zs => exact ⟨z, zs, rfl⟩
  rw [ez] at pcb
  cases pcb with
  | cons hz0 hzs =>
  rename_i a0 as0
  refine ⟨_, rfl, _, rfl, _, rfl, l, _, _, _, rfl, rfl, SqL.of hl7, lk (Hc := HC), e, _, _, _, rfl, rfl, SqT.of e7, atI_nat (j := 2) rfl, cb, _, _, _, rfl, rfl, SqT.of (sD _ _ hcb), atI_nat (j := 0) rfl, a0, _, _, _, rfl, rfl, SqT.of (sD _ _ hz0), atI_nat (j := 0) rfl, ?_⟩
  refine ⟨_, rfl, p2, _, _, _, rfl, rfl, SqL.of e27, hgl, b, z.1, goal, 3, M, rfl, by omega, B7, by omega, fun pb bd HE kE BE hbd nb => ?_⟩
  refine ⟨(by show 1 ≤ sizeLine; omega), fun pt nt => ?_⟩
  have st := same_new nt (.tup [.ref pb])
  refine mk_catA (st _ _ (B7.tups kE _ _ h7)) upd_same (by show 7 + 1 ≤ 1000; decide) fun p8 HF s8 e8 => ?_
  have e8 : HF p8 = some (.tup [.str r.name, ab, .ref cb, sy, ka, t, pr, .ref pb]) := e8
  have sF := st.trans s8
  have kF : Kept b HC HF := kE.trans (.of sF)
  have tF : Tups HC HF := B7.tups kF
  have hlF := kF _ _ lb hl7
  have gF : Gr T H0 HF := (gr_kept gC nb0 B7 kE).same sF
  refine ⟨_, rfl, _, rfl, l, _, k, k, rfl, rfl, hlF, ixN_nat (by rw [List.length_map]; omega), ?_⟩
  have eset : (as.map V.ref).set k (.ref p8) = (as.set k p8).map V.ref := by rw [List.map_set]
  rw [eset]
  have tL : Tups HF (upd HF l (.lst ((as.set k p8).map V.ref))) := fun a' ts ha => by
    rw [upd_ne (ne_of ha hlF (by intro z; cases z))]
    exact ha
  have tA : Tups H9 (upd HF l (.lst ((as.set k p8).map V.ref))) := fun a' ts ha => tL _ _ (tF _ _ (sD _ _ ha))
  have at8 : EightAt (upd HF l (.lst ((as.set k p8).map V.ref))) p8 (r.put bd) := by
    refine ⟨_, _, _, _, _, _, _, _, tL _ _ e8, ?_⟩
    have pb' := pa.keep tA
    exact ⟨pb'.name, pb'.above, pb'.boxes, pb'.sayings, pb'.ask, pb'.told, pb'.promise, pb, rfl, (hbd.keep (Same.tups sF)).keep tL⟩
  have gG := gr_put (ys := (as.set k p8).map V.ref) gF nl0 hlF
  have hz1 : z.1 ∈ r.bn := by
    unfold Rm.bn
    rw [ez]
    exact List.mem_cons_self ..
  have ok' : Right (rs.set k (r.put bd)) := right_put ok hrk (nest_right nb hz1 hg0)
  have hn' : ∀ r' ∈ rs.set k (r.put bd), r'.name ∈ eight8 := fun r' hr' => by
    have e9 : (rs.set k (r.put bd)).map (·.name) = rs.map (·.name) := put_map _ (fun _ _ => rfl) hrk bd
    have m9 : r'.name ∈ (rs.set k (r.put bd)).map (·.name) := List.mem_map_of_mem hr'
    rw [e9] at m9
    obtain ⟨r0, h0, e0⟩ := List.mem_map.mp m9
    rw [← e0]
    exact hn r0 h0
  refine ⟨_, rfl, l, as.set k p8, rs.set k (r.put bd), rfl, upd_same, paired_set' (paired_imp (fun _ _ y => y.keep tA) hp) at8 k, ok', gG.tabs, fun x Hx nx gx pg => ?_⟩
  obtain ⟨dx, R, pd, g1, g2, g3⟩ := pg
  refine leaf6 _ _ _ _ _ _ _ _ _ _ _ _ l x R (as.set k p8) (rs.set k (r.put bd)) ⟨dx, _, g1⟩ g3 (gx.lst upd_same) (paired_imp (fun _ _ y => y.keep gx.tups) (paired_set' (paired_imp (fun _ _ y => y.keep tA) hp) at8 k)) ok' hn' fun H' y5 y8 y9 y10 y11 k9 => ?_
  exact q H' _ _ _ _ _ _ _ ((gG.trans gx).same k9)
end
end Any
set_option pp.maxSteps 600
namespace Any
open L2 PySem PySem.Spec PyProof.Rows LamX NdefX
def spLaw (T : List NTab) (K : PySem.W.Frag) : Sp := fun vs H Q _ => ∃ (a : Addr) (ns : List Int), vs = [.ref a] ∧ SqL K H a (ns.map V.int) ∧ ns.length ≤ 63 ∧ TabsN T H ∧ ∀ H', Q (.bl true) H'
section
variable {P : Program} {w : World} {K : PySem.W.Frag} {mg : Str → Option Value} {base : Heap} {f C D_ : Addr} {fd : FuncData} {T : List NTab}
set_option maxHeartbeats 2000000 in
theorem ok_law (O : Own mg) (mx : mg "max" = none) (mn : mg "min" = none) (mr : mg "range" = none) (F : Fun K "law" "law" sLaw f fd)
    (DB : Df P w K mg base 1 "_law_bag" ["_law_script", "_law_at"] (spBag K)) (DT : Df P w K mg base 1 "_law_take" ["_law_bag_here", "_law_many"] spTake) (DR : Df P w K mg base 23 "_law_rooms" psRs spLRooms)
    (DF : DfG P w K mg base 17 "_law_refused" psRf (spRf K C D_)) (DL : Df P w K mg base 7 "_law_places" ["_law_some"] spLPl) (DP : Df P w K mg base 16 "places" ["program", "name"] (spPls C D_))
    (DN : Df P w K mg base 6 "_law_nest" psNs (spNest 4)) (DM : Df P w K mg base 32 "_law_program" ["_law_rooms_here"] (spLProg T C D_)) : FnG P w K mg base CX0 33 f fd ["_law_script"] (spLaw T K) := by
  refine fun_g F scLaw (fun vs H Q E h => ?_) (fun cdv A outer s H vs Q E hG hr h => ?_)
  · obtain ⟨a, ns, rfl, _⟩ := h
    rfl
  obtain ⟨a, ns, rfl, hS, h63, hT, q⟩ := h
  have hr1 := hr.mono (show 1 ≤ 32 by decide)
  have hr23 := hr.mono (show 23 ≤ 32 by decide)
  have hG' : (A.deeper (envOfC "law" (defScope sLaw) s.heap.objs.size f cdv)).guards = some [] := hG
  obtain ⟨t3, ht3, leaf3⟩ := law_spot (C := C) (D_ := D_) (f := f) (cdv := cdv) (A := A) (outer := outer) (s := s) (H := H) (E := E) O DF DL DP DN DM hG' hr
  refine ⟨_, pss_cons (ps_for PassesOwn.never rfl (pi_range1 rfl mr (pa_cons (pe_callB (call_max2 rfl) rfl mx (by decide +kernel) (pa_cons pe_int (pa_cons (pe_callB (call_min2 rfl) rfl mn (by decide +kernel) (pa_cons pe_int (pa_cons (pe_callB call_len_seq rfl O.len PySem.boot_len (pa_cons (pv 0) pa_nil)) pa_nil))) pa_nil))) pa_nil))
      (pg_name (i := 1) scLaw.nd rfl (Or.inl rfl))
      (pss_cons (ps_set (i := 2) scLaw.nd rfl (Or.inl rfl) (pe_D DB hr1 rfl (pa_cons (pv 0) (pa_cons (pv 1) pa_nil))))
      (pss_cons (ps_set (i := 3) scLaw.nd rfl (Or.inr rfl) (pe_D DR hr23 rfl (pa_cons (pv 2) (pa_cons pe_int (pa_cons pe_int pa_nil)))))
      (pss_cons (ps_set (i := 4) scLaw.nd rfl (Or.inr rfl) (pe_D DT hr1 rfl (pa_cons (pv 2) (pa_cons (pe_callB call_len_seq rfl O.len PySem.boot_len (pa_cons (pv 3) pa_nil)) pa_nil)))) ht3))))
    (pss_one (ps_ret pe_bl)), ?_⟩
  refine ⟨_, rfl, a, _, rfl, .inl hS, _, _, rfl, _, _, rfl, _, rfl, ?_, ?_, ?_⟩
  · split <;> (try split) <;> omega
  · rw [List.length_map]
    split <;> (try split) <;> omega
  refine for_range (lo := 0) (fun i σ H' => ∃ x1 x2 x3 x4 x5 x6 x7 x8 x9 x10 x11 : Option V, σ = [some (.ref a), x1, x2, x3, x4, x5, x6, x7, x8, x9, x10, x11] ∧ Gr T H H') ⟨_, _, _, _, _, _, _, _, _, _, _, rfl, Gr.refl hT⟩ ?_ (fun σ H' _ => q H')
  rintro i σ H1 hi ⟨x1, x2, x3, x4, x5, x6, x7, x8, x9, x10, x11, rfl, s1⟩
  have hi6 : i < 6 := by
    rw [List.length_map] at hi
    split at hi <;> (try split at hi) <;> omega
  refine ⟨_, rfl, _, rfl, a, ns, _, rfl, s1.seq hS, by omega, by omega, fun b H2 nb s2 B2 => ?_⟩
  have n0 : H b = none := s1.no b nb
  have s2 := s1.same s2
  refine ⟨_, rfl, b, 5, 4, 0, rfl, B2, by decide, by decide, by decide, by decide, by decide, fun l as rs H3 k3 B3 nl lb hl hp ok hbx hn h5 => ?_⟩
  have n1 : H l = none := s2.no l nl
  have s3 := gr_kept s2 n0 B2 k3
  have hlo := ok.lo
  have hlen := paired_len hp
  refine ⟨_, rfl, _, rfl, l, _, rfl, .inl (SqL.of hl), b, _, _, rfl, B3, by decide, by rw [List.length_map]; omega, by rw [List.length_map]; omega, fun d H4 k4 B4 d0 d1 => ?_⟩
  rw [List.length_map] at d1
  obtain ⟨k, rfl⟩ : ∃ k : Nat, d = k := ⟨d.toNat, by omega⟩
  refine leaf3 _ H H4 _ _ _ _ _ _ _ _ _ b l as rs k _ (gr_kept s3 n0 B3 k4) n0 n1 lb B4 (by decide) (k4 _ _ lb hl) (paired_imp (fun _ _ y => y.keep (B3.tups k4)) hp) ok hbx hn (by omega) fun H' y5 y6 y7 y8 y9 y10 y11 g => ⟨_, _, _, _, _, _, _, _, _, _, _, rfl, g⟩
theorem all_nest (N : Nd K mg "_law_nest" sNest psNs) (DT : Df P w K mg base 1 "_law_take" ["_law_bag_here", "_law_many"] spTake) (DO : Df P w K mg base 2 "_law_of" ["_law_bag_here", "_law_some"] spOf) : ∀ n, Df P w K mg base (n + 2) "_law_nest" psNs (spNest n) := by
  obtain ⟨f, fd, hm, F, hb⟩ := N
  intro n
  induction n with
  | zero => exact ⟨f, fd, hm, F.kp, no_nest, hb⟩
  | succ n ih => exact ⟨f, fd, hm, F.kp, ok_nest F DT DO ih, hb⟩
end
end Any
set_option pp.maxSteps 600
namespace Any
open L2 PySem PySem.Spec PyProof.Rows LamX NdefX
theorem kit_le {K : PySem.W.Frag} {D : Addr} (h : PySem.W.subIn K (.ref D) (.type "LookupError") = some true) : PySem.W.kitOne K (.ref D) (.type "LookupError") = some true := by
  have e : PySem.W.kitMeta "LookupError" = true := by decide +kernel
  unfold PySem.W.kitOne PySem.W.kitCls
  rw [if_neg (by simp)]
  dsimp only
  rw [if_pos e]
  exact h
theorem kit_self {K : PySem.W.Frag} {D : Addr} : PySem.W.kitOne K (.ref D) (.ref D) = some true := by
  unfold PySem.W.kitOne
  rw [if_pos (by simp)]
set_option maxHeartbeats 0 in
theorem all_mk {l : PySem.W.OpenLaw} {w : World} {K : PySem.W.Frag} {h : Heap} {mg : Str → Option Value} {fa D : Addr} (X : K.In h) (G : h.Ns mainGlobals mg) (hfa : mg "law" = some (.ref fa))
    {f1 f2 f3 f4 f5 f6 f7 f8 f9 f10 f11 f12 f13 f14 f15 f16 f17 f18 f19 f20 f21 f22 f23 f24 f25 f26 f27 f28 f29 f30 f31 f32 f33 f34 f35 f36 f37 f38 f39 f40 f41 f42 f43 f44 f45 f46 f47 f48 f49 f50 f51 f52 f53 f54 f55 f56 f57 f58 f59 f60 f61 f62 f63 f64 f65 f66 f67 f68 f69 D6 D34 c7 P7 c8 P8 c9 P9 : Addr} {od1 an1 od2 an2 od3 an3 od4 an4 od5 an5 od6 an6 od7 an7 od8 an8 od9 an9 od10 an10 od11 an11 od12 an12 od13 an13 od14 an14 od15 an15 od16 an16 od17 an17 od18 an18 od19 an19 od20 an20 od21 an21 od22 an22 od23 an23 od24 an24 od25 an25 od26 an26 od27 an27 od28 an28 od29 an29 od30 an30 od31 an31 od32 an32 od33 an33 od34 an34 od35 an35 od36 an36 od37 an37 od38 an38 od39 an39 od40 an40 od41 an41 od42 an42 od43 an43 od44 an44 od45 an45 od46 an46 od47 an47 od48 an48 od49 an49 od50 an50 od51 an51 od52 an52 od53 an53 od54 an54 od55 an55 od56 an56 od57 an57 od58 an58 od59 an59 od60 an60 od61 an61 od62 an62 od63 an63 od64 an64 od65 an65 od66 an66 od67 an67 od68 an68 od69 an69 cod7 cod8 cod9 : Option Addr} {sl1 sl2 sl3 sl4 sl5 sl6 sl7 sl8 sl9 sl10 sl11 sl12 sl13 sl14 sl15 sl16 sl17 sl18 sl19 sl20 sl21 sl22 sl23 sl24 sl25 sl26 sl27 sl28 sl29 sl30 sl31 sl32 sl33 sl34 sl35 sl36 sl37 sl38 sl39 sl40 sl41 sl42 sl43 sl44 sl45 sl46 sl47 sl48 sl49 sl50 sl51 sl52 sl53 sl54 sl55 sl56 sl57 sl58 sl59 sl60 sl61 sl62 sl63 sl64 sl65 sl66 sl67 sl68 sl69 csl7 csl8 csl9 : Array (Option Value)} {cvs7 cvs8 cvs9 : Array Value}
    {oc1 kV1 cd1 dc1 pm1 ct1 oc2 kV2 cd2 dc2 pm2 ct2 oc3 kV3 cd3 dc3 pm3 ct3 oc4 kV4 cd4 dc4 pm4 ct4 oc5 kV5 cd5 dc5 pm5 ct5 oc6 cd6 dc6 pm6 ct6 oc7 kV7 coc7 dc7 pm7 ct7 oc8 kV8 coc8 dc8 pm8 ct8 oc9 kV9 coc9 dc9 pm9 ct9 oc10 kV10 cd10 dc10 pm10 ct10 oc11 kV11 cd11 dc11 pm11 ct11 oc12 kV12 cd12 dc12 pm12 ct12 oc13 kV13 cd13 dc13 pm13 ct13 oc14 kV14 cd14 dc14 pm14 ct14 oc15 kV15 cd15 dc15 pm15 ct15 oc16 kV16 cd16 dc16 pm16 ct16 oc17 kV17 cd17 dc17 pm17 ct17 oc18 kV18 cd18 dc18 pm18 ct18 oc19 kV19 cd19 dc19 pm19 ct19 oc20 kV20 cd20 dc20 pm20 ct20 oc21 kV21 cd21 dc21 pm21 ct21 oc22 kV22 cd22 dc22 pm22 ct22 oc23 kV23 cd23 dc23 pm23 ct23 oc24 kV24 cd24 dc24 pm24 ct24 oc25 kV25 cd25 dc25 pm25 ct25 oc26 kV26 cd26 dc26 pm26 ct26 oc27 kV27 cd27 dc27 pm27 ct27 oc28 kV28 cd28 dc28 pm28 ct28 oc29 kV29 cd29 dc29 pm29 ct29 oc30 kV30 cd30 dc30 pm30 ct30 oc31 kV31 cd31 dc31 pm31 ct31 oc32 kV32 cd32 dc32 pm32 ct32 oc33 kV33 cd33 dc33 pm33 ct33 oc34 cd34 dc34 pm34 ct34 oc35 kV35 cd35 dc35 pm35 ct35 oc36 kV36 cd36 dc36 pm36 ct36 oc37 kV37 cd37 dc37 pm37 ct37 oc38 kV38 cd38 dc38 pm38 ct38 oc39 kV39 cd39 dc39 pm39 ct39 oc40 kV40 cd40 dc40 pm40 ct40 oc41 kV41 cd41 dc41 pm41 ct41 oc42 kV42 cd42 dc42 pm42 ct42 oc43 kV43 cd43 dc43 pm43 ct43 oc44 kV44 cd44 dc44 pm44 ct44 oc45 kV45 cd45 dc45 pm45 ct45 oc46 kV46 cd46 dc46 pm46 ct46 oc47 kV47 cd47 dc47 pm47 ct47 oc48 kV48 cd48 dc48 pm48 ct48 oc49 kV49 cd49 dc49 pm49 ct49 oc50 kV50 cd50 dc50 pm50 ct50 oc51 kV51 cd51 dc51 pm51 ct51 oc52 kV52 cd52 dc52 pm52 ct52 oc53 kV53 cd53 dc53 pm53 ct53 oc54 kV54 cd54 dc54 pm54 ct54 oc55 kV55 cd55 dc55 pm55 ct55 oc56 kV56 cd56 dc56 pm56 ct56 oc57 kV57 cd57 dc57 pm57 ct57 oc58 kV58 cd58 dc58 pm58 ct58 oc59 kV59 cd59 dc59 pm59 ct59 oc60 kV60 cd60 dc60 pm60 ct60 oc61 kV61 cd61 dc61 pm61 ct61 oc62 kV62 cd62 dc62 pm62 ct62 oc63 kV63 cd63 dc63 pm63 ct63 oc64 kV64 cd64 dc64 pm64 ct64 oc65 kV65 cd65 dc65 pm65 ct65 oc66 kV66 cd66 dc66 pm66 ct66 oc67 kV67 cd67 dc67 pm67 ct67 oc68 kV68 cd68 dc68 pm68 ct68 oc69 kV69 cd69 dc69 pm69 ct69 : Value} {es : Array DictEntry} {en : Nat} {tk6_0 tk6_1 : Tok} {C CP CN NN kw : Addr} {nmN qN : Str} {bsN subN : List Value} {snN : List Str} {abN : Bool} {colN : Option Bool} {ddN : Option Addr} {ek0 ek1 ek2 ek3 ek5 : Option Value} {ot : Obj} {nt : Nat} {s1 s2 s3 s4 s5 s6 t_MOST_DEEP_TERM t_MOST_TERMS t_MOST_DEEP_STEP t_MOST_STEPS t_MOST_IN_BODY t_MOST_ROOMS t_MOST_FLOORS t_MOST_BOXES t_MOST_SAYINGS t_MOST_BOUND : Tok}
    (xR : PySem.W.nsIn K mainGlobals "Room" = some (some (.ref C)))
    (xP : PySem.W.nsIn K mainGlobals "Program" = some (some (.ref CP)))
    (xN : PySem.W.nsIn K mainGlobals "NoRoom" = some (some (.ref CN)))
    (a1 : PySem.W.nsIn K mainGlobals "plus" = some (some (.ref f1)))
    (l1 : K.lookup f1 = some ⟨oc1, od1, .func (PySem.W.fnOf "plus" "plus" (defArgs sPlus) (defBody sPlus) (defScope sPlus) .none kV1 dc1 pm1 an1 cd1 ct1), sl1⟩)
    (e1 : PySem.W.codeIn K cd1 "plus" = true)
    (k1 : PySem.W.keepIn K (.ref f1) = true)
    (a2 : PySem.W.nsIn K mainGlobals "less" = some (some (.ref f2)))
    (l2 : K.lookup f2 = some ⟨oc2, od2, .func (PySem.W.fnOf "less" "less" (defArgs sLess) (defBody sLess) (defScope sLess) .none kV2 dc2 pm2 an2 cd2 ct2), sl2⟩)
    (e2 : PySem.W.codeIn K cd2 "less" = true)
    (k2 : PySem.W.keepIn K (.ref f2) = true)
    (a3 : PySem.W.nsIn K mainGlobals "times" = some (some (.ref f3)))
    (l3 : K.lookup f3 = some ⟨oc3, od3, .func (PySem.W.fnOf "times" "times" (defArgs sTimes) (defBody sTimes) (defScope sTimes) .none kV3 dc3 pm3 an3 cd3 ct3), sl3⟩)
    (e3 : PySem.W.codeIn K cd3 "times" = true)
    (k3 : PySem.W.keepIn K (.ref f3) = true)
    (a4 : PySem.W.nsIn K mainGlobals "over" = some (some (.ref f4)))
    (l4 : K.lookup f4 = some ⟨oc4, od4, .func (PySem.W.fnOf "over" "over" (defArgs sOver) (defBody sOver) (defScope sOver) .none kV4 dc4 pm4 an4 cd4 ct4), sl4⟩)
    (e4 : PySem.W.codeIn K cd4 "over" = true)
    (k4 : PySem.W.keepIn K (.ref f4) = true)
    (a5 : PySem.W.nsIn K mainGlobals "rest" = some (some (.ref f5)))
    (l5 : K.lookup f5 = some ⟨oc5, od5, .func (PySem.W.fnOf "rest" "rest" (defArgs sRest) (defBody sRest) (defScope sRest) .none kV5 dc5 pm5 an5 cd5 ct5), sl5⟩)
    (e5 : PySem.W.codeIn K cd5 "rest" = true)
    (k5 : PySem.W.keepIn K (.ref f5) = true)
    (a6 : PySem.W.nsIn K mainGlobals "holds" = some (some (.ref f6)))
    (l6 : K.lookup f6 = some ⟨oc6, od6, .func (PySem.W.fnOf "holds" "holds" (defArgs sHolds) (defBody sHolds) (defScope sHolds) .none (.ref D6) dc6 pm6 an6 cd6 ct6), sl6⟩)
    (e6 : PySem.W.codeIn K cd6 "holds" = true)
    (k6 : PySem.W.keepIn K (.ref f6) = true)
    (w6_0 : PySem.W.nsIn K D6 "asked" = some (some (.int 0 tk6_0)))
    (w6_1 : PySem.W.nsIn K D6 "told" = some (some (.int 0 tk6_1)))
    (a7 : PySem.W.nsIn K mainGlobals "ready_worth" = some (some (.ref f7)))
    (l7 : K.lookup f7 = some ⟨oc7, od7, .func (PySem.W.fnOf "ready_worth" "ready_worth" (defArgs sReady) (defBody sReady) (defScope sReady) .none kV7 dc7 pm7 an7 (.ref c7) ct7), sl7⟩)
    (e7 : PySem.W.codeIn K (.ref c7) "ready_worth" = true)
    (k7 : PySem.W.keepIn K (.ref f7) = true)
    (g7 : K.lookup c7 = some ⟨coc7, cod7, .fields cvs7, csl7⟩)
    (v7 : cvs7[11]? = some (.ref P7))
    (q7 : PySem.W.codeHdIn K c7 P7 = true)
    (n7 : K.lookup P7 = none)
    (t7 : h.get? P7 = some { cls := .none, data := .fields #[] })
    (a8 : PySem.W.nsIn K mainGlobals "ready_test" = some (some (.ref f8)))
    (l8 : K.lookup f8 = some ⟨oc8, od8, .func (PySem.W.fnOf "ready_test" "ready_test" (defArgs sRT) (defBody sRT) (defScope sRT) .none kV8 dc8 pm8 an8 (.ref c8) ct8), sl8⟩)
    (e8 : PySem.W.codeIn K (.ref c8) "ready_test" = true)
    (k8 : PySem.W.keepIn K (.ref f8) = true)
    (g8 : K.lookup c8 = some ⟨coc8, cod8, .fields cvs8, csl8⟩)
    (v8 : cvs8[11]? = some (.ref P8))
    (q8 : PySem.W.codeHdIn K c8 P8 = true)
    (n8 : K.lookup P8 = none)
    (t8 : h.get? P8 = some { cls := .none, data := .fields #[] })
    (a9 : PySem.W.nsIn K mainGlobals "ready_comparison" = some (some (.ref f9)))
    (l9 : K.lookup f9 = some ⟨oc9, od9, .func (PySem.W.fnOf "ready_comparison" "ready_comparison" (defArgs sRC) (defBody sRC) (defScope sRC) .none kV9 dc9 pm9 an9 (.ref c9) ct9), sl9⟩)
    (e9 : PySem.W.codeIn K (.ref c9) "ready_comparison" = true)
    (k9 : PySem.W.keepIn K (.ref f9) = true)
    (g9 : K.lookup c9 = some ⟨coc9, cod9, .fields cvs9, csl9⟩)
    (v9 : cvs9[11]? = some (.ref P9))
    (q9 : PySem.W.codeHdIn K c9 P9 = true)
    (n9 : K.lookup P9 = none)
    (t9 : h.get? P9 = some { cls := .none, data := .fields #[] })
    (a10 : PySem.W.nsIn K mainGlobals "places" = some (some (.ref f10)))
    (l10 : K.lookup f10 = some ⟨oc10, od10, .func (PySem.W.fnOf "places" "places" (defArgs sPlaces) (defBody sPlaces) (defScope sPlaces) .none kV10 dc10 pm10 an10 cd10 ct10), sl10⟩)
    (e10 : PySem.W.codeIn K cd10 "places" = true)
    (k10 : PySem.W.keepIn K (.ref f10) = true)
    (a11 : PySem.W.nsIn K mainGlobals "room_places" = some (some (.ref f11)))
    (l11 : K.lookup f11 = some ⟨oc11, od11, .func (PySem.W.fnOf "room_places" "room_places" (defArgs sRP) (defBody sRP) (defScope sRP) .none kV11 dc11 pm11 an11 cd11 ct11), sl11⟩)
    (e11 : PySem.W.codeIn K cd11 "room_places" = true)
    (k11 : PySem.W.keepIn K (.ref f11) = true)
    (a12 : PySem.W.nsIn K mainGlobals "body_size" = some (some (.ref f12)))
    (l12 : K.lookup f12 = some ⟨oc12, od12, .func (PySem.W.fnOf "body_size" "body_size" (defArgs sBSz) (defBody sBSz) (defScope sBSz) .none kV12 dc12 pm12 an12 cd12 ct12), sl12⟩)
    (e12 : PySem.W.codeIn K cd12 "body_size" = true)
    (k12 : PySem.W.keepIn K (.ref f12) = true)
    (a13 : PySem.W.nsIn K mainGlobals "step_size" = some (some (.ref f13)))
    (l13 : K.lookup f13 = some ⟨oc13, od13, .func (PySem.W.fnOf "step_size" "step_size" (defArgs sSSz) (defBody sSSz) (defScope sSSz) .none kV13 dc13 pm13 an13 cd13 ct13), sl13⟩)
    (e13 : PySem.W.codeIn K cd13 "step_size" = true)
    (k13 : PySem.W.keepIn K (.ref f13) = true)
    (a14 : PySem.W.nsIn K mainGlobals "begin_of" = some (some (.ref f14)))
    (l14 : K.lookup f14 = some ⟨oc14, od14, .func (PySem.W.fnOf "begin_of" "begin_of" (defArgs sBeg) (defBody sBeg) (defScope sBeg) .none kV14 dc14 pm14 an14 cd14 ct14), sl14⟩)
    (e14 : PySem.W.codeIn K cd14 "begin_of" = true)
    (k14 : PySem.W.keepIn K (.ref f14) = true)
    (a15 : PySem.W.nsIn K mainGlobals "add_body" = some (some (.ref f15)))
    (l15 : K.lookup f15 = some ⟨oc15, od15, .func (PySem.W.fnOf "add_body" "add_body" (defArgs sABody) (defBody sABody) (defScope sABody) .none kV15 dc15 pm15 an15 cd15 ct15), sl15⟩)
    (e15 : PySem.W.codeIn K cd15 "add_body" = true)
    (k15 : PySem.W.keepIn K (.ref f15) = true)
    (a16 : PySem.W.nsIn K mainGlobals "add_step" = some (some (.ref f16)))
    (l16 : K.lookup f16 = some ⟨oc16, od16, .func (PySem.W.fnOf "add_step" "add_step" (defArgs sAStep) (defBody sAStep) (defScope sAStep) .none kV16 dc16 pm16 an16 cd16 ct16), sl16⟩)
    (e16 : PySem.W.codeIn K cd16 "add_step" = true)
    (k16 : PySem.W.keepIn K (.ref f16) = true)
    (a17 : PySem.W.nsIn K mainGlobals "add_if" = some (some (.ref f17)))
    (l17 : K.lookup f17 = some ⟨oc17, od17, .func (PySem.W.fnOf "add_if" "add_if" (defArgs sAIf) (defBody sAIf) (defScope sAIf) .none kV17 dc17 pm17 an17 cd17 ct17), sl17⟩)
    (e17 : PySem.W.codeIn K cd17 "add_if" = true)
    (k17 : PySem.W.keepIn K (.ref f17) = true)
    (a18 : PySem.W.nsIn K mainGlobals "add_for" = some (some (.ref f18)))
    (l18 : K.lookup f18 = some ⟨oc18, od18, .func (PySem.W.fnOf "add_for" "add_for" (defArgs sAFor) (defBody sAFor) (defScope sAFor) .none kV18 dc18 pm18 an18 cd18 ct18), sl18⟩)
    (e18 : PySem.W.codeIn K cd18 "add_for" = true)
    (k18 : PySem.W.keepIn K (.ref f18) = true)
    (a19 : PySem.W.nsIn K mainGlobals "add_call" = some (some (.ref f19)))
    (l19 : K.lookup f19 = some ⟨oc19, od19, .func (PySem.W.fnOf "add_call" "add_call" (defArgs sACall) (defBody sACall) (defScope sACall) .none kV19 dc19 pm19 an19 cd19 ct19), sl19⟩)
    (e19 : PySem.W.codeIn K cd19 "add_call" = true)
    (k19 : PySem.W.keepIn K (.ref f19) = true)
    (a20 : PySem.W.nsIn K mainGlobals "is_whole" = some (some (.ref f20)))
    (l20 : K.lookup f20 = some ⟨oc20, od20, .func (PySem.W.fnOf "is_whole" "is_whole" (defArgs sWhole) (defBody sWhole) (defScope sWhole) .none kV20 dc20 pm20 an20 cd20 ct20), sl20⟩)
    (e20 : PySem.W.codeIn K cd20 "is_whole" = true)
    (k20 : PySem.W.keepIn K (.ref f20) = true)
    (a21 : PySem.W.nsIn K mainGlobals "is_within" = some (some (.ref f21)))
    (l21 : K.lookup f21 = some ⟨oc21, od21, .func (PySem.W.fnOf "is_within" "is_within" (defArgs sWithin) (defBody sWithin) (defScope sWithin) .none kV21 dc21 pm21 an21 cd21 ct21), sl21⟩)
    (e21 : PySem.W.codeIn K cd21 "is_within" = true)
    (k21 : PySem.W.keepIn K (.ref f21) = true)
    (a22 : PySem.W.nsIn K mainGlobals "is_name" = some (some (.ref f22)))
    (l22 : K.lookup f22 = some ⟨oc22, od22, .func (PySem.W.fnOf "is_name" "is_name" (defArgs sName) (defBody sName) (defScope sName) .none kV22 dc22 pm22 an22 cd22 ct22), sl22⟩)
    (e22 : PySem.W.codeIn K cd22 "is_name" = true)
    (k22 : PySem.W.keepIn K (.ref f22) = true)
    (a23 : PySem.W.nsIn K mainGlobals "is_expression" = some (some (.ref f23)))
    (l23 : K.lookup f23 = some ⟨oc23, od23, .func (PySem.W.fnOf "is_expression" "is_expression" (defArgs sIsExpr) (defBody sIsExpr) (defScope sIsExpr) .none kV23 dc23 pm23 an23 cd23 ct23), sl23⟩)
    (e23 : PySem.W.codeIn K cd23 "is_expression" = true)
    (k23 : PySem.W.keepIn K (.ref f23) = true)
    (a24 : PySem.W.nsIn K mainGlobals "is_test" = some (some (.ref f24)))
    (l24 : K.lookup f24 = some ⟨oc24, od24, .func (PySem.W.fnOf "is_test" "is_test" (defArgs sIsTest) (defBody sIsTest) (defScope sIsTest) .none kV24 dc24 pm24 an24 cd24 ct24), sl24⟩)
    (e24 : PySem.W.codeIn K cd24 "is_test" = true)
    (k24 : PySem.W.keepIn K (.ref f24) = true)
    (a25 : PySem.W.nsIn K mainGlobals "expression_fits" = some (some (.ref f25)))
    (l25 : K.lookup f25 = some ⟨oc25, od25, .func (PySem.W.fnOf "expression_fits" "expression_fits" (defArgs sExFits) (defBody sExFits) (defScope sExFits) .none kV25 dc25 pm25 an25 cd25 ct25), sl25⟩)
    (e25 : PySem.W.codeIn K cd25 "expression_fits" = true)
    (k25 : PySem.W.keepIn K (.ref f25) = true)
    (a26 : PySem.W.nsIn K mainGlobals "test_fits" = some (some (.ref f26)))
    (l26 : K.lookup f26 = some ⟨oc26, od26, .func (PySem.W.fnOf "test_fits" "test_fits" (defArgs sTsFits) (defBody sTsFits) (defScope sTsFits) .none kV26 dc26 pm26 an26 cd26 ct26), sl26⟩)
    (e26 : PySem.W.codeIn K cd26 "test_fits" = true)
    (k26 : PySem.W.keepIn K (.ref f26) = true)
    (a27 : PySem.W.nsIn K mainGlobals "is_row" = some (some (.ref f27)))
    (l27 : K.lookup f27 = some ⟨oc27, od27, .func (PySem.W.fnOf "is_row" "is_row" (defArgs sRow) (defBody sRow) (defScope sRow) .none kV27 dc27 pm27 an27 cd27 ct27), sl27⟩)
    (e27 : PySem.W.codeIn K cd27 "is_row" = true)
    (k27 : PySem.W.keepIn K (.ref f27) = true)
    (a28 : PySem.W.nsIn K mainGlobals "count_terms" = some (some (.ref f28)))
    (l28 : K.lookup f28 = some ⟨oc28, od28, .func (PySem.W.fnOf "count_terms" "count_terms" (defArgs sCount) (defBody sCount) (defScope sCount) .none kV28 dc28 pm28 an28 cd28 ct28), sl28⟩)
    (e28 : PySem.W.codeIn K cd28 "count_terms" = true)
    (k28 : PySem.W.keepIn K (.ref f28) = true)
    (a29 : PySem.W.nsIn K mainGlobals "is_body" = some (some (.ref f29)))
    (l29 : K.lookup f29 = some ⟨oc29, od29, .func (PySem.W.fnOf "is_body" "is_body" (defArgs sBody) (defBody sBody) (defScope sBody) .none kV29 dc29 pm29 an29 cd29 ct29), sl29⟩)
    (e29 : PySem.W.codeIn K cd29 "is_body" = true)
    (k29 : PySem.W.keepIn K (.ref f29) = true)
    (a30 : PySem.W.nsIn K mainGlobals "body_fits" = some (some (.ref f30)))
    (l30 : K.lookup f30 = some ⟨oc30, od30, .func (PySem.W.fnOf "body_fits" "body_fits" (defArgs sBFits) (defBody sBFits) (defScope sBFits) .none kV30 dc30 pm30 an30 cd30 ct30), sl30⟩)
    (e30 : PySem.W.codeIn K cd30 "body_fits" = true)
    (k30 : PySem.W.keepIn K (.ref f30) = true)
    (a31 : PySem.W.nsIn K mainGlobals "step_fits" = some (some (.ref f31)))
    (l31 : K.lookup f31 = some ⟨oc31, od31, .func (PySem.W.fnOf "step_fits" "step_fits" (defArgs sSFits) (defBody sSFits) (defScope sSFits) .none kV31 dc31 pm31 an31 cd31 ct31), sl31⟩)
    (e31 : PySem.W.codeIn K cd31 "step_fits" = true)
    (k31 : PySem.W.keepIn K (.ref f31) = true)
    (a32 : PySem.W.nsIn K mainGlobals "all_steps" = some (some (.ref f32)))
    (l32 : K.lookup f32 = some ⟨oc32, od32, .func (PySem.W.fnOf "all_steps" "all_steps" (defArgs sAll) (defBody sAll) (defScope sAll) .none kV32 dc32 pm32 an32 cd32 ct32), sl32⟩)
    (e32 : PySem.W.codeIn K cd32 "all_steps" = true)
    (k32 : PySem.W.keepIn K (.ref f32) = true)
    (a33 : PySem.W.nsIn K mainGlobals "bodies_within" = some (some (.ref f33)))
    (l33 : K.lookup f33 = some ⟨oc33, od33, .func (PySem.W.fnOf "bodies_within" "bodies_within" (defArgs sWithinB) (defBody sWithinB) (defScope sWithinB) .none kV33 dc33 pm33 an33 cd33 ct33), sl33⟩)
    (e33 : PySem.W.codeIn K cd33 "bodies_within" = true)
    (k33 : PySem.W.keepIn K (.ref f33) = true)
    (a34 : PySem.W.findIn K (.ref C) "__init__" = some (some (.ref f34)))
    (i34 : PySem.W.isFn K (.ref f34) = true)
    (l34 : K.lookup f34 = some ⟨oc34, od34, .func (PySem.W.fnOf "__init__" "Room.__init__" (defArgs sRInit) (defBody sRInit) (defScope sRInit) .none (.ref D34) dc34 pm34 an34 cd34 ct34), sl34⟩)
    (e34 : PySem.W.codeIn K cd34 "Room.__init__" = true)
    (k34 : PySem.W.keepIn K (.ref f34) = true)
    (a35 : PySem.W.findIn K (.ref CP) "__init__" = some (some (.ref f35)))
    (i35 : PySem.W.isFn K (.ref f35) = true)
    (l35 : K.lookup f35 = some ⟨oc35, od35, .func (PySem.W.fnOf "__init__" "Program.__init__" (defArgs sPInit) (defBody sPInit) (defScope sPInit) .none kV35 dc35 pm35 an35 cd35 ct35), sl35⟩)
    (e35 : PySem.W.codeIn K cd35 "Program.__init__" = true)
    (k35 : PySem.W.keepIn K (.ref f35) = true)
    (a36 : PySem.W.findIn K (.ref CP) "room_of" = some (some (.ref f36)))
    (i36 : PySem.W.isFn K (.ref f36) = true)
    (l36 : K.lookup f36 = some ⟨oc36, od36, .func (PySem.W.fnOf "room_of" "Program.room_of" (defArgs sRO) (defBody sRO) (defScope sRO) .none kV36 dc36 pm36 an36 cd36 ct36), sl36⟩)
    (e36 : PySem.W.codeIn K cd36 "Program.room_of" = true)
    (k36 : PySem.W.keepIn K (.ref f36) = true)
    (a37 : PySem.W.findIn K (.ref CN) "__init__" = some (some (.ref f37)))
    (i37 : PySem.W.isFn K (.ref f37) = true)
    (l37 : K.lookup f37 = some ⟨oc37, od37, .func (PySem.W.fnOf "__init__" "NoRoom.__init__" (defArgs sNR) (defBody sNR) (defScope sNR) .none kV37 dc37 pm37 an37 cd37 ct37), sl37⟩)
    (e37 : PySem.W.codeIn K cd37 "NoRoom.__init__" = true)
    (k37 : PySem.W.keepIn K (.ref f37) = true)
    (a38 : PySem.W.nsIn K mainGlobals "are_rooms" = some (some (.ref f38)))
    (l38 : K.lookup f38 = some ⟨oc38, od38, .func (PySem.W.fnOf "are_rooms" "are_rooms" (defArgs sRooms) (defBody sRooms) (defScope sRooms) .none kV38 dc38 pm38 an38 cd38 ct38), sl38⟩)
    (e38 : PySem.W.codeIn K cd38 "are_rooms" = true)
    (k38 : PySem.W.keepIn K (.ref f38) = true)
    (a39 : PySem.W.nsIn K mainGlobals "fault_of" = some (some (.ref f39)))
    (l39 : K.lookup f39 = some ⟨oc39, od39, .func (PySem.W.fnOf "fault_of" "fault_of" (defArgs sFault) (defBody sFault) (defScope sFault) .none kV39 dc39 pm39 an39 cd39 ct39), sl39⟩)
    (e39 : PySem.W.codeIn K cd39 "fault_of" = true)
    (k39 : PySem.W.keepIn K (.ref f39) = true)
    (a40 : PySem.W.nsIn K mainGlobals "name_fits" = some (some (.ref f40)))
    (l40 : K.lookup f40 = some ⟨oc40, od40, .func (PySem.W.fnOf "name_fits" "name_fits" (defArgs sNameF) (defBody sNameF) (defScope sNameF) .none kV40 dc40 pm40 an40 cd40 ct40), sl40⟩)
    (e40 : PySem.W.codeIn K cd40 "name_fits" = true)
    (k40 : PySem.W.keepIn K (.ref f40) = true)
    (a41 : PySem.W.nsIn K mainGlobals "above_fits" = some (some (.ref f41)))
    (l41 : K.lookup f41 = some ⟨oc41, od41, .func (PySem.W.fnOf "above_fits" "above_fits" (defArgs sAboveF) (defBody sAboveF) (defScope sAboveF) .none kV41 dc41 pm41 an41 cd41 ct41), sl41⟩)
    (e41 : PySem.W.codeIn K cd41 "above_fits" = true)
    (k41 : PySem.W.keepIn K (.ref f41) = true)
    (a42 : PySem.W.nsIn K mainGlobals "floor_of" = some (some (.ref f42)))
    (l42 : K.lookup f42 = some ⟨oc42, od42, .func (PySem.W.fnOf "floor_of" "floor_of" (defArgs sFloor) (defBody sFloor) (defScope sFloor) .none kV42 dc42 pm42 an42 cd42 ct42), sl42⟩)
    (e42 : PySem.W.codeIn K cd42 "floor_of" = true)
    (k42 : PySem.W.keepIn K (.ref f42) = true)
    (a43 : PySem.W.nsIn K mainGlobals "boxes_fit" = some (some (.ref f43)))
    (l43 : K.lookup f43 = some ⟨oc43, od43, .func (PySem.W.fnOf "boxes_fit" "boxes_fit" (defArgs sBoxesF) (defBody sBoxesF) (defScope sBoxesF) .none kV43 dc43 pm43 an43 cd43 ct43), sl43⟩)
    (e43 : PySem.W.codeIn K cd43 "boxes_fit" = true)
    (k43 : PySem.W.keepIn K (.ref f43) = true)
    (a44 : PySem.W.nsIn K mainGlobals "box_fits" = some (some (.ref f44)))
    (l44 : K.lookup f44 = some ⟨oc44, od44, .func (PySem.W.fnOf "box_fits" "box_fits" (defArgs sBoxF) (defBody sBoxF) (defScope sBoxF) .none kV44 dc44 pm44 an44 cd44 ct44), sl44⟩)
    (e44 : PySem.W.codeIn K cd44 "box_fits" = true)
    (k44 : PySem.W.keepIn K (.ref f44) = true)
    (a45 : PySem.W.nsIn K mainGlobals "sayings_fit" = some (some (.ref f45)))
    (l45 : K.lookup f45 = some ⟨oc45, od45, .func (PySem.W.fnOf "sayings_fit" "sayings_fit" (defArgs sSaysF) (defBody sSaysF) (defScope sSaysF) .none kV45 dc45 pm45 an45 cd45 ct45), sl45⟩)
    (e45 : PySem.W.codeIn K cd45 "sayings_fit" = true)
    (k45 : PySem.W.keepIn K (.ref f45) = true)
    (a46 : PySem.W.nsIn K mainGlobals "first_fault" = some (some (.ref f46)))
    (l46 : K.lookup f46 = some ⟨oc46, od46, .func (PySem.W.fnOf "first_fault" "first_fault" (defArgs sFirstF) (defBody sFirstF) (defScope sFirstF) .none kV46 dc46 pm46 an46 cd46 ct46), sl46⟩)
    (e46 : PySem.W.codeIn K cd46 "first_fault" = true)
    (k46 : PySem.W.keepIn K (.ref f46) = true)
    (a47 : PySem.W.nsIn K mainGlobals "other_fault" = some (some (.ref f47)))
    (l47 : K.lookup f47 = some ⟨oc47, od47, .func (PySem.W.fnOf "other_fault" "other_fault" (defArgs sOtherF) (defBody sOtherF) (defScope sOtherF) .none kV47 dc47 pm47 an47 cd47 ct47), sl47⟩)
    (e47 : PySem.W.codeIn K cd47 "other_fault" = true)
    (k47 : PySem.W.keepIn K (.ref f47) = true)
    (a48 : PySem.W.nsIn K mainGlobals "told_fits" = some (some (.ref f48)))
    (l48 : K.lookup f48 = some ⟨oc48, od48, .func (PySem.W.fnOf "told_fits" "told_fits" (defArgs sToldF) (defBody sToldF) (defScope sToldF) .none kV48 dc48 pm48 an48 cd48 ct48), sl48⟩)
    (e48 : PySem.W.codeIn K cd48 "told_fits" = true)
    (k48 : PySem.W.keepIn K (.ref f48) = true)
    (a49 : PySem.W.nsIn K mainGlobals "body_fault" = some (some (.ref f49)))
    (l49 : K.lookup f49 = some ⟨oc49, od49, .func (PySem.W.fnOf "body_fault" "body_fault" (defArgs sBodyF) (defBody sBodyF) (defScope sBodyF) .none kV49 dc49 pm49 an49 cd49 ct49), sl49⟩)
    (e49 : PySem.W.codeIn K cd49 "body_fault" = true)
    (k49 : PySem.W.keepIn K (.ref f49) = true)
    (a50 : PySem.W.nsIn K mainGlobals "box_names" = some (some (.ref f50)))
    (l50 : K.lookup f50 = some ⟨oc50, od50, .func (PySem.W.fnOf "box_names" "box_names" (defArgs sNames) (defBody sNames) (defScope sNames) .none kV50 dc50 pm50 an50 cd50 ct50), sl50⟩)
    (e50 : PySem.W.codeIn K cd50 "box_names" = true)
    (k50 : PySem.W.keepIn K (.ref f50) = true)
    (a51 : PySem.W.nsIn K mainGlobals "_law_bag" = some (some (.ref f51)))
    (l51 : K.lookup f51 = some ⟨oc51, od51, .func (PySem.W.fnOf "_law_bag" "_law_bag" (defArgs sBag) (defBody sBag) (defScope sBag) .none kV51 dc51 pm51 an51 cd51 ct51), sl51⟩)
    (e51 : PySem.W.codeIn K cd51 "_law_bag" = true)
    (k51 : PySem.W.keepIn K (.ref f51) = true)
    (a52 : PySem.W.nsIn K mainGlobals "_law_take" = some (some (.ref f52)))
    (l52 : K.lookup f52 = some ⟨oc52, od52, .func (PySem.W.fnOf "_law_take" "_law_take" (defArgs sTake) (defBody sTake) (defScope sTake) .none kV52 dc52 pm52 an52 cd52 ct52), sl52⟩)
    (e52 : PySem.W.codeIn K cd52 "_law_take" = true)
    (k52 : PySem.W.keepIn K (.ref f52) = true)
    (a53 : PySem.W.nsIn K mainGlobals "_law_of" = some (some (.ref f53)))
    (l53 : K.lookup f53 = some ⟨oc53, od53, .func (PySem.W.fnOf "_law_of" "_law_of" (defArgs sOf) (defBody sOf) (defScope sOf) .none kV53 dc53 pm53 an53 cd53 ct53), sl53⟩)
    (e53 : PySem.W.codeIn K cd53 "_law_of" = true)
    (k53 : PySem.W.keepIn K (.ref f53) = true)
    (a54 : PySem.W.nsIn K mainGlobals "_law_mixed" = some (some (.ref f54)))
    (l54 : K.lookup f54 = some ⟨oc54, od54, .func (PySem.W.fnOf "_law_mixed" "_law_mixed" (defArgs sMixed) (defBody sMixed) (defScope sMixed) .none kV54 dc54 pm54 an54 cd54 ct54), sl54⟩)
    (e54 : PySem.W.codeIn K cd54 "_law_mixed" = true)
    (k54 : PySem.W.keepIn K (.ref f54) = true)
    (a55 : PySem.W.nsIn K mainGlobals "_law_expr" = some (some (.ref f55)))
    (l55 : K.lookup f55 = some ⟨oc55, od55, .func (PySem.W.fnOf "_law_expr" "_law_expr" (defArgs sExpr) (defBody sExpr) (defScope sExpr) .none kV55 dc55 pm55 an55 cd55 ct55), sl55⟩)
    (e55 : PySem.W.codeIn K cd55 "_law_expr" = true)
    (k55 : PySem.W.keepIn K (.ref f55) = true)
    (a56 : PySem.W.nsIn K mainGlobals "_law_test" = some (some (.ref f56)))
    (l56 : K.lookup f56 = some ⟨oc56, od56, .func (PySem.W.fnOf "_law_test" "_law_test" (defArgs sTest) (defBody sTest) (defScope sTest) .none kV56 dc56 pm56 an56 cd56 ct56), sl56⟩)
    (e56 : PySem.W.codeIn K cd56 "_law_test" = true)
    (k56 : PySem.W.keepIn K (.ref f56) = true)
    (a57 : PySem.W.nsIn K mainGlobals "_law_steps" = some (some (.ref f57)))
    (l57 : K.lookup f57 = some ⟨oc57, od57, .func (PySem.W.fnOf "_law_steps" "_law_steps" (defArgs sSteps) (defBody sSteps) (defScope sSteps) .none kV57 dc57 pm57 an57 cd57 ct57), sl57⟩)
    (e57 : PySem.W.codeIn K cd57 "_law_steps" = true)
    (k57 : PySem.W.keepIn K (.ref f57) = true)
    (a58 : PySem.W.nsIn K mainGlobals "_law_group" = some (some (.ref f58)))
    (l58 : K.lookup f58 = some ⟨oc58, od58, .func (PySem.W.fnOf "_law_group" "_law_group" (defArgs sGroup) (defBody sGroup) (defScope sGroup) .none kV58 dc58 pm58 an58 cd58 ct58), sl58⟩)
    (e58 : PySem.W.codeIn K cd58 "_law_group" = true)
    (k58 : PySem.W.keepIn K (.ref f58) = true)
    (a59 : PySem.W.nsIn K mainGlobals "_law_answer" = some (some (.ref f59)))
    (l59 : K.lookup f59 = some ⟨oc59, od59, .func (PySem.W.fnOf "_law_answer" "_law_answer" (defArgs sAnswer) (defBody sAnswer) (defScope sAnswer) .none kV59 dc59 pm59 an59 cd59 ct59), sl59⟩)
    (e59 : PySem.W.codeIn K cd59 "_law_answer" = true)
    (k59 : PySem.W.keepIn K (.ref f59) = true)
    (a60 : PySem.W.nsIn K mainGlobals "_law_room" = some (some (.ref f60)))
    (l60 : K.lookup f60 = some ⟨oc60, od60, .func (PySem.W.fnOf "_law_room" "_law_room" (defArgs sRoom) (defBody sRoom) (defScope sRoom) .none kV60 dc60 pm60 an60 cd60 ct60), sl60⟩)
    (e60 : PySem.W.codeIn K cd60 "_law_room" = true)
    (k60 : PySem.W.keepIn K (.ref f60) = true)
    (a61 : PySem.W.nsIn K mainGlobals "_law_rooms" = some (some (.ref f61)))
    (l61 : K.lookup f61 = some ⟨oc61, od61, .func (PySem.W.fnOf "_law_rooms" "_law_rooms" (defArgs sRms) (defBody sRms) (defScope sRms) .none kV61 dc61 pm61 an61 cd61 ct61), sl61⟩)
    (e61 : PySem.W.codeIn K cd61 "_law_rooms" = true)
    (k61 : PySem.W.keepIn K (.ref f61) = true)
    (a62 : PySem.W.nsIn K mainGlobals "_law_made" = some (some (.ref f62)))
    (l62 : K.lookup f62 = some ⟨oc62, od62, .func (PySem.W.fnOf "_law_made" "_law_made" (defArgs sMade) (defBody sMade) (defScope sMade) .none kV62 dc62 pm62 an62 cd62 ct62), sl62⟩)
    (e62 : PySem.W.codeIn K cd62 "_law_made" = true)
    (k62 : PySem.W.keepIn K (.ref f62) = true)
    (a63 : PySem.W.nsIn K mainGlobals "_law_program" = some (some (.ref f63)))
    (l63 : K.lookup f63 = some ⟨oc63, od63, .func (PySem.W.fnOf "_law_program" "_law_program" (defArgs sLProg) (defBody sLProg) (defScope sLProg) .none kV63 dc63 pm63 an63 cd63 ct63), sl63⟩)
    (e63 : PySem.W.codeIn K cd63 "_law_program" = true)
    (k63 : PySem.W.keepIn K (.ref f63) = true)
    (a64 : PySem.W.nsIn K mainGlobals "_law_patched" = some (some (.ref f64)))
    (l64 : K.lookup f64 = some ⟨oc64, od64, .func (PySem.W.fnOf "_law_patched" "_law_patched" (defArgs sPat) (defBody sPat) (defScope sPat) .none kV64 dc64 pm64 an64 cd64 ct64), sl64⟩)
    (e64 : PySem.W.codeIn K cd64 "_law_patched" = true)
    (k64 : PySem.W.keepIn K (.ref f64) = true)
    (a65 : PySem.W.nsIn K mainGlobals "_law_lay" = some (some (.ref f65)))
    (l65 : K.lookup f65 = some ⟨oc65, od65, .func (PySem.W.fnOf "_law_lay" "_law_lay" (defArgs sLay) (defBody sLay) (defScope sLay) .none kV65 dc65 pm65 an65 cd65 ct65), sl65⟩)
    (e65 : PySem.W.codeIn K cd65 "_law_lay" = true)
    (k65 : PySem.W.keepIn K (.ref f65) = true)
    (a66 : PySem.W.nsIn K mainGlobals "_law_places" = some (some (.ref f66)))
    (l66 : K.lookup f66 = some ⟨oc66, od66, .func (PySem.W.fnOf "_law_places" "_law_places" (defArgs sLPl) (defBody sLPl) (defScope sLPl) .none kV66 dc66 pm66 an66 cd66 ct66), sl66⟩)
    (e66 : PySem.W.codeIn K cd66 "_law_places" = true)
    (k66 : PySem.W.keepIn K (.ref f66) = true)
    (a67 : PySem.W.nsIn K mainGlobals "_law_nest" = some (some (.ref f67)))
    (l67 : K.lookup f67 = some ⟨oc67, od67, .func (PySem.W.fnOf "_law_nest" "_law_nest" (defArgs sNest) (defBody sNest) (defScope sNest) .none kV67 dc67 pm67 an67 cd67 ct67), sl67⟩)
    (e67 : PySem.W.codeIn K cd67 "_law_nest" = true)
    (k67 : PySem.W.keepIn K (.ref f67) = true)
    (a68 : PySem.W.nsIn K mainGlobals "_law_refused" = some (some (.ref f68)))
    (l68 : K.lookup f68 = some ⟨oc68, od68, .func (PySem.W.fnOf "_law_refused" "_law_refused" (defArgs sRf) (defBody sRf) (defScope sRf) .none kV68 dc68 pm68 an68 cd68 ct68), sl68⟩)
    (e68 : PySem.W.codeIn K cd68 "_law_refused" = true)
    (k68 : PySem.W.keepIn K (.ref f68) = true)
    (a69 : PySem.W.nsIn K mainGlobals "law" = some (some (.ref f69)))
    (l69 : K.lookup f69 = some ⟨oc69, od69, .func (PySem.W.fnOf "law" "law" (defArgs sLaw) (defBody sLaw) (defScope sLaw) .none kV69 dc69 pm69 an69 cd69 ct69), sl69⟩)
    (e69 : PySem.W.codeIn K cd69 "law" = true)
    (k69 : PySem.W.keepIn K (.ref f69) = true)
    (da : PySem.W.nsIn K mainGlobals "DEEDS" = some (some (.ref D)))
    (dl : K.lookup D = some ⟨.type "dict", none, .dict es en, #[]⟩)
    (dk : PySem.W.KeysLit w.params es.toList)
    (d_plus : PySem.W.nsIn K D "plus" = some (some (.ref f1)))
    (d_less : PySem.W.nsIn K D "less" = some (some (.ref f2)))
    (d_times : PySem.W.nsIn K D "times" = some (some (.ref f3)))
    (d_over : PySem.W.nsIn K D "over" = some (some (.ref f4)))
    (d_rest : PySem.W.nsIn K D "rest" = some (some (.ref f5)))
    (rpg : PySem.W.plainGet K C Str.empty = true)
    (rhd : PySem.W.hasDictIn K C = true)
    (rpo : PySem.W.plainOver K C = true)
    (rsa : PySem.W.findIn K (.ref C) "__setattr__" = some (some (.builtin "object.__setattr__")))
    (rmk : PySem.W.makesIn K C = true)
    (rkc : PySem.W.keepIn K (.ref C) = true)
    (r_name : PySem.W.findIn K (.ref C) "name" = some none)
    (r_above : PySem.W.findIn K (.ref C) "above" = some none)
    (r_boxes : PySem.W.findIn K (.ref C) "boxes" = some none)
    (r_sayings : PySem.W.findIn K (.ref C) "sayings" = some none)
    (r_ask : PySem.W.findIn K (.ref C) "ask" = some none)
    (r_told : PySem.W.findIn K (.ref C) "told" = some none)
    (r_promise : PySem.W.findIn K (.ref C) "promise" = some none)
    (r_body : PySem.W.findIn K (.ref C) "body" = some none)
    (ppg : PySem.W.plainGet K CP Str.empty = true)
    (phd : PySem.W.hasDictIn K CP = true)
    (ppo : PySem.W.plainOver K CP = true)
    (psa : PySem.W.findIn K (.ref CP) "__setattr__" = some (some (.builtin "object.__setattr__")))
    (pmk : PySem.W.makesIn K CP = true)
    (pkc : PySem.W.keepIn K (.ref CP) = true)
    (p_held : PySem.W.findIn K (.ref CP) "held" = some none)
    (p_drawn : PySem.W.findIn K (.ref CP) "drawn" = some none)
    (x_cl : PySem.W.findIn K (.ref C) "__class__" = some (some (.builtin "object.__class__")))
    (x_get : PySem.W.specialIn K (.builtin "object.__class__") "__get__" = some (some (.builtin "getset_descriptor.__get__")))
    (x_tk : PySem.W.takesIn K (.builtin "object.__class__") = some true)
    (x_mro : PySem.W.mroIn K C (.type "object") = some true)
    (nL : K.lookup CN = some (excClassObj nmN qN CN NN bsN [.type "LookupError", .type "Exception", .type "BaseException", .type "object"] true snN subN abN colN ddN ek0 ek1 ek2 ek3 ek5 "LookupError.__new__"))
    (nsa : PySem.W.findIn K (.ref CN) "__setattr__" = some (some (.builtin "object.__setattr__")))
    (nga : PySem.W.findIn K (.ref CN) "__getattribute__" = some (some (.builtin "BaseException.__getattribute__")))
    (ngg : PySem.W.findIn K (.ref CN) "__getattr__" = some (none))
    (nname : PySem.W.findIn K (.ref CN) "name" = some (none))
    (nft : PySem.W.typeIn K (.ref f37) = some (.type "function"))
    (nkC : PySem.W.keepIn K (.ref CN) = true)
    (nex : PySem.W.subIn K (.ref CN) (.type "BaseException") = some true)
    (nty : PySem.W.typeIn K (.ref CN) = some (.type "type"))
    (nhd : PySem.W.hasDictIn K CN = true)
    (nsub : PySem.W.subIn K (.ref CN) (.ref CN) = some true)
    (ncl : PySem.W.findIn K (.ref CN) "__class__" = some (some (.builtin "object.__class__")))
    (nmro : PySem.W.mroIn K CN (.type "object") = some true)
    (nle : PySem.W.subIn K (.ref CN) (.type "LookupError") = some true)
    (vL : PySem.W.findCls K (.type "LookupError") (.type "type") "__init__" = some (.val (.builtin "LookupError.__init__")))
    (dkd : Keyed es.toList deedWords)
    (dsm : (D == sysModules) = false)
    (kwn : PySem.W.nsIn K mainGlobals "KEPT_WORDS" = some (some (.ref kw)))
    (kwl : K.lookup kw = some ot)
    (kwc : ot.cls = .type "tuple")
    (kwd : ot.data = .seq #[.str "asked" s1, .str "told" s2, .str "not" s3, .str "and" s4, .str "or" s5] nt)
    (ltn : PySem.W.nsIn K mainGlobals "LETTERS" = some (some (.str letters s6)))
    (c_MOST_DEEP_TERM : PySem.W.nsIn K mainGlobals "MOST_DEEP_TERM" = some (some (.int 5 t_MOST_DEEP_TERM)))
    (c_MOST_TERMS : PySem.W.nsIn K mainGlobals "MOST_TERMS" = some (some (.int 16 t_MOST_TERMS)))
    (c_MOST_DEEP_STEP : PySem.W.nsIn K mainGlobals "MOST_DEEP_STEP" = some (some (.int 4 t_MOST_DEEP_STEP)))
    (c_MOST_STEPS : PySem.W.nsIn K mainGlobals "MOST_STEPS" = some (some (.int 30 t_MOST_STEPS)))
    (c_MOST_IN_BODY : PySem.W.nsIn K mainGlobals "MOST_IN_BODY" = some (some (.int 12 t_MOST_IN_BODY)))
    (c_MOST_ROOMS : PySem.W.nsIn K mainGlobals "MOST_ROOMS" = some (some (.int 8 t_MOST_ROOMS)))
    (c_MOST_FLOORS : PySem.W.nsIn K mainGlobals "MOST_FLOORS" = some (some (.int 4 t_MOST_FLOORS)))
    (c_MOST_BOXES : PySem.W.nsIn K mainGlobals "MOST_BOXES" = some (some (.int 4 t_MOST_BOXES)))
    (c_MOST_SAYINGS : PySem.W.nsIn K mainGlobals "MOST_SAYINGS" = some (some (.int 4 t_MOST_SAYINGS)))
    (c_MOST_BOUND : PySem.W.nsIn K mainGlobals "MOST_BOUND" = some (some (.int 40 t_MOST_BOUND)))
    (z1 : PySem.W.nsIn K mainGlobals "isinstance" = some none)
    (z2 : PySem.W.nsIn K mainGlobals "int" = some none)
    (z3 : PySem.W.nsIn K mainGlobals "bool" = some none)
    (z4 : PySem.W.nsIn K mainGlobals "str" = some none)
    (z5 : PySem.W.nsIn K mainGlobals "tuple" = some none)
    (z6 : PySem.W.nsIn K mainGlobals "len" = some none)
    (z7 : PySem.W.nsIn K mainGlobals "all" = some none)
    (z8 : PySem.W.nsIn K mainGlobals "sum" = some none)
    (z9 : PySem.W.nsIn K mainGlobals "list" = some none)
    (z10 : PySem.W.nsIn K mainGlobals "max" = some none)
    (z11 : PySem.W.nsIn K mainGlobals "min" = some none)
    (z12 : PySem.W.nsIn K mainGlobals "range" = some none)
    (z13 : PySem.W.nsIn K mainGlobals "abs" = some none)
    (z14 : PySem.W.nsIn K mainGlobals "enumerate" = some none)
    (z15 : PySem.W.nsIn K mainGlobals "reversed" = some none)
    (z16 : PySem.W.nsIn K mainGlobals "set" = some none)
    (z17 : PySem.W.nsIn K mainGlobals "sorted" = some none)
    (z18 : PySem.W.nsIn K mainGlobals "LookupError" = some none)
    (x_ne7_8 : P7 = P8 → False)
    (x_ne7_9 : P7 = P9 → False)
    (x_ne8_9 : P8 = P9 → False)
    : LawT l w K 33 63 "_law_script" mg fa h := by
  have e := hfa.symm.trans (PySem.W.mg_of X G a69)
  cases e
  have F1 := fun_mk (st := sPlus) l1 e1 k1
  have b1 := F1.binds (ps := ["left", "right"]) fun _ _ _ _ _ _ us hl => match us, hl with | [_, _], _ => rfl
  have m1 := PySem.W.mg_of X G a1
  have F2 := fun_mk (st := sLess) l2 e2 k2
  have b2 := F2.binds (ps := ["left", "right"]) fun _ _ _ _ _ _ us hl => match us, hl with | [_, _], _ => rfl
  have m2 := PySem.W.mg_of X G a2
  have F3 := fun_mk (st := sTimes) l3 e3 k3
  have b3 := F3.binds (ps := ["left", "right"]) fun _ _ _ _ _ _ us hl => match us, hl with | [_, _], _ => rfl
  have m3 := PySem.W.mg_of X G a3
  have F4 := fun_mk (st := sOver) l4 e4 k4
  have b4 := F4.binds (ps := ["left", "right"]) fun _ _ _ _ _ _ us hl => match us, hl with | [_, _], _ => rfl
  have m4 := PySem.W.mg_of X G a4
  have F5 := fun_mk (st := sRest) l5 e5 k5
  have b5 := F5.binds (ps := ["left", "right"]) fun _ _ _ _ _ _ us hl => match us, hl with | [_, _], _ => rfl
  have m5 := PySem.W.mg_of X G a5
  have F6 : FunD K "holds" "holds" (defArgs sHolds) (defBody sHolds) (defScope sHolds) [] [("asked", .int 0), ("told", .int 0)] f6 (PySem.W.fnOf "holds" "holds" (defArgs sHolds) (defBody sHolds) (defScope sHolds) .none (.ref D6) dc6 pm6 an6 cd6 ct6) :=
    ⟨⟨oc6, od6, .none, .ref D6, dc6, pm6, an6, cd6, ct6, sl6, rfl, l6, e6, .inl ⟨rfl, rfl⟩, .inr ⟨D6, rfl, fun q hq => by
      simp only [List.mem_cons, List.not_mem_nil, or_false] at hq
      rcases hq with rfl | rfl
      · exact ⟨_, w6_0, ⟨_, rfl⟩⟩
      · exact ⟨_, w6_1, ⟨_, rfl⟩⟩⟩⟩, k6⟩
  have m6 := PySem.W.mg_of X G a6
  have F7 : FunC K "ready_worth" "ready_worth" sReady f7 _ c7 := ⟨⟨oc7, od7, kV7, dc7, pm7, an7, ct7, sl7, rfl, l7, e7⟩, k7⟩
  have b7 := F7.binds (ps := ["expression", "owns"]) fun _ _ _ _ _ us hl => match us, hl with | [_, _], _ => rfl
  have m7 := PySem.W.mg_of X G a7
  have F8 : FunC K "ready_test" "ready_test" sRT f8 _ c8 := ⟨⟨oc8, od8, kV8, dc8, pm8, an8, ct8, sl8, rfl, l8, e8⟩, k8⟩
  have b8 := F8.binds (ps := ["test", "owns"]) fun _ _ _ _ _ us hl => match us, hl with | [_, _], _ => rfl
  have m8 := PySem.W.mg_of X G a8
  have F9 : FunC K "ready_comparison" "ready_comparison" sRC f9 _ c9 := ⟨⟨oc9, od9, kV9, dc9, pm9, an9, ct9, sl9, rfl, l9, e9⟩, k9⟩
  have b9 := F9.binds (ps := ["kind", "left", "right"]) fun _ _ _ _ _ us hl => match us, hl with | [_, _, _], _ => rfl
  have m9 := PySem.W.mg_of X G a9
  have F10 := fun_mk (st := sPlaces) l10 e10 k10
  have b10 := F10.binds (ps := ["program", "name"]) fun _ _ _ _ _ _ us hl => match us, hl with | [_, _], _ => rfl
  have m10 := PySem.W.mg_of X G a10
  have F11 := fun_mk (st := sRP) l11 e11 k11
  have b11 := F11.binds (ps := ["room"]) fun _ _ _ _ _ _ us hl => match us, hl with | [_], _ => rfl
  have m11 := PySem.W.mg_of X G a11
  have F12 := fun_mk (st := sBSz) l12 e12 k12
  have b12 := F12.binds (ps := ["body"]) fun _ _ _ _ _ _ us hl => match us, hl with | [_], _ => rfl
  have m12 := PySem.W.mg_of X G a12
  have F13 := fun_mk (st := sSSz) l13 e13 k13
  have b13 := F13.binds (ps := ["step"]) fun _ _ _ _ _ _ us hl => match us, hl with | [_], _ => rfl
  have m13 := PySem.W.mg_of X G a13
  have F14 := fun_mk (st := sBeg) l14 e14 k14
  have b14 := F14.binds (ps := ["body", "at", "behind"]) fun _ _ _ _ _ _ us hl => match us, hl with | [_, _, _], _ => rfl
  have m14 := PySem.W.mg_of X G a14
  have F15 := fun_mk (st := sABody) l15 e15 k15
  have b15 := F15.binds (ps := ["found", "body", "behind"]) fun _ _ _ _ _ _ us hl => match us, hl with | [_, _, _], _ => rfl
  have m15 := PySem.W.mg_of X G a15
  have F16 := fun_mk (st := sAStep) l16 e16 k16
  have b16 := F16.binds (ps := ["found", "step", "behind"]) fun _ _ _ _ _ _ us hl => match us, hl with | [_, _, _], _ => rfl
  have m16 := PySem.W.mg_of X G a16
  have F17 := fun_mk (st := sAIf) l17 e17 k17
  have b17 := F17.binds (ps := ["found", "step", "behind"]) fun _ _ _ _ _ _ us hl => match us, hl with | [_, _, _], _ => rfl
  have m17 := PySem.W.mg_of X G a17
  have F18 := fun_mk (st := sAFor) l18 e18 k18
  have b18 := F18.binds (ps := ["found", "step", "behind"]) fun _ _ _ _ _ _ us hl => match us, hl with | [_, _, _], _ => rfl
  have m18 := PySem.W.mg_of X G a18
  have F19 := fun_mk (st := sACall) l19 e19 k19
  have b19 := F19.binds (ps := ["found", "step", "behind"]) fun _ _ _ _ _ _ us hl => match us, hl with | [_, _, _], _ => rfl
  have m19 := PySem.W.mg_of X G a19
  have F20 := fun_mk (st := sWhole) l20 e20 k20
  have b20 := F20.binds (ps := ["thing"]) fun _ _ _ _ _ _ us hl => match us, hl with | [_], _ => rfl
  have m20 := PySem.W.mg_of X G a20
  have F21 := fun_mk (st := sWithin) l21 e21 k21
  have b21 := F21.binds (ps := ["thing", "least", "most"]) fun _ _ _ _ _ _ us hl => match us, hl with | [_, _, _], _ => rfl
  have m21 := PySem.W.mg_of X G a21
  have F22 := fun_mk (st := sName) l22 e22 k22
  have b22 := F22.binds (ps := ["thing"]) fun _ _ _ _ _ _ us hl => match us, hl with | [_], _ => rfl
  have m22 := PySem.W.mg_of X G a22
  have F23 := fun_mk (st := sIsExpr) l23 e23 k23
  have b23 := F23.binds (ps := ["thing", "boxes", "words"]) fun _ _ _ _ _ _ us hl => match us, hl with | [_, _, _], _ => rfl
  have m23 := PySem.W.mg_of X G a23
  have F24 := fun_mk (st := sIsTest) l24 e24 k24
  have b24 := F24.binds (ps := ["thing", "boxes", "words"]) fun _ _ _ _ _ _ us hl => match us, hl with | [_, _, _], _ => rfl
  have m24 := PySem.W.mg_of X G a24
  have F25 := fun_mk (st := sExFits) l25 e25 k25
  have b25 := F25.binds (ps := ["thing", "boxes", "words", "deep"]) fun _ _ _ _ _ _ us hl => match us, hl with | [_, _, _, _], _ => rfl
  have m25 := PySem.W.mg_of X G a25
  have F26 := fun_mk (st := sTsFits) l26 e26 k26
  have b26 := F26.binds (ps := ["thing", "boxes", "words", "deep"]) fun _ _ _ _ _ _ us hl => match us, hl with | [_, _, _, _], _ => rfl
  have m26 := PySem.W.mg_of X G a26
  have F27 := fun_mk (st := sRow) l27 e27 k27
  have b27 := F27.binds (ps := ["thing"]) fun _ _ _ _ _ _ us hl => match us, hl with | [_], _ => rfl
  have m27 := PySem.W.mg_of X G a27
  have F28 := fun_mk (st := sCount) l28 e28 k28
  have b28 := F28.binds (ps := ["term"]) fun _ _ _ _ _ _ us hl => match us, hl with | [_], _ => rfl
  have m28 := PySem.W.mg_of X G a28
  have F29 := fun_mk (st := sBody) l29 e29 k29
  have b29 := F29.binds (ps := ["thing", "boxes", "words", "beneath"]) fun _ _ _ _ _ _ us hl => match us, hl with | [_, _, _, _], _ => rfl
  have m29 := PySem.W.mg_of X G a29
  have F30 := fun_mk (st := sBFits) l30 e30 k30
  have b30 := F30.binds (ps := ["thing", "boxes", "words", "beneath", "deep"]) fun _ _ _ _ _ _ us hl => match us, hl with | [_, _, _, _, _], _ => rfl
  have m30 := PySem.W.mg_of X G a30
  have F31 := fun_mk (st := sSFits) l31 e31 k31
  have b31 := F31.binds (ps := ["step", "boxes", "words", "beneath", "deep"]) fun _ _ _ _ _ _ us hl => match us, hl with | [_, _, _, _, _], _ => rfl
  have m31 := PySem.W.mg_of X G a31
  have F32 := fun_mk (st := sAll) l32 e32 k32
  have b32 := F32.binds (ps := ["body"]) fun _ _ _ _ _ _ us hl => match us, hl with | [_], _ => rfl
  have m32 := PySem.W.mg_of X G a32
  have F33 := fun_mk (st := sWithinB) l33 e33 k33
  have b33 := F33.binds (ps := ["step"]) fun _ _ _ _ _ _ us hl => match us, hl with | [_], _ => rfl
  have m33 := PySem.W.mg_of X G a33
  have F34 : FunD K "__init__" "Room.__init__" (defArgs sRInit) (defBody sRInit) (defScope sRInit) [] [] f34 (PySem.W.fnOf "__init__" "Room.__init__" (defArgs sRInit) (defBody sRInit) (defScope sRInit) .none (.ref D34) dc34 pm34 an34 cd34 ct34) :=
    ⟨⟨oc34, od34, .none, .ref D34, dc34, pm34, an34, cd34, ct34, sl34, rfl, l34, e34, .inl ⟨rfl, rfl⟩, .inr ⟨D34, rfl, fun q hq => nomatch hq⟩⟩, k34⟩
  have F35 := fun_mk (st := sPInit) l35 e35 k35
  have b35 := F35.binds (ps := ["self", "rooms"]) fun _ _ _ _ _ _ us hl => match us, hl with | [_, _], _ => rfl
  have F36 := fun_mk (st := sRO) l36 e36 k36
  have b36 := F36.binds (ps := ["self", "name"]) fun _ _ _ _ _ _ us hl => match us, hl with | [_, _], _ => rfl
  have F37 := fun_mk (st := sNR) l37 e37 k37
  have b37 := F37.binds (ps := ["self", "name"]) fun _ _ _ _ _ _ us hl => match us, hl with | [_, _], _ => rfl
  have F38 := fun_mk (st := sRooms) l38 e38 k38
  have b38 := F38.binds (ps := ["things"]) fun _ _ _ _ _ _ us hl => match us, hl with | [_], _ => rfl
  have m38 := PySem.W.mg_of X G a38
  have F39 := fun_mk (st := sFault) l39 e39 k39
  have b39 := F39.binds (ps := ["rooms", "at"]) fun _ _ _ _ _ _ us hl => match us, hl with | [_, _], _ => rfl
  have m39 := PySem.W.mg_of X G a39
  have F40 := fun_mk (st := sNameF) l40 e40 k40
  have b40 := F40.binds (ps := ["rooms", "at"]) fun _ _ _ _ _ _ us hl => match us, hl with | [_, _], _ => rfl
  have m40 := PySem.W.mg_of X G a40
  have F41 := fun_mk (st := sAboveF) l41 e41 k41
  have b41 := F41.binds (ps := ["rooms", "at"]) fun _ _ _ _ _ _ us hl => match us, hl with | [_, _], _ => rfl
  have m41 := PySem.W.mg_of X G a41
  have F42 := fun_mk (st := sFloor) l42 e42 k42
  have b42 := F42.binds (ps := ["rooms", "at"]) fun _ _ _ _ _ _ us hl => match us, hl with | [_, _], _ => rfl
  have m42 := PySem.W.mg_of X G a42
  have F43 := fun_mk (st := sBoxesF) l43 e43 k43
  have b43 := F43.binds (ps := ["boxes"]) fun _ _ _ _ _ _ us hl => match us, hl with | [_], _ => rfl
  have m43 := PySem.W.mg_of X G a43
  have F44 := fun_mk (st := sBoxF) l44 e44 k44
  have b44 := F44.binds (ps := ["box"]) fun _ _ _ _ _ _ us hl => match us, hl with | [_], _ => rfl
  have m44 := PySem.W.mg_of X G a44
  have F45 := fun_mk (st := sSaysF) l45 e45 k45
  have b45 := F45.binds (ps := ["room"]) fun _ _ _ _ _ _ us hl => match us, hl with | [_], _ => rfl
  have m45 := PySem.W.mg_of X G a45
  have F46 := fun_mk (st := sFirstF) l46 e46 k46
  have b46 := F46.binds (ps := ["room"]) fun _ _ _ _ _ _ us hl => match us, hl with | [_], _ => rfl
  have m46 := PySem.W.mg_of X G a46
  have F47 := fun_mk (st := sOtherF) l47 e47 k47
  have b47 := F47.binds (ps := ["room"]) fun _ _ _ _ _ _ us hl => match us, hl with | [_], _ => rfl
  have m47 := PySem.W.mg_of X G a47
  have F48 := fun_mk (st := sToldF) l48 e48 k48
  have b48 := F48.binds (ps := ["room"]) fun _ _ _ _ _ _ us hl => match us, hl with | [_], _ => rfl
  have m48 := PySem.W.mg_of X G a48
  have F49 := fun_mk (st := sBodyF) l49 e49 k49
  have b49 := F49.binds (ps := ["rooms", "at", "words"]) fun _ _ _ _ _ _ us hl => match us, hl with | [_, _, _], _ => rfl
  have m49 := PySem.W.mg_of X G a49
  have F50 := fun_mk (st := sNames) l50 e50 k50
  have b50 := F50.binds (ps := ["room"]) fun _ _ _ _ _ _ us hl => match us, hl with | [_], _ => rfl
  have m50 := PySem.W.mg_of X G a50
  have F51 := fun_mk (st := sBag) l51 e51 k51
  have b51 := F51.binds (ps := ["_law_script", "_law_at"]) fun _ _ _ _ _ _ us hl => match us, hl with | [_, _], _ => rfl
  have m51 := PySem.W.mg_of X G a51
  have F52 := fun_mk (st := sTake) l52 e52 k52
  have b52 := F52.binds (ps := ["_law_bag_here", "_law_many"]) fun _ _ _ _ _ _ us hl => match us, hl with | [_, _], _ => rfl
  have m52 := PySem.W.mg_of X G a52
  have F53 := fun_mk (st := sOf) l53 e53 k53
  have b53 := F53.binds (ps := ["_law_bag_here", "_law_some"]) fun _ _ _ _ _ _ us hl => match us, hl with | [_, _], _ => rfl
  have m53 := PySem.W.mg_of X G a53
  have F54 := fun_mk (st := sMixed) l54 e54 k54
  have b54 := F54.binds (ps := ["_law_bag_here", "_law_some"]) fun _ _ _ _ _ _ us hl => match us, hl with | [_, _], _ => rfl
  have m54 := PySem.W.mg_of X G a54
  have F55 := fun_mk (st := sExpr) l55 e55 k55
  have b55 := F55.binds (ps := ["_law_bag_here", "_law_names", "_law_asks", "_law_deep"]) fun _ _ _ _ _ _ us hl => match us, hl with | [_, _, _, _], _ => rfl
  have m55 := PySem.W.mg_of X G a55
  have F56 := fun_mk (st := sTest) l56 e56 k56
  have b56 := F56.binds (ps := ["_law_bag_here", "_law_names", "_law_asks", "_law_deep"]) fun _ _ _ _ _ _ us hl => match us, hl with | [_, _, _, _], _ => rfl
  have m56 := PySem.W.mg_of X G a56
  have F57 := fun_mk (st := sSteps) l57 e57 k57
  have b57 := F57.binds (ps := ["_law_bag_here", "_law_names", "_law_asks", "_law_beneath", "_law_deep"]) fun _ _ _ _ _ _ us hl => match us, hl with | [_, _, _, _, _], _ => rfl
  have m57 := PySem.W.mg_of X G a57
  have F58 := fun_mk (st := sGroup) l58 e58 k58
  have b58 := F58.binds (ps := ["_law_bag_here", "_law_names", "_law_asks", "_law_lows", "_law_lots"]) fun _ _ _ _ _ _ us hl => match us, hl with | [_, _, _, _, _], _ => rfl
  have m58 := PySem.W.mg_of X G a58
  have F59 := fun_mk (st := sAnswer) l59 e59 k59
  have b59 := F59.binds (ps := ["_law_bag_here", "_law_lots"]) fun _ _ _ _ _ _ us hl => match us, hl with | [_, _], _ => rfl
  have m59 := PySem.W.mg_of X G a59
  have F60 := fun_mk (st := sRoom) l60 e60 k60
  have b60 := F60.binds (ps := ["_law_bag_here", "_law_name", "_law_roof", "_law_answer_here", "_law_beneath", "_law_lots"]) fun _ _ _ _ _ _ us hl => match us, hl with | [_, _, _, _, _, _], _ => rfl
  have m60 := PySem.W.mg_of X G a60
  have F61 := fun_mk (st := sRms) l61 e61 k61
  have b61 := F61.binds (ps := ["_law_bag_here", "_law_most", "_law_lots"]) fun _ _ _ _ _ _ us hl => match us, hl with | [_, _, _], _ => rfl
  have m61 := PySem.W.mg_of X G a61
  have F62 := fun_mk (st := sMade) l62 e62 k62
  have b62 := F62.binds (ps := ["_law_some"]) fun _ _ _ _ _ _ us hl => match us, hl with | [_], _ => rfl
  have m62 := PySem.W.mg_of X G a62
  have F63 := fun_mk (st := sLProg) l63 e63 k63
  have b63 := F63.binds (ps := ["_law_rooms_here"]) fun _ _ _ _ _ _ us hl => match us, hl with | [_], _ => rfl
  have m63 := PySem.W.mg_of X G a63
  have F64 := fun_mk (st := sPat) l64 e64 k64
  have b64 := F64.binds (ps := ["_law_rows", "_law_loose", "_law_goal"]) fun _ _ _ _ _ _ us hl => match us, hl with | [_, _, _], _ => rfl
  have m64 := PySem.W.mg_of X G a64
  have F65 := fun_mk (st := sLay) l65 e65 k65
  have b65 := F65.binds (ps := ["_law_steps_here", "_law_rows", "_law_loose"]) fun _ _ _ _ _ _ us hl => match us, hl with | [_, _, _], _ => rfl
  have m65 := PySem.W.mg_of X G a65
  have F66 := fun_mk (st := sLPl) l66 e66 k66
  have b66 := F66.binds (ps := ["_law_some"]) fun _ _ _ _ _ _ us hl => match us, hl with | [_], _ => rfl
  have m66 := PySem.W.mg_of X G a66
  have F67 := fun_mk (st := sNest) l67 e67 k67
  have b67 := F67.binds (ps := ["_law_bag_here", "_law_name", "_law_goal", "_law_deep"]) fun _ _ _ _ _ _ us hl => match us, hl with | [_, _, _, _], _ => rfl
  have m67 := PySem.W.mg_of X G a67
  have F68 := fun_mk (st := sRf) l68 e68 k68
  have b68 := F68.binds (ps := ["_law_house", "_law_thing"]) fun _ _ _ _ _ _ us hl => match us, hl with | [_, _], _ => rfl
  have m68 := PySem.W.mg_of X G a68
  have F69 := fun_mk (st := sLaw) l69 e69 k69
  have m69 := PySem.W.mg_of X G a69
  have y_isinstance := PySem.W.mg_none_of X G z1
  have y_int := PySem.W.mg_none_of X G z2
  have y_bool := PySem.W.mg_none_of X G z3
  have y_str := PySem.W.mg_none_of X G z4
  have y_tuple := PySem.W.mg_none_of X G z5
  have y_len := PySem.W.mg_none_of X G z6
  have y_all := PySem.W.mg_none_of X G z7
  have y_sum := PySem.W.mg_none_of X G z8
  have y_list := PySem.W.mg_none_of X G z9
  have y_max := PySem.W.mg_none_of X G z10
  have y_min := PySem.W.mg_none_of X G z11
  have y_range := PySem.W.mg_none_of X G z12
  have y_abs := PySem.W.mg_none_of X G z13
  have y_enumerate := PySem.W.mg_none_of X G z14
  have y_reversed := PySem.W.mg_none_of X G z15
  have y_set := PySem.W.mg_none_of X G z16
  have y_sorted := PySem.W.mg_none_of X G z17
  have y_LookupError := PySem.W.mg_none_of X G z18
  let T : List NTab := [(P7, fun _ _ => qReady), (P8, fun _ _ => qRT), (P9, fun _ _ => qRC)]
  refine ⟨PySem.W.fnOf "law" "law" (defArgs sLaw) (defBody sLaw) (defScope sLaw) .none kV69 dc69 pm69 an69 cd69 ct69, [(c7, P7), (c8, P8), (c9, P9)], spLaw T K, fun p hp => by
      simp only [List.mem_cons, List.not_mem_nil, or_false] at hp
      rcases hp with rfl | rfl | rfl
      · exact t7
      · exact t8
      · exact t9, fun p hp => by
      simp only [List.mem_cons, List.not_mem_nil, or_false] at hp
      rcases hp with rfl | rfl | rfl
      · exact n7
      · exact n8
      · exact n9, fun p hp => by
      simp only [List.mem_cons, List.not_mem_nil, or_false] at hp
      rcases hp with rfl | rfl | rfl
      · exact PySem.W.codeHd_of_K X q7
      · exact PySem.W.codeHd_of_K X q8
      · exact PySem.W.codeHd_of_K X q9, fun s v => .of_eq rfl, fun H a ns hl t hS => ⟨a, ns, rfl, hS, hl, ?_, fun _ => rfl⟩, fun base _ _ TB => ?_⟩
  · intro p hp
    simp only [T, List.mem_cons, List.not_mem_nil, or_false] at hp
    rcases hp with rfl | rfl | rfl
    · exact TabN.nil (t (c7, P7) (by simp))
    · exact TabN.nil (t (c8, P8) (by simp))
    · exact TabN.nil (t (c9, P9) (by simp))
  have TB7 : TabB base mg c7 P7 := TB (c7, P7) (by simp)
  have TB8 : TabB base mg c8 P8 := TB (c8, P8) (by simp)
  have TB9 : TabB base mg c9 P9 := TB (c9, P9) (by simp)
  have hm7 : (P7, fun _ _ => qReady) ∈ T := by simp [T]
  have hm8 : (P8, fun _ _ => qRT) ∈ T := by simp [T]
  have hm9 : (P9, fun _ _ => qRC) ∈ T := by simp [T]
  have ne7_8 : P7 ≠ P8 := by
    intro z
    have := PySem.W.codeHd_of_K X q7
    have := PySem.W.codeHd_of_K X q8
    exact x_ne7_8 z
  have ne7_9 : P7 ≠ P9 := by
    intro z
    have := PySem.W.codeHd_of_K X q7
    have := PySem.W.codeHd_of_K X q9
    exact x_ne7_9 z
  have ne8_9 : P8 ≠ P9 := by
    intro z
    have := PySem.W.codeHd_of_K X q8
    have := PySem.W.codeHd_of_K X q9
    exact x_ne8_9 z
  have hu7 : ∀ p ∈ T, p.1 = P7 → p.2 = fun _ _ => qReady := by
    intro p hp e
    simp only [T, List.mem_cons, List.not_mem_nil, or_false] at hp
    rcases hp with rfl | rfl | rfl
    · rfl
    · exact absurd e (Ne.symm ne7_8)
    · exact absurd e (Ne.symm ne7_9)
  have hu8 : ∀ p ∈ T, p.1 = P8 → p.2 = fun _ _ => qRT := by
    intro p hp e
    simp only [T, List.mem_cons, List.not_mem_nil, or_false] at hp
    rcases hp with rfl | rfl | rfl
    · exact absurd e (ne7_8)
    · rfl
    · exact absurd e (Ne.symm ne8_9)
  have hu9 : ∀ p ∈ T, p.1 = P9 → p.2 = fun _ _ => qRC := by
    intro p hp e
    simp only [T, List.mem_cons, List.not_mem_nil, or_false] at hp
    rcases hp with rfl | rfl | rfl
    · exact absurd e (ne7_9)
    · exact absurd e (ne8_9)
    · rfl
  have kd : ∀ (x : Str) (g : Addr), PySem.W.nsIn K D x = some (some (.ref g)) → KDct K w D x (.ref g) := fun x g e => ⟨es, en, _, dl, dk, e, rfl⟩
  have Dd_ : DeedsT l.prog w K mg base := ⟨D, PySem.W.mg_of X G da, fun d => by
    cases d with
    | plus => exact ⟨f1, kd _ _ d_plus, k1, (FnOk.raw (ok_plus F1) b1 .nil).imp fun vs H Q E h => by rw [List.append_nil]; exact h⟩
    | less => exact ⟨f2, kd _ _ d_less, k2, (FnOk.raw (ok_less F2) b2 .nil).imp fun vs H Q E h => by rw [List.append_nil]; exact h⟩
    | times => exact ⟨f3, kd _ _ d_times, k3, (FnOk.raw (ok_times F3) b3 .nil).imp fun vs H Q E h => by rw [List.append_nil]; exact h⟩
    | over => exact ⟨f4, kd _ _ d_over, k4, (FnOk.raw (ok_over F4) b4 .nil).imp fun vs H Q E h => by rw [List.append_nil]; exact h⟩
    | rest => exact ⟨f5, kd _ _ d_rest, k5, (FnOk.raw (ok_rest F5) b5 .nil).imp fun vs H Q E h => by rw [List.append_nil]; exact h⟩⟩
  have O : Own mg := ⟨y_isinstance, y_int, y_bool, y_str, y_tuple, y_len, y_all, y_sum, y_list⟩
  have TR : RoomC K C := ⟨⟨rpg, rhd, rpo, rsa⟩, r_name, r_above, r_boxes, r_sayings, r_ask, r_told, r_promise, r_body⟩
  have TI : RoomI K C := ⟨x_cl, x_get, x_tk, x_mro, kit_self⟩
  have TP : ProgC K CP := ⟨⟨ppg, phd, ppo, psa⟩, p_held, p_drawn⟩
  have TH : HeldC K CP := ⟨⟨ppg, phd, ppo, psa⟩, p_held⟩
  have mR := PySem.W.mg_of X G xR
  have mP := PySem.W.mg_of X G xP
  have mN := PySem.W.mg_of X G xN
  have Z : NoRoomC K mg CN := ⟨⟨over_lookup, ⟨nmN, qN, NN, bsN, snN, subN, abN, colN, ddN, ek0, ek1, ek2, ek3, ek5, nL⟩, nsa, nex, nty, nkC⟩, nname, ⟨nga, ngg, nex, nhd⟩, ⟨nga, ngg, nex, nhd, ncl, x_get, x_tk, nmro⟩, kit_le nle, PySem.W.exm_ref nex nhd nty nsub, y_LookupError, vL, mN⟩
  have kD : KKeys K w D deedWords := ⟨es, en, dl, dk, dkd, by decide, dsm, by rw [sizeLine_eq]; decide⟩
  have hkw : ∀ H, SqT K H kw (keptWords.map V.str) := fun H => .inr ⟨ot, _, nt, kwl, kwc, kwd, by (show 5 ≤ sizeLine; rw [sizeLine_eq]; decide), .cons ⟨_, rfl⟩ (.cons ⟨_, rfl⟩ (.cons ⟨_, rfl⟩ (.cons ⟨_, rfl⟩ (.cons ⟨_, rfl⟩ .nil))))⟩
  have GRW := all_ready F7 TB7 hm7 hu7 Dd_ m7 b7 6
  have GC := ok_rc (P := l.prog) (w := w) F9 TB9 hm9 hu9
  have GRT := all_rt F8 TB8 hm8 hu8 m8 b8 GRW m7 k7 b7 GC m9 k9 b9 5
  have GH := ok_holds F6 GRT m8 k8 b8 y_list
  have Gwhole := ok_whole (P := l.prog) (w := w) (mg := mg) (base := base) O F20
  have Gwithin := ok_within F21 Gwhole b20 k20 m20
  have Grow := ok_row (P := l.prog) (w := w) (mg := mg) (base := base) O F27
  have Gcount := all_count (P := l.prog) (w := w) (mg := mg) (base := base) O F28 b28 m28 6
  have Gef := all_ef O F25 b25 m25 Grow b27 k27 m27 Gwithin b21 k21 m21 (PySem.W.mg_of X G da) kD 6
  have Gtf := all_tf O F26 b26 m26 Grow b27 k27 m27 Gef b25 k25 m25 6
  have Gie := ok_isE F23 Gef b25 k25 m25 Gcount b28 k28 m28 (PySem.W.mg_of X G c_MOST_DEEP_TERM) (PySem.W.mg_of X G c_MOST_TERMS)
  have Git := ok_isT F24 Gtf b26 k26 m26 Gcount b28 k28 m28 (PySem.W.mg_of X G c_MOST_DEEP_TERM) (PySem.W.mg_of X G c_MOST_TERMS)
  have Gbf := all_bf O F31 F30 b31 k31 m31 (PySem.W.mg_of X G c_MOST_IN_BODY) b30 k30 m30 Grow b27 k27 m27 Gwithin b21 k21 m21 Gie b23 k23 m23 Git b24 k24 m24 4
  have Gwb := ok_wb (P := l.prog) (w := w) (mg := mg) (base := base) F33
  have Gas := all_all F32 b32 m32 Gwb b33 k33 m33 5
  have Gib := ok_isB O F29 Gbf b30 k30 m30 Gas b32 k32 m32 (PySem.W.mg_of X G c_MOST_DEEP_STEP) (PySem.W.mg_of X G c_MOST_STEPS)
  have Gname := ok_name (P := l.prog) (w := w) (mg := mg) (base := base) O F22 (PySem.W.mg_of X G kwn) hkw (PySem.W.mg_of X G ltn)
  have Gbn := ok_bn (P := l.prog) (w := w) (mg := mg) (base := base) TR F50
  have Gbox := ok_boxf O F44 Gname b22 k22 m22 Gwithin b21 k21 m21 (PySem.W.mg_of X G c_MOST_BOUND)
  have Gboxes := ok_boxesf O y_set y_sorted F43 (PySem.W.mg_of X G c_MOST_BOXES) Gbox b44 k44 m44
  have Gtold := ok_toldf O TR F48 Gwithin b21 k21 m21 (PySem.W.mg_of X G c_MOST_BOUND) Gie b23 k23 m23 Gbn b50 k50 m50
  have Gfirst := ok_firstf (P := l.prog) (w := w) (mg := mg) (base := base) TR F46
  have Gother := ok_otherf TR F47 Gwithin b21 k21 m21 (PySem.W.mg_of X G c_MOST_BOUND) Git b24 k24 m24 Gtold b48 k48 m48
  have Grooms := ok_rooms (P := l.prog) (w := w) (mg := mg) (base := base) O TR TI mR F38 (PySem.W.mg_of X G c_MOST_ROOMS)
  have Gnamef := ok_namef TR F40 Gname b22 k22 m22
  have Gbodyf := ok_bodyf TR F49 Gib b29 k29 m29 Gbn b50 k50 m50
  have Gfloor := ok_floor (P := l.prog) (w := w) (mg := mg) (base := base) TR y_reversed F42
  have Gabove := ok_abovef TR F41 Gfloor b42 k42 m42 (PySem.W.mg_of X G c_MOST_FLOORS)
  have Gsays := ok_saysf O TR F45 (PySem.W.mg_of X G c_MOST_SAYINGS) Git b24 k24 m24 F6 GH m6
  have Gfault := ok_fault TR F39 Gnamef b40 k40 m40 Gabove b41 k41 m41 Gboxes b43 k43 m43 Gsays b45 k45 m45 Gfirst b46 k46 m46 Gother b47 k47 m47 Gbodyf b49 k49 m49
  have Gpinit := ok_pinit O y_range TP F35 Grooms b38 k38 m38 Gfault b39 k39 m39
  have Gmade := ok_made (P := l.prog) (w := w) (mg := mg) (base := base) F62 ⟨rmk, a34, i34, rkc⟩ mR TR F34
  have Gprog := ok_lprog y_tuple F63 Gmade b62 k62 m62 ⟨pmk, a35, i35, pkc⟩ mP Gpinit b35
  have Dprog : Df l.prog w K mg base 32 "_law_program" _ (spLProg T C CP) := ⟨f63, _, m63, k63, Gprog, b63⟩
  obtain ⟨Dab, Dbs, Dbg⟩ := all_ab (P := l.prog) (w := w) (mg := mg) (base := base) O y_enumerate ⟨f15, _, m15, F15, b15⟩ ⟨f16, _, m16, F16, b16⟩ ⟨f17, _, m17, F17, b17⟩ ⟨f18, _, m18, F18, b18⟩ ⟨f19, _, m19, F19, b19⟩ ⟨f14, _, m14, F14, b14⟩ ⟨f12, _, m12, F12, b12⟩ ⟨f13, _, m13, F13, b13⟩ 4
  have Drp : Df l.prog w K mg base 15 "room_places" _ (spRP C) := ⟨f11, _, m11, k11, ok_rp TR F11 Dab Dbs Dbg, b11⟩
  have Mro : Mf l.prog w K mg base CP 1 "room_of" _ (spRO C CP) := ⟨f36, _, ⟨a36, i36, k36⟩, ok_ro TR TH F36, b36⟩
  have Dpl : Df l.prog w K mg base 16 "places" _ (spPls C CP) := ⟨f10, _, m10, k10, ok_places TH F10 Drp Mro, b10⟩
  have Gnr := ok_noroom (P := l.prog) (w := w) (base := base) Z F37
  have Grox := ok_rox TR TH Z a37 nft Gnr b37 F36
  have Gplx := ok_placesX TH F10 Drp ⟨a36, i36, k36⟩ Grox b36
  have Drf : DfG l.prog w K mg base 17 "_law_refused" _ (spRf K C CP) := ⟨f68, _, m68, k68, ok_rf O Z m10 k10 Gplx b10 F68, b68⟩
  have Lbag : Df l.prog w K mg base 1 "_law_bag" _ (spBag K) := ⟨f51, _, m51, k51, ok_bag F51 y_len y_abs y_int, b51⟩
  have Gtake := ok_take (P := l.prog) (w := w) (mg := mg) (base := base) F52
  have Ltake : Df l.prog w K mg base 1 "_law_take" _ spTake := ⟨f52, _, m52, k52, Gtake, b52⟩
  have Gof := ok_of F53 Gtake b52 k52 m52 y_len
  have Lof : Df l.prog w K mg base 2 "_law_of" _ spOf := ⟨f53, _, m53, k53, Gof, b53⟩
  have Lmix : Df l.prog w K mg base 2 "_law_mixed" _ spMixed := ⟨f54, _, m54, k54, ok_mixed y_list y_len F54 Gtake b52 k52 m52, b54⟩
  have Gexpr := all_expr F55 Gtake b52 k52 m52 Gof b53 k53 m53 b55 m55 7
  have Lexpr : Df l.prog w K mg base 9 "_law_expr" _ (spExpr 7) := ⟨f55, _, m55, k55, Gexpr, b55⟩
  have Ltest : Df l.prog w K mg base 17 "_law_test" _ (spTest 8) := ⟨f56, _, m56, k56, all_test F56 Gtake b52 k52 m52 Gexpr b55 k55 m55 b56 m56 8, b56⟩
  have Lsteps : Df l.prog w K mg base 21 "_law_steps" _ (spSteps 3) := all_steps_ (n := 3) y_range y_tuple ⟨f57, _, m57, F57, b57⟩ Ltake Lof Lexpr Ltest
  have Lgroup : Df l.prog w K mg base 10 "_law_group" _ spGroup := ⟨f58, _, m58, k58, ok_group O F58 Ltake Lof Lexpr, b58⟩
  have Lans : Df l.prog w K mg base 2 "_law_answer" _ spAnswer := ⟨f59, _, m59, k59, ok_answer O F59 Ltake, b59⟩
  have Lroom : Df l.prog w K mg base 22 "_law_room" _ spRoom := ⟨f60, _, m60, k60, ok_room O y_sorted F60 Ltake Lof Lmix Lexpr Lsteps Lgroup, b60⟩
  have Lrooms : Df l.prog w K mg base 23 "_law_rooms" _ spLRooms := ⟨f61, _, m61, k61, ok_lrooms O y_range y_min F61 Ltake Lmix Lans Lroom, b61⟩
  have Lpat : Df l.prog w K mg base 1 "_law_patched" _ spPat := ⟨f64, _, m64, k64, ok_pat F64, b64⟩
  have Llay : Df l.prog w K mg base 6 "_law_lay" _ (spLay 5) := all_lay O ⟨f65, _, m65, F65, b65⟩ Lpat 5
  have Lpl : Df l.prog w K mg base 7 "_law_places" _ spLPl := ⟨f66, _, m66, k66, ok_lpl O F66 Lpat Llay, b66⟩
  have Lnest : Df l.prog w K mg base 6 "_law_nest" _ (spNest 4) := all_nest ⟨f67, _, m67, F67, b67⟩ Ltake Lof 4
  exact ok_law O y_max y_min y_range F69 Lbag Ltake Lrooms Drf Lpl Dpl Lnest Dprog
end Any
open PySem PySem.W PyProof.Rows
set_option maxRecDepth 100000 in
set_option maxHeartbeats 0 in
theorem PySem.Challenge.cw_anystore_k05_places_holds : PySem.Challenge.rw_anystore_k05_places.Holds := by
  w_on; o_law; k_head; (case hw => w_witness2)
  k_fill
  refine Any.walk_gT (l := PySem.Challenge.rw_anystore_k05_places) (n := 63) (k := 33) (x := "_law_script") rfl (by decide) rfl ⟨rfl, by decide, by decide⟩ (fun w h Y => PySem.W.km_in_of Y) ?F
  case F =>
    intro w mg fa h Y KX G hmg
    have hT8 := PySem.W.km_tabs_of Y
    refine' Any.all_mk KX G hmg ?xR ?xP ?xN ?a1 ?l1 ?e1 ?k1 ?a2 ?l2 ?e2 ?k2 ?a3 ?l3 ?e3 ?k3 ?a4 ?l4 ?e4 ?k4 ?a5 ?l5 ?e5 ?k5 ?a6 ?l6 ?e6 ?k6 ?w6_0 ?w6_1 ?a7 ?l7 ?e7 ?k7 ?g7 ?v7 ?q7 ?n7 ?t7 ?a8 ?l8 ?e8 ?k8 ?g8 ?v8 ?q8 ?n8 ?t8 ?a9 ?l9 ?e9 ?k9 ?g9 ?v9 ?q9 ?n9 ?t9 ?a10 ?l10 ?e10 ?k10 ?a11 ?l11 ?e11 ?k11 ?a12 ?l12 ?e12 ?k12 ?a13 ?l13 ?e13 ?k13 ?a14 ?l14 ?e14 ?k14 ?a15 ?l15 ?e15 ?k15 ?a16 ?l16 ?e16 ?k16 ?a17 ?l17 ?e17 ?k17 ?a18 ?l18 ?e18 ?k18 ?a19 ?l19 ?e19 ?k19 ?a20 ?l20 ?e20 ?k20 ?a21 ?l21 ?e21 ?k21 ?a22 ?l22 ?e22 ?k22 ?a23 ?l23 ?e23 ?k23 ?a24 ?l24 ?e24 ?k24 ?a25 ?l25 ?e25 ?k25 ?a26 ?l26 ?e26 ?k26 ?a27 ?l27 ?e27 ?k27 ?a28 ?l28 ?e28 ?k28 ?a29 ?l29 ?e29 ?k29 ?a30 ?l30 ?e30 ?k30 ?a31 ?l31 ?e31 ?k31 ?a32 ?l32 ?e32 ?k32 ?a33 ?l33 ?e33 ?k33 ?a34 ?i34 ?l34 ?e34 ?k34 ?a35 ?i35 ?l35 ?e35 ?k35 ?a36 ?i36 ?l36 ?e36 ?k36 ?a37 ?i37 ?l37 ?e37 ?k37 ?a38 ?l38 ?e38 ?k38 ?a39 ?l39 ?e39 ?k39 ?a40 ?l40 ?e40 ?k40 ?a41 ?l41 ?e41 ?k41 ?a42 ?l42 ?e42 ?k42 ?a43 ?l43 ?e43 ?k43 ?a44 ?l44 ?e44 ?k44 ?a45 ?l45 ?e45 ?k45 ?a46 ?l46 ?e46 ?k46 ?a47 ?l47 ?e47 ?k47 ?a48 ?l48 ?e48 ?k48 ?a49 ?l49 ?e49 ?k49 ?a50 ?l50 ?e50 ?k50 ?a51 ?l51 ?e51 ?k51 ?a52 ?l52 ?e52 ?k52 ?a53 ?l53 ?e53 ?k53 ?a54 ?l54 ?e54 ?k54 ?a55 ?l55 ?e55 ?k55 ?a56 ?l56 ?e56 ?k56 ?a57 ?l57 ?e57 ?k57 ?a58 ?l58 ?e58 ?k58 ?a59 ?l59 ?e59 ?k59 ?a60 ?l60 ?e60 ?k60 ?a61 ?l61 ?e61 ?k61 ?a62 ?l62 ?e62 ?k62 ?a63 ?l63 ?e63 ?k63 ?a64 ?l64 ?e64 ?k64 ?a65 ?l65 ?e65 ?k65 ?a66 ?l66 ?e66 ?k66 ?a67 ?l67 ?e67 ?k67 ?a68 ?l68 ?e68 ?k68 ?a69 ?l69 ?e69 ?k69 ?da ?dl ?dk ?d_plus ?d_less ?d_times ?d_over ?d_rest ?rpg ?rhd ?rpo ?rsa ?rmk ?rkc ?r_name ?r_above ?r_boxes ?r_sayings ?r_ask ?r_told ?r_promise ?r_body ?ppg ?phd ?ppo ?psa ?pmk ?pkc ?p_held ?p_drawn ?x_cl ?x_get ?x_tk ?x_mro ?nL ?nsa ?nga ?ngg ?nname ?nft ?nkC ?nex ?nty ?nhd ?nsub ?ncl ?nmro ?nle ?vL ?dkd ?dsm ?kwn ?kwl ?kwc ?kwd ?ltn ?c_MOST_DEEP_TERM ?c_MOST_TERMS ?c_MOST_DEEP_STEP ?c_MOST_STEPS ?c_MOST_IN_BODY ?c_MOST_ROOMS ?c_MOST_FLOORS ?c_MOST_BOXES ?c_MOST_SAYINGS ?c_MOST_BOUND ?z1 ?z2 ?z3 ?z4 ?z5 ?z6 ?z7 ?z8 ?z9 ?z10 ?z11 ?z12 ?z13 ?z14 ?z15 ?z16 ?z17 ?z18 ?x_ne7_8 ?x_ne7_9 ?x_ne8_9
    (case xR => k_is)
    (case xP => k_is)
    (case xN => k_is)
    (case a1 => k_is)
    (case l1 => k_is)
    (case e1 => k_is)
    (case k1 => k_is)
    (case a2 => k_is)
    (case l2 => k_is)
    (case e2 => k_is)
    (case k2 => k_is)
    (case a3 => k_is)
    (case l3 => k_is)
    (case e3 => k_is)
    (case k3 => k_is)
    (case a4 => k_is)
    (case l4 => k_is)
    (case e4 => k_is)
    (case k4 => k_is)
    (case a5 => k_is)
    (case l5 => k_is)
    (case e5 => k_is)
    (case k5 => k_is)
    (case a6 => k_is)
    (case l6 => k_is)
    (case e6 => k_is)
    (case k6 => k_is)
    (case w6_0 => k_is)
    (case w6_1 => k_is)
    (case a7 => k_is)
    (case l7 => k_is)
    (case e7 => k_is)
    (case k7 => k_is)
    (case g7 => k_is)
    (case v7 => rfl)
    (case q7 => kernel_rfl)
    (case n7 => kernel_rfl)
    (case t7 => exact hT8 _ (by k_mem))
    (case a8 => k_is)
    (case l8 => k_is)
    (case e8 => k_is)
    (case k8 => k_is)
    (case g8 => k_is)
    (case v8 => rfl)
    (case q8 => kernel_rfl)
    (case n8 => kernel_rfl)
    (case t8 => exact hT8 _ (by k_mem))
    (case a9 => k_is)
    (case l9 => k_is)
    (case e9 => k_is)
    (case k9 => k_is)
    (case g9 => k_is)
    (case v9 => rfl)
    (case q9 => kernel_rfl)
    (case n9 => kernel_rfl)
    (case t9 => exact hT8 _ (by k_mem))
    (case a10 => k_is)
    (case l10 => k_is)
    (case e10 => k_is)
    (case k10 => k_is)
    (case a11 => k_is)
    (case l11 => k_is)
    (case e11 => k_is)
    (case k11 => k_is)
    (case a12 => k_is)
    (case l12 => k_is)
    (case e12 => k_is)
    (case k12 => k_is)
    (case a13 => k_is)
    (case l13 => k_is)
    (case e13 => k_is)
    (case k13 => k_is)
    (case a14 => k_is)
    (case l14 => k_is)
    (case e14 => k_is)
    (case k14 => k_is)
    (case a15 => k_is)
    (case l15 => k_is)
    (case e15 => k_is)
    (case k15 => k_is)
    (case a16 => k_is)
    (case l16 => k_is)
    (case e16 => k_is)
    (case k16 => k_is)
    (case a17 => k_is)
    (case l17 => k_is)
    (case e17 => k_is)
    (case k17 => k_is)
    (case a18 => k_is)
    (case l18 => k_is)
    (case e18 => k_is)
    (case k18 => k_is)
    (case a19 => k_is)
    (case l19 => k_is)
    (case e19 => k_is)
    (case k19 => k_is)
    (case a20 => k_is)
    (case l20 => k_is)
    (case e20 => k_is)
    (case k20 => k_is)
    (case a21 => k_is)
    (case l21 => k_is)
    (case e21 => k_is)
    (case k21 => k_is)
    (case a22 => k_is)
    (case l22 => k_is)
    (case e22 => k_is)
    (case k22 => k_is)
    (case a23 => k_is)
    (case l23 => k_is)
    (case e23 => k_is)
    (case k23 => k_is)
    (case a24 => k_is)
    (case l24 => k_is)
    (case e24 => k_is)
    (case k24 => k_is)
    (case a25 => k_is)
    (case l25 => k_is)
    (case e25 => k_is)
    (case k25 => k_is)
    (case a26 => k_is)
    (case l26 => k_is)
    (case e26 => k_is)
    (case k26 => k_is)
    (case a27 => k_is)
    (case l27 => k_is)
    (case e27 => k_is)
    (case k27 => k_is)
    (case a28 => k_is)
    (case l28 => k_is)
    (case e28 => k_is)
    (case k28 => k_is)
    (case a29 => k_is)
    (case l29 => k_is)
    (case e29 => k_is)
    (case k29 => k_is)
    (case a30 => k_is)
    (case l30 => k_is)
    (case e30 => k_is)
    (case k30 => k_is)
    (case a31 => k_is)
    (case l31 => k_is)
    (case e31 => k_is)
    (case k31 => k_is)
    (case a32 => k_is)
    (case l32 => k_is)
    (case e32 => k_is)
    (case k32 => k_is)
    (case a33 => k_is)
    (case l33 => k_is)
    (case e33 => k_is)
    (case k33 => k_is)
    (case a34 => k_is)
    (case i34 => k_is)
    (case l34 => k_is)
    (case e34 => k_is)
    (case k34 => k_is)
    (case a35 => k_is)
    (case i35 => k_is)
    (case l35 => k_is)
    (case e35 => k_is)
    (case k35 => k_is)
    (case a36 => k_is)
    (case i36 => k_is)
    (case l36 => k_is)
    (case e36 => k_is)
    (case k36 => k_is)
    (case a37 => k_is)
    (case i37 => k_is)
    (case l37 => k_is)
    (case e37 => k_is)
    (case k37 => k_is)
    (case a38 => k_is)
    (case l38 => k_is)
    (case e38 => k_is)
    (case k38 => k_is)
    (case a39 => k_is)
    (case l39 => k_is)
    (case e39 => k_is)
    (case k39 => k_is)
    (case a40 => k_is)
    (case l40 => k_is)
    (case e40 => k_is)
    (case k40 => k_is)
    (case a41 => k_is)
    (case l41 => k_is)
    (case e41 => k_is)
    (case k41 => k_is)
    (case a42 => k_is)
    (case l42 => k_is)
    (case e42 => k_is)
    (case k42 => k_is)
    (case a43 => k_is)
    (case l43 => k_is)
    (case e43 => k_is)
    (case k43 => k_is)
    (case a44 => k_is)
    (case l44 => k_is)
    (case e44 => k_is)
    (case k44 => k_is)
    (case a45 => k_is)
    (case l45 => k_is)
    (case e45 => k_is)
    (case k45 => k_is)
    (case a46 => k_is)
    (case l46 => k_is)
    (case e46 => k_is)
    (case k46 => k_is)
    (case a47 => k_is)
    (case l47 => k_is)
    (case e47 => k_is)
    (case k47 => k_is)
    (case a48 => k_is)
    (case l48 => k_is)
    (case e48 => k_is)
    (case k48 => k_is)
    (case a49 => k_is)
    (case l49 => k_is)
    (case e49 => k_is)
    (case k49 => k_is)
    (case a50 => k_is)
    (case l50 => k_is)
    (case e50 => k_is)
    (case k50 => k_is)
    (case a51 => k_is)
    (case l51 => k_is)
    (case e51 => k_is)
    (case k51 => k_is)
    (case a52 => k_is)
    (case l52 => k_is)
    (case e52 => k_is)
    (case k52 => k_is)
    (case a53 => k_is)
    (case l53 => k_is)
    (case e53 => k_is)
    (case k53 => k_is)
    (case a54 => k_is)
    (case l54 => k_is)
    (case e54 => k_is)
    (case k54 => k_is)
    (case a55 => k_is)
    (case l55 => k_is)
    (case e55 => k_is)
    (case k55 => k_is)
    (case a56 => k_is)
    (case l56 => k_is)
    (case e56 => k_is)
    (case k56 => k_is)
    (case a57 => k_is)
    (case l57 => k_is)
    (case e57 => k_is)
    (case k57 => k_is)
    (case a58 => k_is)
    (case l58 => k_is)
    (case e58 => k_is)
    (case k58 => k_is)
    (case a59 => k_is)
    (case l59 => k_is)
    (case e59 => k_is)
    (case k59 => k_is)
    (case a60 => k_is)
    (case l60 => k_is)
    (case e60 => k_is)
    (case k60 => k_is)
    (case a61 => k_is)
    (case l61 => k_is)
    (case e61 => k_is)
    (case k61 => k_is)
    (case a62 => k_is)
    (case l62 => k_is)
    (case e62 => k_is)
    (case k62 => k_is)
    (case a63 => k_is)
    (case l63 => k_is)
    (case e63 => k_is)
    (case k63 => k_is)
    (case a64 => k_is)
    (case l64 => k_is)
    (case e64 => k_is)
    (case k64 => k_is)
    (case a65 => k_is)
    (case l65 => k_is)
    (case e65 => k_is)
    (case k65 => k_is)
    (case a66 => k_is)
    (case l66 => k_is)
    (case e66 => k_is)
    (case k66 => k_is)
    (case a67 => k_is)
    (case l67 => k_is)
    (case e67 => k_is)
    (case k67 => k_is)
    (case a68 => k_is)
    (case l68 => k_is)
    (case e68 => k_is)
    (case k68 => k_is)
    (case a69 => k_is)
    (case l69 => k_is)
    (case e69 => k_is)
    (case k69 => k_is)
    (case da => k_is)
    (case dl => k_is)
    (case dk => k_keys)
    (case d_plus => k_is)
    (case d_less => k_is)
    (case d_times => k_is)
    (case d_over => k_is)
    (case d_rest => k_is)
    (case rpg => k_is)
    (case rhd => k_is)
    (case rpo => k_is)
    (case rsa => k_is)
    (case rmk => k_is)
    (case rkc => k_is)
    (case r_name => k_is)
    (case r_above => k_is)
    (case r_boxes => k_is)
    (case r_sayings => k_is)
    (case r_ask => k_is)
    (case r_told => k_is)
    (case r_promise => k_is)
    (case r_body => k_is)
    (case ppg => k_is)
    (case phd => k_is)
    (case ppo => k_is)
    (case psa => k_is)
    (case pmk => k_is)
    (case pkc => k_is)
    (case p_held => k_is)
    (case p_drawn => k_is)
    (case x_cl => k_is)
    (case x_get => k_is)
    (case x_tk => k_is)
    (case x_mro => k_is)
    (case nL => k_is)
    (case nsa => k_is)
    (case nga => k_is)
    (case ngg => k_is)
    (case nname => k_is)
    (case nft => k_is)
    (case nkC => k_is)
    (case nex => k_is)
    (case nty => k_is)
    (case nhd => k_is)
    (case nsub => first | rfl | k_is)
    (case ncl => k_is)
    (case nmro => k_is)
    (case nle => k_is)
    (case vL => k_is)
    (case dkd => exact ⟨⟨_, rfl⟩, ⟨_, rfl⟩, ⟨_, rfl⟩, ⟨_, rfl⟩, ⟨_, rfl⟩, trivial⟩)
    (case dsm => rfl)
    (case kwn => k_is)
    (case kwl => k_is)
    (case kwc => rfl)
    (case kwd => rfl)
    (case ltn => k_is)
    (case c_MOST_DEEP_TERM => k_is)
    (case c_MOST_TERMS => k_is)
    (case c_MOST_DEEP_STEP => k_is)
    (case c_MOST_STEPS => k_is)
    (case c_MOST_IN_BODY => k_is)
    (case c_MOST_ROOMS => k_is)
    (case c_MOST_FLOORS => k_is)
    (case c_MOST_BOXES => k_is)
    (case c_MOST_SAYINGS => k_is)
    (case c_MOST_BOUND => k_is)
    (case z1 => k_is)
    (case z2 => k_is)
    (case z3 => k_is)
    (case z4 => k_is)
    (case z5 => k_is)
    (case z6 => k_is)
    (case z7 => k_is)
    (case z8 => k_is)
    (case z9 => k_is)
    (case z10 => k_is)
    (case z11 => k_is)
    (case z12 => k_is)
    (case z13 => k_is)
    (case z14 => k_is)
    (case z15 => k_is)
    (case z16 => k_is)
    (case z17 => k_is)
    (case z18 => k_is)
    (case x_ne7_8 => exact (by decide))
    (case x_ne7_9 => exact (by decide))
    (case x_ne8_9 => exact (by decide))
#print axioms PySem.Challenge.cw_anystore_k05_places_holds
